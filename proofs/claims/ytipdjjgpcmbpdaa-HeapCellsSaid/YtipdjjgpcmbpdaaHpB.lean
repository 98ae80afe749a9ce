/- Name, Type. -/
import Derived.Test.YtipdjjgpcmbpdaaHpA
import Derived.Test.YtipdjjgpcmbpdaaShelf
import Derived.Laws.RangeString
import Derived.Deep.LoopGhost
import Derived.Laws.MakeOwn
import Derived.Test.YtipdjjgpcmbpdaaList10
import Derived.Test.YtipdjjgpcmbpdaaValsOpen
import Derived.Test.YtipdjjgpcmbpdaaList9
import Derived.Deep.Slices
set_option linter.unusedVariables false
namespace Go.Proofs.Ytipdjjgpcmbpdaa.Hp
open Go.RowKit Go.ChangeShapes Go.WideShapes Go.ChangeAt Go.Proofs.Ytipdjjgpcmbpdaa.Va Go.Proofs.Ytipdjjgpcmbpdaa.Ta Go.Proofs.Ytipdjjgpcmbpdaa.Li

theorem clone_str (s : ByteArray) (hs : s.size ≤ 281474976710656) (w : World) : Calls Try.prog 76 #[.string s] w fun e w' => e = .returned (.string s) ∧ Below w.heap.size w w' := by
  go_enter Try.func76, Try.ntmps76
  go_wp2_with fail
  refine (Try.stringslite_Clone s _ hs).mono ?_
  rintro e w' ⟨rfl, hb⟩
  go_wp2_with fail
  go_ret
  exact ⟨rfl, hb⟩
/-- The kinds' names, as they stand. -/
def NB : List UInt8 := [97, 114, 114, 97, 121, 32, 116, 97, 98, 108, 101, 32, 99, 108, 97, 115, 115, 32, 105, 110, 115, 116, 97, 110, 99, 101, 32, 102, 117, 110, 99, 116, 105, 111, 110, 32, 102, 117, 110, 99, 116, 105, 111, 110, 32, 103, 101, 110, 101, 114, 97, 116, 111, 114, 32, 116, 104, 114, 101, 97, 100, 32, 119, 101, 97, 107, 114, 101, 102, 32, 98, 111, 120, 32]
/-- What is found from a place on. -/
def goN (k : Int) : List UInt8 → Nat → Int → Nat → ByteArray
  | [], _, _, _ => ⟨#[]⟩
  | c :: l, i, a, f => if c = 32 then (if a = k then (⟨NB.toArray⟩ : ByteArray).extract f i else goN k l (i + 1) (a + 1) (i + 1)) else goN k l (i + 1) a f
def nm' (k : Int) : ByteArray := goN k NB 0 1 0
theorem NB_len : NB.length = 74 := by decide
theorem NB_low : ∀ c ∈ NB, c.toNat < 128 := by decide
set_option maxRecDepth 100000 in
set_option maxHeartbeats 4000000 in
theorem name_any (k : Int) (w : World) : Calls Try.prog 45 #[.int .i64 k] w fun x w' => x = .returned (.string (nm' k)) ∧ Below w.heap.size w w' := by
  obtain ⟨N, hN⟩ : ∃ N : ByteArray, (⟨NB.toArray⟩ : ByteArray) = N := ⟨_, rfl⟩
  have HR : Hid (goN k (NB.drop 0) 0 1 0 = nm' k) := rfl
  obtain ⟨R, hR⟩ : ∃ R, nm' k = R := ⟨_, rfl⟩
  rw [hR] at HR ⊢
  clear hR
  have HNS : Hid (N.size = 74) := by rw [← hN]; exact NB_len
  have HNL : Hid (∀ (i : Nat) (h : i < N.size), ∃ c, NB[i]? = some c ∧ N[i] = c ∧ c.toNat < 128) := fun i h => by
    subst hN
    have h' : i < NB.length := h
    exact ⟨NB[i], by simp [h'], rfl, NB_low _ (List.getElem_mem h')⟩
  have HNE : Hid (∀ f i, (⟨NB.toArray⟩ : ByteArray).extract f i = N.extract f i) := fun f i => by rw [hN]
  unfold NB at hN
  go_enter Try.func45, Try.ntmps45
  go_wp2_with fail
  go_loopg [3, 4, 5, 6] 74 (fun g s3 s4 _ _ wr => ∃ (i f : Nat) (a : Int), i ≤ 74 ∧ g = 74 - i ∧ f ≤ i ∧ s3 = .int .i64 a ∧ s4 = .int .i64 (f : Int) ∧ wr = w.iter N i ∧ Hid (goN k (NB.drop i) i a f = R) ∧ Hid (1 ≤ a ∧ a ≤ i + 1))
  case atStart => exact ⟨0, 0, 1, by omega, rfl, by omega, rfl, rfl, rfl, HR.out, ⟨by omega, by omega⟩⟩
  case round =>
    obtain ⟨i, f, a, hi, rfl, hf, rfl, rfl, rfl, HG, HA⟩ := hrel
    by_cases hlt : i < 74
    · have hlt' : i < N.size := by have := HNS.out; omega
      obtain ⟨c, h1, h2, h3⟩ := HNL.out i hlt'
      have hnx := fun ty => run_next_ascii (P := Try.prog) w N i ty hlt' (by rw [h2]; exact h3)
      rw [h2] at hnx
      have hdr : NB.drop i = c :: NB.drop (i + 1) := by
        obtain ⟨h4, h5⟩ := List.getElem?_eq_some_iff.1 h1
        rw [← h5]; exact List.drop_eq_getElem_cons h4
      have hG := HG.out
      rw [hdr] at hG
      unfold goN at hG
      have hiw : IntKind.i64.wrap ((i : Int) + 1) = (i : Int) + 1 := by rw [IntKind.wrap_i64]; omega
      have haw : IntKind.i64.wrap (a + 1) = a + 1 := by have := HA.out; rw [IntKind.wrap_i64]; omega
      by_cases hc : c = 32
      · have hc1 : ((c.toNat : Int) != 32) = false := by subst hc; decide
        rw [if_pos hc] at hG
        by_cases ha : a = k
        · rw [if_pos ha, HNE.out] at hG
          have ha1 : (a == k) = true := by simp [ha]
          have HGG := Lib.hid hG
          clear hG ha hc h1 h2 h3 hdr HR HG HNE HNL
          have hz1 : f ≤ N.size := by omega
          have hz2 : i ≤ N.size := by omega
          go_wp2_with fail
          refine (clone_str _ (by rw [ByteArray.size_extract]; omega) _).mono ?_
          rintro e w' ⟨rfl, hb⟩
          have HZ := Lib.hid (((Below.refl w.heap.size w).alloc (Nat.le_refl _) (.stringIter N (i + 1))).trans (hb.mono (show w.heap.size ≤ (w.iter N (i + 1)).heap.size by unfold World.iter; simp)))
          clear hb
          go_wp2_with fail
          go_ret
          rw [HGG.out]
          exact ⟨rfl, HZ.out⟩
        · rw [if_neg ha] at hG
          have ha1 : (a == k) = false := beq_eq_false_iff_ne.2 ha
          have HGG := Lib.hid hG
          clear hG ha hc h1 h2 h3 hdr HG
          go_wp2_with fail
          go_roundg (74 - (i + 1))
          case measure => omega
          case rel => exact ⟨i + 1, i + 1, a + 1, by omega, rfl, by omega, rfl, by go_num, rfl, HGG.out, by have := HA.out; exact ⟨by omega, by omega⟩⟩
      · have hc1 : ((c.toNat : Int) != 32) = true := by
          simp
          intro e
          apply hc
          have : c.toNat = 32 := by omega
          exact UInt8.toNat_inj.1 this
        rw [if_neg hc] at hG
        have HGG := Lib.hid hG
        clear hG hc h1 h2 h3 hdr HG
        go_wp2_with fail
        go_roundg (74 - (i + 1))
        case measure => omega
        case rel => exact ⟨i + 1, f, a, by omega, rfl, by omega, rfl, rfl, rfl, HGG.out, by have := HA.out; exact ⟨by omega, by omega⟩⟩
    · have hend : i = 74 := by omega
      subst hend
      have hnx := fun ty => run_next_end (P := Try.prog) w N 74 ty (by have := HNS.out; omega)
      have hG := HG.out
      have hdr : NB.drop 74 = [] := by decide
      rw [hdr] at hG
      unfold goN at hG
      have HGG := Lib.hid hG
      clear hG hdr HG hlt
      go_wp2_with fail
      go_ret
      rw [← HGG.out]
      exact ⟨rfl, (Below.refl w.heap.size w).alloc (Nat.le_refl _) (.stringIter N 74)⟩
theorem goN_none (k : Int) : ∀ (l : List UInt8) (i : Nat) (a : Int) (f : Nat), (k < a ∨ a + ((l.filter (· = 32)).length : Int) ≤ k) → goN k l i a f = ⟨#[]⟩
  | [], _, _, _, _ => rfl
  | c :: l, i, a, f, h => by
    unfold goN
    by_cases hc : c = 32
    · have hl : (((c :: l).filter (· = 32)).length : Int) = ((l.filter (· = 32)).length : Int) + 1 := by simp [hc]
      rw [if_pos hc, if_neg (by omega)]
      exact goN_none k l _ _ _ (by omega)
    · have hl : ((c :: l).filter (· = 32)).length = (l.filter (· = 32)).length := by simp [hc]
      rw [if_neg hc]
      exact goN_none k l _ _ _ (by rw [hl] at h; exact h)
theorem nm_none {k : Int} (h : k < 1 ∨ 11 ≤ k) : nm' k = ⟨#[]⟩ := goN_none k NB 0 1 0 (by
  have : (NB.filter (· = 32)).length = 10 := by decide
  rw [this]; omega)
set_option maxRecDepth 100000 in
theorem nm_one : nm' 1 = ⟨#[97, 114, 114, 97, 121]⟩ := by kernel_rfl
set_option maxRecDepth 100000 in
theorem nm_nine : nm' 9 = ⟨#[119, 101, 97, 107, 114, 101, 102]⟩ := by kernel_rfl
/-- Of: the cell of a value, if it is of a kind. -/
theorem of_yes {F : Nat → Option Nat} {B hb gc fc i a : Nat} {ga fa : Option Addr} {w : World} {H : Hd} {C : Ce} (h : HdP F B hb ga gc fa fc w H) (hi : H.cs[i]? = some (some (a, C))) (s : ByteArray) (k : Int) (hk : k = 0 ∨ C.k = k) :
    Calls Try.prog 33 #[.pointer (some ⟨hb, 0, none⟩), .agg #[.int .i64 4, .int .i64 (i : Int), .string s], .int .i64 k] w fun x w' => x = .returned (.tuple #[.pointer (some ⟨a, 0, none⟩), .int .i64 0]) ∧ Below w.heap.size w w' := by
  have hq := (Below.refl w.heap.size w).alloc (Nat.le_refl _) (.cells #[.int .i64 4, .int .i64 (i : Int), .string s] 30)
  have hP := hdP_below h hq
  have HG := Lib.hid (get_yes hP hi)
  obtain ⟨va, vc, na, nc, hC⟩ := hP.all i a C hi
  obtain ⟨c0, _, _, _, _, _⟩ := ce_cells hC
  have HQ := Lib.hid hq
  have hw : IntKind.i64.wrap (i : Int) = (i : Int) := by
    have h1 := (List.getElem?_eq_some_iff.1 hi).1
    have h2 := h.len.2
    rw [IntKind.wrap_i64]; omega
  clear h hi hq hP hC
  by_cases h0 : k = 0
  · have e0 : (k != 0) = false := by simp [h0]
    clear hk h0
    go_enter Try.func33, Try.ntmps33
    go_wp2_with fail
    refine HG.out.mono ?_
    rintro e w1 ⟨rfl, rfl⟩
    go_wp2_with fail
    go_ret2
    exact ⟨rfl, HQ.out⟩
  · have e0 : (k != 0) = true := by simp [h0]
    have e1 : (C.k != k) = false := by simp [hk.resolve_left h0]
    clear hk h0
    go_enter Try.func33, Try.ntmps33
    go_wp2_with fail
    refine HG.out.mono ?_
    rintro e w1 ⟨rfl, rfl⟩
    go_wp2_with fail
    go_ret2
    exact ⟨rfl, HQ.out⟩
theorem of_other {F : Nat → Option Nat} {B hb gc fc i a : Nat} {ga fa : Option Addr} {w : World} {H : Hd} {C : Ce} (h : HdP F B hb ga gc fa fc w H) (hi : H.cs[i]? = some (some (a, C))) (s : ByteArray) (k : Int) (hk : ¬ (k = 0 ∨ C.k = k)) :
    Calls Try.prog 33 #[.pointer (some ⟨hb, 0, none⟩), .agg #[.int .i64 4, .int .i64 (i : Int), .string s], .int .i64 k] w fun x w' => x = .returned (.tuple #[.pointer none, .int .i64 30]) ∧ Below w.heap.size w w' := by
  have hq := (Below.refl w.heap.size w).alloc (Nat.le_refl _) (.cells #[.int .i64 4, .int .i64 (i : Int), .string s] 30)
  have hP := hdP_below h hq
  have HG := Lib.hid (get_yes hP hi)
  obtain ⟨va, vc, na, nc, hC⟩ := hP.all i a C hi
  obtain ⟨c0, _, _, _, _, _⟩ := ce_cells hC
  have HQ := Lib.hid hq
  have hw : IntKind.i64.wrap (i : Int) = (i : Int) := by
    have h1 := (List.getElem?_eq_some_iff.1 hi).1
    have h2 := h.len.2
    rw [IntKind.wrap_i64]; omega
  have e0 : (k != 0) = true := by simp; exact fun e => hk (Or.inl e)
  have e1 : (C.k != k) = true := by simp; exact fun e => hk (Or.inr e)
  clear h hi hq hP hC hk
  go_enter Try.func33, Try.ntmps33
  go_wp2_with fail
  refine HG.out.mono ?_
  rintro e w1 ⟨rfl, rfl⟩
  go_wp2_with fail
  go_ret2
  exact ⟨rfl, HQ.out⟩
theorem of_val (hb : Nat) (k n : Int) (s : ByteArray) (q : Int) (hk : k ≠ 4) (w : World) :
    Calls Try.prog 33 #[.pointer (some ⟨hb, 0, none⟩), .agg #[.int .i64 k, .int .i64 n, .string s], .int .i64 q] w fun x w' => x = .returned (.tuple #[.pointer none, .int .i64 30]) ∧ Below w.heap.size w w' := by
  have e0 : (k != 4) = true := by simp [hk]
  have HQ := Lib.hid ((Below.refl w.heap.size w).alloc (Nat.le_refl _) (.cells #[.int .i64 k, .int .i64 n, .string s] 30))
  clear hk
  go_enter Try.func33, Try.ntmps33
  go_wp2_with fail
  go_ret2
  exact ⟨rfl, HQ.out⟩

set_option maxRecDepth 100000 in
theorem type_cell {F : Nat → Option Nat} {B hb gc fc i a : Nat} {ga fa : Option Addr} {w : World} {H : Hd} {C : Ce} (h : HdP F B hb ga gc fa fc w H) (hi : H.cs[i]? = some (some (a, C))) (s : ByteArray) :
    Calls Try.prog 48 #[.pointer (some ⟨hb, 0, none⟩), .agg #[.int .i64 4, .int .i64 (i : Int), .string s]] w fun x w' => x = .returned (.string (nm' C.k)) ∧ Below w.heap.size w w' := by
  have hq := (Below.refl w.heap.size w).alloc (Nat.le_refl _) (.cells #[.int .i64 4, .int .i64 (i : Int), .string s] 30)
  have hn := heap_alloc_new w (.cells #[.int .i64 4, .int .i64 (i : Int), .string s] 30)
  have hP := hdP_below h hq
  have HG := Lib.hid (of_yes hP hi s 0 (Or.inl rfl))
  obtain ⟨va, vc, na, nc, hC⟩ := hP.all i a C hi
  have HC := Lib.hid hC
  have HQ := Lib.hid hq
  have HN := Lib.hid hn
  obtain ⟨b0, b1, b2⟩ := Ta.three hn
  clear h hi hq hP hC hn
  go_enter Try.func48, Try.ntmps48
  go_wp2_with fail
  refine HG.out.mono ?_
  rintro e w1 ⟨rfl, hb1⟩
  obtain ⟨c0, _, _, _, _, _⟩ := ce_cells (ceP_below HC.out hb1)
  have HZ := Lib.hid (HQ.out.trans (hb1.mono HQ.out.size))
  clear b0 b1 b2 HG HC HQ HN hb1
  go_wp2_with fail
  refine (name_any C.k _).mono ?_
  rintro e w2 ⟨rfl, hb2⟩
  have HZ2 := Lib.hid (HZ.out.trans (hb2.mono HZ.out.size))
  clear hb2 c0 HZ
  go_wp2_with fail
  go_ret
  exact ⟨rfl, HZ2.out⟩
set_option maxRecDepth 100000 in
theorem vtype_str (n : Int) (s : ByteArray) (w : World) : Calls Try.prog 72 #[.agg #[.int .i64 3, .int .i64 n, .string s]] w fun x w' => x = .returned (.string ⟨#[115, 116, 114, 105, 110, 103]⟩) ∧ Below w.heap.size w w' := by
  have HQ := Lib.hid ((Below.refl w.heap.size w).alloc (Nat.le_refl _) (.cells #[.int .i64 3, .int .i64 n, .string s] 30))
  go_enter Try.func72, Try.ntmps72
  go_wp2_with fail
  go_ret
  exact ⟨rfl, HQ.out⟩
set_option maxRecDepth 100000 in
theorem type_str (hb : Nat) (n : Int) (s : ByteArray) (w : World) :
    Calls Try.prog 48 #[.pointer (some ⟨hb, 0, none⟩), .agg #[.int .i64 3, .int .i64 n, .string s]] w fun x w' => x = .returned (.string ⟨#[115, 116, 114, 105, 110, 103]⟩) ∧ Below w.heap.size w w' := by
  have hq := (Below.refl w.heap.size w).alloc (Nat.le_refl _) (.cells #[.int .i64 3, .int .i64 n, .string s] 30)
  have hn := heap_alloc_new w (.cells #[.int .i64 3, .int .i64 n, .string s] 30)
  have HQ := Lib.hid hq
  have HN := Lib.hid hn
  obtain ⟨b0, b1, b2⟩ := Ta.three hn
  clear hq hn
  go_enter Try.func48, Try.ntmps48
  go_wp2_with fail
  refine (of_val hb 3 n s 0 (by decide) _).mono ?_
  rintro e w1 ⟨rfl, hb1⟩
  have hn1 := (hb1.block _ (lt_of_block HN.out)).trans HN.out
  have HZ := Lib.hid (HQ.out.trans (hb1.mono HQ.out.size))
  clear b0 b1 b2 HQ HN hb1
  obtain ⟨b0, b1, b2⟩ := Ta.three hn1
  clear hn1
  go_wp2_with fail
  refine (vtype_str n s _).mono ?_
  rintro e w2 ⟨rfl, hb2⟩
  have HZ2 := Lib.hid (HZ.out.trans (hb2.mono HZ.out.size))
  clear hb2 HZ
  go_wp2_with fail
  go_ret
  exact ⟨rfl, HZ2.out⟩

/-- Is there a cell by a number? -/
def isCell (H : Hd) (i : Nat) : Bool := match H.cs[i]? with | some (some _) => true | _ => false
/-- One number is met. -/
def rst (H : Hd) (st : List Bool × List Int) (x : Int) : List Bool × List Int :=
  if 0 ≤ x ∧ isCell H x.toNat = true ∧ st.1[x.toNat]? = some false then (st.1.set x.toNat true, st.2 ++ [x]) else st
def OwnB (B : Nat) (ad : Option Addr) (w : World) (S : List Bool) : Prop := w.ownsRow B 4 1 (.slice ad S.length S.length) S.length (S.map .bool)
/-- What is met so far, and what is still to be gone on from. -/
structure RsP (B hb hx sx wx : Nat) (ad aw : Option Addr) (cw : Nat) (w : World) (S : List Bool) (L : List Int) : Prop where
  h : w.heap[hx]? = some (.cells #[.pointer (some ⟨hb, 0, none⟩)] 57 (0, 0))
  s : w.heap[sx]? = some (.cells #[.slice ad S.length S.length] 88 (0, 0))
  k : w.heap[wx]? = some (.cells #[.slice aw L.length cw] 46 (0, 0))
  sr : OwnB B ad w S
  kr : OwnI B aw cw w L
  low : B ≤ wx
def Rs (B hb hx sx wx : Nat) (gk : Option Nat) (w : World) (st : List Bool × List Int) : Prop := ∃ ad aw cw, RsP B hb hx sx wx ad aw cw w st.1 st.2 ∧ ∀ g, gk = some g → aw.map (·.block) ≠ some g
theorem rsP_below {B hb hx sx wx cw : Nat} {ad aw : Option Addr} {w w' : World} {S : List Bool} {L : List Int} (h : RsP B hb hx sx wx ad aw cw w S L) (hb' : Below w.heap.size w w') : RsP B hb hx sx wx ad aw cw w' S L :=
  ⟨(hb'.block _ (lt_of_block h.h)).trans h.h, (hb'.block _ (lt_of_block h.s)).trans h.s, (hb'.block _ (lt_of_block h.k)).trans h.k, Ta.row_below h.sr hb', Ta.row_below h.kr hb', h.low⟩
theorem rs_below {B hb hx sx wx : Nat} {gk : Option Nat} {w w' : World} {st : List Bool × List Int} (h : Rs B hb hx sx wx gk w st) (hb' : Below w.heap.size w w') : Rs B hb hx sx wx gk w' st := by
  obtain ⟨ad, aw, cw, h, h1⟩ := h
  exact ⟨ad, aw, cw, rsP_below h hb', h1⟩
theorem one_int {w : World} {g : Nat} {x : Int} (h : w.heap[g]? = some (.cells #[.int .i64 x] 3 (0, 0))) : OwnI 0 (some ⟨g, 0, none⟩) 1 w [x] :=
  ⟨rfl, .inr ⟨g, 1, #[.int .i64 x], rfl, Nat.zero_le _, h, by simp, by unfold maxLen; omega, by simp, by simp [ints]⟩⟩
theorem rst_no {H : Hd} {st : List Bool × List Int} {x : Int} (h : ¬ (0 ≤ x ∧ isCell H x.toNat = true ∧ st.1[x.toNat]? = some false)) : rst H st x = st := by unfold rst; rw [if_neg h]
theorem cell_cases (H : Hd) (x : Int) : (x < 0 ∨ (H.cs.length : Int) ≤ x) ∨ ∃ i : Nat, x = (i : Int) ∧ i < H.cs.length ∧ (H.cs[i]? = some none ∨ ∃ a C, H.cs[i]? = some (some (a, C))) := by
  by_cases h0 : x < 0 ∨ (H.cs.length : Int) ≤ x
  · exact Or.inl h0
  · obtain ⟨i, rfl⟩ : ∃ i : Nat, x = (i : Int) := ⟨x.toNat, by omega⟩
    refine Or.inr ⟨i, rfl, by omega, ?_⟩
    obtain ⟨c, hc⟩ := get_some (show i < H.cs.length by omega)
    rcases c with _ | ⟨a, C⟩
    · exact Or.inl hc
    · exact Or.inr ⟨a, C, hc⟩
theorem ints_len1 (L : List Int) : (ints L).length = L.length * 1 := by rw [ints_len, Nat.mul_one]
theorem ints_append (L M : List Int) : ints (L ++ M) = ints L ++ ints M := by unfold ints; exact List.map_append ..
set_option maxRecDepth 100000 in
theorem run_intsF {B cap c : Nat} {ad : Option Addr} {a : Addr} {w : World} {L M : List Int} (hm : L.length + M.length ≤ 4000000) (hB : B ≤ w.heap.size) (h : OwnI B ad cap w L) (hs : ∀ j u, (ints M)[j]? = some u → w.cell? (a.add j) = some u) :
    ∃ ad' cap' w', (Builtin.append_ #[46, 46] 46 #[.slice ad L.length cap, .slice (some a) M.length c]).run Try.prog w = .ok (.slice ad' (L ++ M).length cap') w' ∧ OwnI B ad' cap' w' (L ++ M) ∧ w.grownBy w' (ad.map (·.block)) ∧
      ∀ g, ad'.map (·.block) = some g → ad.map (·.block) = some g ∨ w.heap.size ≤ g := by
  obtain ⟨i0, hi, hz0, hz1, hz2⟩ := info_parts Va.A.infoI
  obtain ⟨v', w', hr, hown, hgr, _⟩ := run_append_own (P := Try.prog) (w := w) B 46 46 3 i0 (.int .i64 0) 1 8 Try.underlying46 hi hz0 hz1 hz2 rfl (by decide) _ L.length (ints L) h a M.length c (ints M) (ints_len1 M) hs (ints_cells M) (by unfold maxLen; omega) (by omega) hB
  obtain ⟨ad', cap', rfl⟩ := shapeI hown
  rw [Li.own_blockv] at hgr
  refine ⟨ad', cap', w', by rw [hr, List.length_append], ?_, hgr, ?_⟩
  · show World.ownsRow _ _ _ _ _ _ _
    rw [List.length_append, ints_append]; exact hown
  · intro g' hg'
    rcases h.2 with ⟨hv, hn⟩ | ⟨g, cap1, cur, hv, hbg, hg, hnc, hcm, hcs, htake⟩
    · simp only [Value.slice.injEq] at hv
      obtain ⟨rfl, _, rfl⟩ := hv
      by_cases h0 : M.length = 0
      · have hn0 : L.length + M.length = 0 := by omega
        rcases hown.2 with ⟨hv2, _⟩ | ⟨g2, c2, cur2, hv2, _, hg2, hle, _, hsz, _⟩
        · simp only [Value.slice.injEq] at hv2
          rw [hv2.1] at hg'; cases hg'
        · exfalso
          have e := hr
          rw [hn, h0] at e
          simp [Builtin.append_, run_underlying Try.underlying46, sizeOf, typeInfo, hi, Builtin.lenOf, Builtin.firstCells, loadCells, loadCellsFrom] at e
          simp only [Value.slice.injEq] at hv2
          rw [hv2.1] at e
          simp at e
      · right
        have e := hr
        rw [hn, run_append_nil (P := Try.prog) w 46 46 3 i0 _ Try.underlying46 hi hz0 a M.length c (ints M) (by rw [ints_len1, hz1]) hs (by omega) (by omega) (by rw [hz2]; omega)] at e
        simp only [Result.ok.injEq, Value.slice.injEq] at e
        rw [← e.1.1] at hg'
        simp at hg'; omega
    · simp only [Value.slice.injEq] at hv
      obtain ⟨rfl, _, rfl⟩ := hv
      by_cases hroom : L.length + M.length ≤ cap
      · left
        have e := hr
        rw [run_append_room (P := Try.prog) w 46 46 3 i0 Try.underlying46 hi g L.length cap cur hg a M.length c (ints M) (by rw [ints_len1, hz1]) hs (ints_cells M) hroom (by rw [hz1, ints_len1, hcs]; omega)] at e
        simp only [Result.ok.injEq, Value.slice.injEq] at e
        rw [← e.1.1] at hg'
        exact hg'
      · right
        have e := hr
        rw [run_append_grow (P := Try.prog) w 46 46 3 i0 _ Try.underlying46 hi hz0 ⟨g, 0, none⟩ L.length cap (ints L) (by rw [ints_len1, hz1]) (World.ownsRow.cells h (g := g) rfl) a M.length c (ints M) (by rw [ints_len1, hz1]) hs (by omega) (by omega) (growslice_fits (by omega) (by rw [hz2]; omega))] at e
        simp only [Result.ok.injEq, Value.slice.injEq] at e
        rw [← e.1.1] at hg'
        simp at hg'; omega

set_option maxRecDepth 100000 in
set_option maxHeartbeats 4000000 in
theorem reach_any {F : Nat → Option Nat} {B B0 hb gc fc hx sx wx : Nat} {ga fa : Option Addr} {w : World} {H : Hd} {gk : Option Nat} {st : List Bool × List Int} (x : Int) (h : HdP F B0 hb ga gc fa fc w H) (hs : Rs B hb hx sx wx gk w st) (hgk : ∀ g, gk = some g → ∃ cur fr, w.heap[g]? = some (.cells cur 3 fr)) (hB : B ≤ w.heap.size) (hl : st.1.length = H.cs.length) (hk : st.2.length ≤ 2000000) :
    Calls Try.prog 71 #[.int .i64 x, .pointer (some ⟨hx, 0, none⟩), .pointer (some ⟨sx, 0, none⟩), .pointer (some ⟨wx, 0, none⟩)] w fun e w' => e = .returned (.tuple #[]) ∧ Rs B hb hx sx wx gk w' (rst H st x) ∧ Below B w w' ∧ ∀ g, gk = some g → w'.heap[g]? = w.heap[g]? := by
  obtain ⟨S, L⟩ := st
  obtain ⟨ad, aw, cw, hs, hgw⟩ := hs
  have b0 := cell_of_one hs.h
  have b1 := cell_of_one hs.s
  have b2 := cell_of_one hs.k
  have HS := Lib.hid hs
  replace hl : S.length = H.cs.length := hl
  replace hk : L.length ≤ 2000000 := hk
  rcases cell_cases H x with ho | ⟨i, rfl, hil, hn | ⟨a, C, hc⟩⟩
  · have HG := Lib.hid (get_out h x ho)
    have HE : Hid (rst H (S, L) x = (S, L)) := rst_no (fun ⟨h1, h2, _⟩ => by
      unfold isCell at h2
      rw [List.getElem?_eq_none (by omega)] at h2
      cases h2)
    clear h hs ho hl hk hB
    go_enter Try.func71, Try.ntmps71
    go_wp2_with fail
    refine HG.out.mono ?_
    rintro e w1 ⟨rfl, rfl⟩
    go_wp2_with fail
    refine bodyPost_end (v := .tuple #[]) (Li.results_none rfl _ _) rfl ?_
    rw [HE.out]
    exact ⟨rfl, ⟨ad, aw, cw, HS.out, hgw⟩, Below.refl _ _, fun _ _ => rfl⟩
  · have HG := Lib.hid (get_gone h hn)
    have HE : Hid (rst H (S, L) i = (S, L)) := rst_no (fun ⟨h1, h2, _⟩ => by
      unfold isCell at h2
      rw [Int.toNat_natCast, hn] at h2
      cases h2)
    clear h hs hn hl hk hB hil
    go_enter Try.func71, Try.ntmps71
    go_wp2_with fail
    refine HG.out.mono ?_
    rintro e w1 ⟨rfl, rfl⟩
    go_wp2_with fail
    refine bodyPost_end (v := .tuple #[]) (Li.results_none rfl _ _) rfl ?_
    rw [HE.out]
    exact ⟨rfl, ⟨ad, aw, cw, HS.out, hgw⟩, Below.refl _ _, fun _ _ => rfl⟩
  · have HG := Lib.hid (get_yes h hc)
    obtain ⟨q, hq⟩ := get_some (show i < S.length by omega)
    obtain ⟨gs, rfl, hgB, _⟩ := row_some hs.sr (show 0 < S.length by omega)
    have r0 : w.cell? ⟨gs, i, none⟩ = some (.bool q) := (World.ownsRow.cellAt (n := S.length) (size := 1) hs.sr i (by omega)).trans (by rw [List.getElem?_map, hq]; rfl)
    have hi1 : (i : Int) < (S.length : Int) := by omega
    have hi0 : (0 : Int) ≤ (i : Int) := by omega
    cases q with
    | true =>
      have HE : Hid (rst H (S, L) i = (S, L)) := rst_no (fun ⟨h1, _, h3⟩ => by
        rw [Int.toNat_natCast] at h3
        simp only at h3
        rw [hq] at h3
        cases h3)
      clear h hs hc hl hk hB hil hq
      go_enter Try.func71, Try.ntmps71
      go_wp2_with fail
      refine HG.out.mono ?_
      rintro e w1 ⟨rfl, rfl⟩
      go_wp2_with fail
      refine bodyPost_end (v := .tuple #[]) (Li.results_none rfl _ _) rfl ?_
      rw [HE.out]
      exact ⟨rfl, ⟨_, aw, cw, HS.out, hgw⟩, Below.refl _ _, fun _ _ => rfl⟩
    | false =>
      have HE : Hid (rst H (S, L) i = (S.set i true, L ++ [(i : Int)])) := by
        show _ = _
        unfold rst
        rw [if_pos ⟨by omega, by unfold isCell; rw [Int.toNat_natCast, hc], by rw [Int.toNat_natCast]; exact hq⟩, Int.toNat_natCast]
      obtain ⟨_, cur, hcur⟩ := Ta.row_block hs.sr gs rfl
      have hst := World.ownsRow.stored hs.sr i (.bool true)
      have hz1 : Below B w (w.setCell ⟨gs, i, none⟩ (.bool true)) := (Below.refl B w).setCell (p := ⟨gs, i, none⟩) hgB _
      have hs1 : RsP B hb hx sx wx (some ⟨gs, 0, none⟩) aw cw (w.setCell ⟨gs, i, none⟩ (.bool true)) (S.set i true) L :=
        ⟨blk_box hs.h (ne_box hs.h hcur (by decide)), by rw [List.length_set]; exact blk_box hs.s (ne_box hs.s hcur (by decide)), blk_box hs.k (ne_box hs.k hcur (by decide)), by
          show World.ownsRow _ _ _ _ _ _ _
          rw [List.length_set, List.map_set]; exact hst.1, row_box_t hs.kr hcur (by decide), hs.low⟩
      have hq2 := (Below.refl _ (w.setCell ⟨gs, i, none⟩ (.bool true))).alloc (Nat.le_refl _) (.cells #[.int .i64 (i : Int)] 3)
      have hs2 := rsP_below hs1 hq2
      have hsz1 : (w.setCell ⟨gs, i, none⟩ (.bool true)).heap.size = w.heap.size := by simp [World.setCell]
      have hn2 : ((w.setCell ⟨gs, i, none⟩ (.bool true)).alloc (.cells #[.int .i64 (i : Int)] 3)).heap[w.heap.size]? = some (.cells #[.int .i64 (i : Int)] 3 (0, 0)) := by
        have := heap_alloc_new (w.setCell ⟨gs, i, none⟩ (.bool true)) (.cells #[.int .i64 (i : Int)] 3)
        rw [hsz1] at this
        exact this
      obtain ⟨aw', cw', w3, hr, hown, hgr, hfr⟩ := run_intsF (a := ⟨w.heap.size, 0, none⟩) (c := 1) (M := [(i : Int)]) (by simp; omega) (by simp [World.setCell]; omega) hs2.kr (fun j u hj => by
        match j, hj with
        | 0, hj =>
          simp [ints] at hj
          subst hj
          rw [Go.WideShapes.add_plain]
          exact cell_of_one hn2)
      have hlow3 : ∀ k, aw.map (·.block) = some k → B ≤ k := fun k e => (Ta.row_block hs2.kr k e).1
      have hz2 : Below B w ((w.setCell ⟨gs, i, none⟩ (.bool true)).alloc (.cells #[.int .i64 (i : Int)] 3)) := hz1.trans (hq2.mono (by rw [hsz1]; exact hB))
      have hz3 : Below B w w3 := hz2.grown hgr (by simp [World.setCell]; omega) hlow3
      have nb : ∀ {k : Nat} {cur : Array Value} {t : TypeId} {fr : Nat × Nat}, ((w.setCell ⟨gs, i, none⟩ (.bool true)).alloc (.cells #[.int .i64 (i : Int)] 3)).heap[k]? = some (.cells cur t fr) → t ≠ 3 → w3.heap[k]? = some (.cells cur t fr) := fun {k cur t fr} hk ht =>
        (hgr.block k (lt_of_block hk) (fun e => by
          obtain ⟨_, cur', hc'⟩ := Ta.row_block hs2.kr k e.symm
          rw [hk] at hc'
          cases hc'
          exact ht rfl)).trans hk
      have hh3 := nb hs2.h (by decide)
      have hss3 := nb hs2.s (by decide)
      have hk3 := nb hs2.k (by decide)
      have hsr3 : OwnB B (some ⟨gs, 0, none⟩) w3 (S.set i true) := row_move hs2.sr (fun g e => by
        obtain ⟨_, cur', hc'⟩ := Ta.row_block hs2.sr g e
        rw [hc']
        exact nb hc' (by decide))
      have hk4 := heap_setCell_same w3 wx 0 _ _ (.slice aw' (L.length + 1) cw') hk3
      have hz4 : Below B w (w3.setCell ⟨wx, 0, none⟩ (.slice aw' (L.length + 1) cw')) := hz3.setCell (p := ⟨wx, 0, none⟩) hs.low _
      have hR4 : Rs B hb hx sx wx gk (w3.setCell ⟨wx, 0, none⟩ (.slice aw' (L.length + 1) cw')) (S.set i true, L ++ [(i : Int)]) :=
        ⟨some ⟨gs, 0, none⟩, aw', cw', ⟨blk_box hh3 (ne_box hh3 hk3 (by decide)), blk_box hss3 (ne_box hss3 hk3 (by decide)), by
          rw [hk4]; simp, row_box_t hsr3 hk3 (by decide), row_box_t hown hk3 (by decide), hs.low⟩, fun g e e' => by
          rcases hfr g e' with h1 | h1
          · exact hgw g e h1
          · obtain ⟨cur', fr', hc'⟩ := hgk g e
            have h2 := lt_of_block hc'
            simp [World.setCell] at h1
            omega⟩
      have HKP : Hid (∀ g, gk = some g → (w3.setCell ⟨wx, 0, none⟩ (.slice aw' (L.length + 1) cw')).heap[g]? = w.heap[g]?) := fun g e => by
        obtain ⟨cur', fr', hc'⟩ := hgk g e
        have h1 : (w.setCell ⟨gs, i, none⟩ (.bool true)).heap[g]? = some (.cells cur' 3 fr') := blk_box hc' (ne_box hc' hcur (by decide))
        have h2 := (heap_alloc_old (w.setCell ⟨gs, i, none⟩ (.bool true)) (.cells #[.int .i64 (i : Int)] 3) (lt_of_block h1)).trans h1
        have h3 := (hgr.block g (lt_of_block h2) (fun e' => hgw g e e'.symm)).trans h2
        rw [blk_box h3 (ne_box h3 hk3 (by decide)), hc']
      have HR4 := Lib.hid hR4
      have HZ4 := Lib.hid hz4
      have d1 := cell_of_one hs2.s
      have d2 := cell_of_one hs2.k
      have e2 := cell_of_one hk3
      have y2 := free_of_one hk3
      have f1 : w.frozen? ⟨gs, i, none⟩ = false := World.ownsRow.frozenAt hs.sr i
      have g1 := cell_of_one hs1.s
      have g2 := cell_of_one hs1.k
      rw [List.length_append] at hr
      have hls : ¬ gs = sx := fun e => ne_box hs.s hcur (by decide) e.symm
      have hlk : ¬ gs = wx := fun e => ne_box hs.k hcur (by decide) e.symm
      clear h hs hc hl hk hB hil hq hcur hst hz1 hs1 hq2 hs2 hn2 hown hgr hfr hgk hgw hlow3 hz2 hz3 nb hh3 hss3 hk3 hsr3 hk4 hz4 hR4 HS
      go_enter Try.func71, Try.ntmps71
      go_wp2_with fail
      refine HG.out.mono ?_
      rintro e w1 ⟨rfl, rfl⟩
      go_wp2_with (at_builtin; refine Lib.wpList_append_run _ rfl _ _ _ _ rfl _ _ rfl rfl _ _ hr ?_)
      refine bodyPost_end (v := .tuple #[]) (Li.results_none rfl _ _) rfl ?_
      rw [HE.out]
      exact ⟨rfl, HR4.out, HZ4.out, HKP.out⟩

def feed (H : Hd) (st : List Bool × List Int) (l : List Int) : List Bool × List Int := l.foldl (rst H) st
def strongAt (H : Hd) (x : Int) : List Int := match H.cs[x.toNat]? with | some (some (_, C)) => strong C | _ => []
def drain (H : Hd) : Nat → List Bool × List Int → List Bool × List Int
  | 0, st => st
  | m + 1, st => match st.2.getLast? with
    | none => st
    | some x => drain H m (feed H (st.1, st.2.dropLast) (strongAt H x))
/-- What some numbers reach. -/
def rchd (H : Hd) (R : List Int) : List Bool := (drain H H.cs.length (feed H (List.replicate H.cs.length false, []) R)).1
def unseen (S : List Bool) : Nat := (S.filter (! ·)).length
def mu (st : List Bool × List Int) : Nat := unseen st.1 + st.2.length
theorem unseen_set : ∀ (S : List Bool) (i : Nat), S[i]? = some false → unseen (S.set i true) + 1 = unseen S
  | [], i, h => by simp at h
  | b :: S, 0, h => by
    simp at h; subst h
    simp [unseen]
  | b :: S, i + 1, h => by
    have ih := unseen_set S i (by simpa using h)
    unfold unseen at ih ⊢
    cases b <;> simp at ih ⊢ <;> omega
/-- What may be gone on from are cells. -/
def VW (H : Hd) (st : List Bool × List Int) : Prop := st.1.length = H.cs.length ∧ ∀ x ∈ st.2, ∃ (i a : Nat) (C : Ce), x = (i : Int) ∧ H.cs[i]? = some (some (a, C))
theorem rst_mu (H : Hd) (st : List Bool × List Int) (x : Int) : mu (rst H st x) = mu st := by
  unfold rst
  split
  · rename_i h
    have := unseen_set st.1 x.toNat h.2.2
    unfold mu
    simp
    omega
  · rfl
theorem rst_vw {H : Hd} {st : List Bool × List Int} (x : Int) (h : VW H st) : VW H (rst H st x) := by
  unfold rst
  split
  · rename_i h1
    refine ⟨by rw [List.length_set]; exact h.1, fun y hy => ?_⟩
    simp at hy
    rcases hy with hy | rfl
    · exact h.2 y hy
    · have h2 := h1.2.1
      unfold isCell at h2
      rcases hc : H.cs[y.toNat]? with _ | _ | ⟨a, C⟩
      · rw [hc] at h2; cases h2
      · rw [hc] at h2; cases h2
      · exact ⟨y.toNat, a, C, by omega, hc⟩
  · exact h
theorem feed_mu (H : Hd) : ∀ (l : List Int) (st : List Bool × List Int), mu (feed H st l) = mu st
  | [], st => rfl
  | x :: l, st => by
    show mu (feed H (rst H st x) l) = _
    rw [feed_mu H l, rst_mu]
theorem feed_vw {H : Hd} : ∀ (l : List Int) {st : List Bool × List Int}, VW H st → VW H (feed H st l)
  | [], _, h => h
  | x :: l, st, h => feed_vw l (rst_vw x h)
theorem feed_take {H : Hd} {st : List Bool × List Int} {l : List Int} {k : Nat} {x : Int} (h : l[k]? = some x) : feed H st (l.take (k + 1)) = rst H (feed H st (l.take k)) x := by
  obtain ⟨h1, h2⟩ := List.getElem?_eq_some_iff.1 h
  rw [List.take_succ_eq_append_getElem h1, h2]
  unfold feed
  rw [List.foldl_append]
  rfl
theorem mu_zero (n : Nat) : mu (List.replicate n false, []) = n := by
  unfold mu unseen
  simp
theorem drain_end (H : Hd) (m : Nat) (S : List Bool) : drain H m (S, []) = (S, []) := by cases m <;> rfl
def Ints (ra : Option Addr) (w : World) (R : List Int) : Prop := R = [] ∨ ∃ g off, ra = some ⟨g, off, none⟩ ∧ g < w.heap.size ∧ ∀ (i : Nat) (x : Int), R[i]? = some x → w.cell? ⟨g, off + i, none⟩ = some (.int .i64 x)
theorem ints_below {ra : Option Addr} {w w' : World} {R : List Int} (h : Ints ra w R) (hb : Below w.heap.size w w') : Ints ra w' R := by
  rcases h with h | ⟨g, off, e, hg, h⟩
  · exact Or.inl h
  · exact Or.inr ⟨g, off, e, Nat.lt_of_lt_of_le hg hb.size, fun i x hi => by rw [World.cell?_of_block (hb.block g hg)]; exact h i x hi⟩
theorem ints_own {B cap : Nat} {ad : Option Addr} {w : World} {R : List Int} (h : OwnI B ad cap w R) : Ints ad w R := by
  by_cases h0 : R = []
  · exact Or.inl h0
  · obtain ⟨g, rfl, _, hg⟩ := row_some h (List.length_pos_iff.2 h0)
    refine Or.inr ⟨g, 0, rfl, hg, fun i x hi => ?_⟩
    have hl := (List.getElem?_eq_some_iff.1 hi).1
    rw [Nat.zero_add]
    exact (World.ownsRow.cellAt (n := R.length) (size := 1) h i (by omega)).trans (by unfold ints; rw [List.getElem?_map, hi]; rfl)
/-- Cells of a size at which they are gone through. -/
def Small (H : Hd) : Prop := ∀ (i a : Nat) (C : Ce), H.cs[i]? = some (some (a, C)) → C.ts = none ∧ C.vs.length ≤ 100000 ∧ ∀ L, C.ls = some L → L.length ≤ 100000
theorem A.infoB : (Try.prog.info? 4).map (fun i => (i.zero, i.size, i.bytes)) = some (some (.bool false), 1, 1) := by kernel_rfl
theorem wrap_nat {m : Nat} (h : m ≤ 4000000) : wrap64 (m : Int) = (m : Int) := by unfold wrap64; omega
theorem mu_pos {S : List Bool} {L : List Int} {m g : Nat} (hm : L.length = m + 1) (h : mu (S, L) ≤ g) : ∃ g', g = g' + 1 ∧ mu (S, L.dropLast) ≤ g' ∧ m ≤ g' := by
  unfold mu at h
  simp only at h
  refine ⟨g - 1, by omega, ?_, by omega⟩
  unfold mu
  simp only [List.length_dropLast]
  omega
theorem strong_len {C : Ce} (h1 : C.ts = none) (h2 : C.vs.length ≤ 100000) (h3 : ∀ L, C.ls = some L → L.length ≤ 100000) : (strong C).length ≤ 200000 := by
  have h4 := cl_len C.vs
  unfold strong lsC tsC
  rw [h1]
  rcases hls : C.ls with _ | L
  · simp; omega
  · have h5 := cl_len L
    have h6 := h3 L hls
    simp; omega
theorem alloc4 (w : World) (A0 A1 A2 A3 : Obj) : ((((w.alloc A0).alloc A1).alloc A2).alloc A3).heap[w.heap.size]? = some A0 ∧ ((((w.alloc A0).alloc A1).alloc A2).alloc A3).heap[w.heap.size + 1]? = some A1 ∧ ((((w.alloc A0).alloc A1).alloc A2).alloc A3).heap[w.heap.size + 2]? = some A2 ∧ ((((w.alloc A0).alloc A1).alloc A2).alloc A3).heap[w.heap.size + 3]? = some A3 := by
  have s1 : (w.alloc A0).heap.size = w.heap.size + 1 := by simp
  have s2 : ((w.alloc A0).alloc A1).heap.size = w.heap.size + 2 := by simp
  have s3 : (((w.alloc A0).alloc A1).alloc A2).heap.size = w.heap.size + 3 := by simp
  have i0 := heap_alloc_new w A0
  have i1 := heap_alloc_new (w.alloc A0) A1
  have i2 := heap_alloc_new ((w.alloc A0).alloc A1) A2
  have i3 := heap_alloc_new (((w.alloc A0).alloc A1).alloc A2) A3
  rw [s1] at i1
  rw [s2] at i2
  rw [s3] at i3
  have j0 := (heap_alloc_old _ A1 (lt_of_block i0)).trans i0
  have k0 := (heap_alloc_old _ A2 (lt_of_block j0)).trans j0
  have k1 := (heap_alloc_old _ A2 (lt_of_block i1)).trans i1
  exact ⟨(heap_alloc_old _ A3 (lt_of_block k0)).trans k0, (heap_alloc_old _ A3 (lt_of_block k1)).trans k1, (heap_alloc_old _ A3 (lt_of_block i2)).trans i2, i3⟩
theorem alloc4_below (w : World) (A0 A1 A2 A3 : Obj) : Below w.heap.size w ((((w.alloc A0).alloc A1).alloc A2).alloc A3) :=
  ((((Below.refl w.heap.size w).alloc (Nat.le_refl _) A0).alloc (by simp) A1).alloc (by simp; omega) A2).alloc (by simp; omega) A3
set_option maxRecDepth 100000 in
set_option maxHeartbeats 8000000 in
theorem reached_any {F : Nat → Option Nat} {B hb gc fc rc : Nat} {ga fa ra : Option Addr} {w : World} {H : Hd} (R : List Int) (h : HdP F B hb ga gc fa fc w H) (hR : Ints ra w R) (hl : R.length ≤ 1000000) (hs : Small H) :
    Calls Try.prog 40 #[.pointer (some ⟨hb, 0, none⟩), .slice ra R.length rc] w fun x w' => ∃ ad, x = .returned (.slice ad (rchd H R).length (rchd H R).length) ∧ OwnB w.heap.size ad w' (rchd H R) ∧ Below w.heap.size w w' := by
  obtain ⟨ib, hib, hb0, hb1', hb2'⟩ := info_parts A.infoB
  have hn := h.len.2
  obtain ⟨n, hnn⟩ : ∃ n, H.cs.length = n := ⟨_, rfl⟩
  have mkB : ∀ W, (Instr.makeSlice 88 (.int .i64 (n : Int)) (.int .i64 (n : Int))).run Try.prog W = .ok (.slice (some ⟨W.heap.size, 0, none⟩) n n) (W.alloc (.cells (madeCells (Value.bool false).cells (n * 1)) 4)) := fun W => by
    have := run_makeSlice (P := Try.prog) W 88 4 ib _ Try.underlying88 hib hb0 .i64 .i64 (n : Int) (n : Int) (by omega) (by omega) (by rw [hb1']; simp; omega) (by rw [hb2']; omega) (by omega)
    rw [hb1'] at this
    exact this
  have hmz : (madeCells (Value.bool false).cells (n * 1)).toList = (List.replicate n false).map .bool := by
    show (madeCells #[.bool false] (n * 1)).toList = _
    rw [Nat.mul_one, toList_madeCells_one, List.map_replicate]
  generalize madeCells (Value.bool false).cells (n * 1) = AB at *
  have hq1 := (Below.refl w.heap.size w).alloc (Nat.le_refl _) (.cells #[.pointer (some ⟨hb, 0, none⟩)] 57)
  obtain ⟨c0, c1, c2, c3, c4, z0, z1, z3, z4⟩ := hd_cells (hdP_below h hq1)
  rw [hnn] at c0
  have HH := Lib.hid h
  have HRR := Lib.hid hR
  have HL := Lib.hid hl
  have HS := Lib.hid hs
  have HMZ := Lib.hid hmz
  have HN := Lib.hid hn
  have HNN := Lib.hid hnn
  clear h hR hl hs hmz hn hnn c1 c2 c3 c4 z0 z1 z3 z4 hq1
  go_enter Try.func40, Try.ntmps40
  go_wp2_with fail
  obtain ⟨a0, a1, a2, a3⟩ := alloc4 w (.cells #[.pointer (some ⟨hb, 0, none⟩)] 57) (.cells AB 4) (.cells #[.slice (some ⟨w.heap.size + 1, 0, none⟩) n n] 88) (.cells #[.slice none 0 0] 46)
  have hz0 := alloc4_below w (.cells #[.pointer (some ⟨hb, 0, none⟩)] 57) (.cells AB 4) (.cells #[.slice (some ⟨w.heap.size + 1, 0, none⟩) n n] 88) (.cells #[.slice none 0 0] 46)
  generalize (((w.alloc (.cells #[.pointer (some ⟨hb, 0, none⟩)] 57)).alloc (.cells AB 4)).alloc (.cells #[.slice (some ⟨w.heap.size + 1, 0, none⟩) n n] 88)).alloc (.cells #[.slice none 0 0] 46) = W0 at *
  have HZ0 := Lib.hid hz0
  have HRS : Hid (Rs w.heap.size hb w.heap.size (w.heap.size + 2) (w.heap.size + 3) none W0 (List.replicate n false, [])) :=
    ⟨some ⟨w.heap.size + 1, 0, none⟩, none, 0, ⟨a0, by simpa using a2, a3, by
      have hsz : AB.size = n := by
        have := congrArg List.length HMZ.out
        simpa using this
      show World.ownsRow _ _ _ _ _ _ _
      simp only [List.length_replicate]
      exact ⟨by simp, .inr ⟨w.heap.size + 1, n, AB, rfl, Nat.le_succ _, a1, Nat.le_refl _, by have := HN.out; have := HNN.out; unfold maxLen; omega, by rw [hsz, Nat.mul_one], by rw [Nat.mul_one, List.take_of_length_le (by rw [Array.length_toList]; omega)]; exact HMZ.out⟩⟩, World.ownsRow_nil _ _ _ _, Nat.le_add_right _ _⟩, fun g e => by cases e⟩
  clear a0 a1 a2 a3 hz0 HMZ mkB c0
  go_loopw [9, 22] (fun _ i wr => ∃ k : Nat, k ≤ R.length ∧ i = .int .i64 (k : Int) ∧ Hid (Rs w.heap.size hb w.heap.size (w.heap.size + 2) (w.heap.size + 3) none wr (feed H (List.replicate n false, []) (R.take k))) ∧ Hid (Below w.heap.size w wr)) (fun _ i _ => R.length - (intOf i).toNat)
  case atStart => exact ⟨0, by omega, rfl, HRS.out, HZ0.out⟩
  case round =>
    obtain ⟨k, hk, rfl, HX, HZ⟩ := hrel
    by_cases hlt : k < R.length
    · obtain ⟨x, hx⟩ := get_some hlt
      have HT := Lib.hid (feed_take (H := H) (st := (List.replicate n false, [])) hx)
      have hv : VW H (feed H (List.replicate n false, []) (R.take k)) := feed_vw _ ⟨by simp; exact HNN.out.symm, fun x hx => by simp at hx⟩
      have hmu : mu (feed H (List.replicate n false, []) (R.take k)) = n := by rw [feed_mu, mu_zero]
      have HC := Lib.hid (reach_any x (hdP_below HH.out HZ.out) HX.out (fun g e => by cases e) HZ.out.size hv.1 (by have := HN.out; have := HNN.out; unfold mu at hmu; omega))
      rcases ints_below HRR.out HZ.out with rfl | ⟨g, off, rfl, hg, hcell⟩
      · simp at hlt
      have r0 := hcell k x hx
      have hk1 : (k : Int) < (R.length : Int) := by omega
      have hkw : IntKind.i64.wrap ((k : Int) + 1) = (k : Int) + 1 := by have := HL.out; rw [IntKind.wrap_i64]; omega
      clear hv hmu hx hcell
      go_wp2_with fail
      refine HC.out.mono ?_
      rintro e w1 ⟨rfl, h1, h2, _⟩
      have HX1 := Lib.hid h1
      have HZ1 := Lib.hid (HZ.out.trans h2)
      clear h1 h2 HC HX HZ
      go_wp2_with fail
      go_roundw
      case rel => exact ⟨k + 1, by omega, by go_num, by rw [HT.out]; exact HX1.out, HZ1.out⟩
      case measure => simp [intOf]; omega
    · have hke : k = R.length := by omega
      rw [hke, List.take_length] at HX
      have hke2 : ¬ (k : Int) < (R.length : Int) := by omega
      clear hlt hk hke HRS HZ0
      have hmu : mu (feed H (List.replicate n false, []) R) = n := by rw [feed_mu, mu_zero]
      have hvw : VW H (feed H (List.replicate n false, []) R) := feed_vw _ ⟨by simp; exact HNN.out.symm, fun x hx => by simp at hx⟩
      have HFIN : Hid (rchd H R = (drain H n (feed H (List.replicate n false, []) R)).1) := by
        show _ = _
        unfold rchd
        rw [HNN.out]
      generalize feed H (List.replicate n false, []) R = st0 at *
      have HVW := Lib.hid hvw
      have HMU := Lib.hid hmu
      clear hmu hvw
      go_wp2_with fail
      go_loopg [10, 12] n (fun g _ _ wr => ∃ st : List Bool × List Int, Hid (mu st ≤ g) ∧ Hid (drain H g st = drain H n st0) ∧ Hid (VW H st) ∧ Hid (g ≤ n) ∧ Hid (Rs w.heap.size hb w.heap.size (w.heap.size + 2) (w.heap.size + 3) none wr st) ∧ Hid (Below w.heap.size w wr))
      case atStart => exact ⟨st0, Nat.le_of_eq HMU.out, rfl, HVW.out, Nat.le_refl _, HX.out, HZ.out⟩
      case round =>
        rename Nat => g
        obtain ⟨st, HG, HD, HV, HGN, HY, HZ1⟩ := hrel
        obtain ⟨S, L⟩ := st
        obtain ⟨ad, aw, cw, hP, _⟩ := HY.out
        have b1 := cell_of_one hP.s
        have b2 := cell_of_one hP.k
        have b0 := cell_of_one hP.h
        by_cases h0 : L = []
        · subst h0
          have HE : Hid (rchd H R = S) := by
            have h1 := HFIN.out
            rw [← HD.out, drain_end] at h1
            exact h1
          have HSR := Lib.hid hP.sr
          clear hP HY HG HD HV HFIN
          go_wp2_with fail
          go_ret
          rw [HE.out]
          exact ⟨ad, rfl, HSR.out, HZ1.out⟩
        · obtain ⟨m, hm⟩ : ∃ m, L.length = m + 1 := ⟨L.length - 1, by have := List.length_pos_iff.2 h0; omega⟩
          obtain ⟨x, hx⟩ := get_some (show m < L.length by omega)
          have hlast : L.getLast? = some x := by
            rw [List.getLast?_eq_getElem?, hm, Nat.add_sub_cancel]; exact hx
          obtain ⟨i, a, C, rfl, hc⟩ := HV.out.2 x (List.mem_of_getElem? hx)
          obtain ⟨gw, rfl, hgB, _⟩ := row_some hP.kr (show 0 < L.length by omega)
          have r0 : wr.cell? ⟨gw, m, none⟩ = some (.int .i64 (i : Int)) := (World.ownsRow.cellAt (n := L.length) (size := 1) hP.kr m (by show m < L.length * 1; omega)).trans (by show (ints L)[m]? = _; unfold ints; rw [List.getElem?_map, hx]; rfl)
          have hk1 := heap_setCell_same wr (w.heap.size + 3) 0 _ _ (.slice (some ⟨gw, 0, none⟩) m cw) hP.k
          have hz1 : Below w.heap.size w (wr.setCell ⟨w.heap.size + 3, 0, none⟩ (.slice (some ⟨gw, 0, none⟩) m cw)) := HZ1.out.setCell (p := ⟨w.heap.size + 3, 0, none⟩) (Nat.le_add_right _ _) _
          have hP1 : RsP w.heap.size hb w.heap.size (w.heap.size + 2) (w.heap.size + 3) ad (some ⟨gw, 0, none⟩) cw (wr.setCell ⟨w.heap.size + 3, 0, none⟩ (.slice (some ⟨gw, 0, none⟩) m cw)) S L.dropLast :=
            ⟨blk_box hP.h (ne_box hP.h hP.k (by decide)), blk_box hP.s (ne_box hP.s hP.k (by decide)), by
              rw [hk1, List.length_dropLast, hm, Nat.add_sub_cancel]; simp, row_box_t hP.sr hP.k (by decide), by
              have := row_cut (m := m) (row_box_t (o := 0) (v := .slice (some ⟨gw, 0, none⟩) m cw) hP.kr hP.k (by decide)) (show m ≤ L.length by omega)
              show World.ownsRow _ _ _ _ _ _ _
              rw [List.length_dropLast, hm, Nat.add_sub_cancel, List.dropLast_eq_take, hm, Nat.add_sub_cancel]
              unfold ints at this ⊢
              rw [List.map_take]
              exact this, hP.low⟩
          have hHH := hdP_below HH.out hz1
          obtain ⟨d0, _, _, _, _, _, _, _, _⟩ := hd_cells hHH
          rw [HNN.out] at d0
          obtain ⟨gc', rfl, p0⟩ := ptr_at hHH.row hc
          unfold ptr at p0
          obtain ⟨va, vc, na, nc, hC⟩ := hHH.all i a C hc
          obtain ⟨hs1, hs2, hs3⟩ := HS.out i a C hc
          have HSC := Lib.hid (strong_any hC hs1 (by omega) (fun L e => by have := hs3 L e; omega))
          have e0 := cell_of_one hP1.h
          have e1 := cell_of_one hk1
          have f1 := free_of_one hP.k
          have hlt : (i : Int) < (n : Int) := by have := (List.getElem?_eq_some_iff.1 hc).1; have := HNN.out; omega
          have hi0 : (0 : Int) ≤ (i : Int) := by omega
          have hm0 : (0 : Int) < (m : Int) + 1 := by omega
          have hm1 : (m : Int) < (m : Int) + 1 := by omega
          have hmc : m ≤ cw := by have : L.length ≤ cw := row_cap hP.kr; omega
          obtain ⟨g', rfl, hmu2, hmg⟩ := mu_pos hm HG.out
          have hmw : wrap64 (m : Int) = (m : Int) := wrap_nat (by have h2 := HGN.out; have h3 := HN.out; have h4 := HNN.out; omega)
          rw [hm] at b2
          have HP1 := Lib.hid hP1
          have HZZ := Lib.hid hz1
          have hsa : strongAt H (i : Int) = strong C := by
            unfold strongAt
            rw [Int.toNat_natCast, hc]
          have HMM := Lib.hid hmu2
          have HM2 : Hid (mu (feed H (S, L.dropLast) (strong C)) ≤ g') := by show _ ≤ _; rw [feed_mu]; exact hmu2
          have HD2 : Hid (drain H g' (feed H (S, L.dropLast) (strong C)) = drain H n st0) := by
            show _ = _
            rw [← HD.out]
            show _ = (match L.getLast? with | none => (S, L) | some x => drain H g' (feed H (S, L.dropLast) (strongAt H x)))
            rw [hlast]
            show _ = drain H g' (feed H (S, L.dropLast) (strongAt H (i : Int)))
            rw [hsa]
          have hv2 : VW H (S, L.dropLast) := ⟨HV.out.1, fun y hy => HV.out.2 y (List.dropLast_subset L hy)⟩
          have HV2 := Lib.hid hv2
          have HSL := Lib.hid (strong_len hs1 hs2 hs3)
          clear hP hk1 hz1 hP1 hHH hC hs1 hs2 hs3 hx h0 hlast hsa hmu2 hmg hv2 HD HG HV
          go_wp2_with fail
          refine HSC.out.mono ?_
          rintro e w2 ⟨ak, ck, rfl, ho, hb2⟩
          have hsz : (wr.setCell ⟨w.heap.size + 3, 0, none⟩ (.slice (some ⟨gw, 0, none⟩) m cw)).heap.size = wr.heap.size := by simp [World.setCell]
          have HR2 : Hid (Rs w.heap.size hb w.heap.size (w.heap.size + 2) (w.heap.size + 3) (ak.map (·.block)) w2 (S, L.dropLast)) := ⟨ad, some ⟨gw, 0, none⟩, cw, rsP_below HP1.out hb2, fun g e e' => by
            obtain ⟨h1, _⟩ := Ta.row_block ho g e
            rw [hsz] at h1
            have h2 := World.block_lt_of_cell? wr _ r0
            simp at e' h2
            omega⟩
          have HZ2 := Lib.hid (HZZ.out.trans (hb2.mono HZZ.out.size))
          have HO := Lib.hid ho
          generalize strong C = SC at *
          clear ho hb2 hsz HSC HP1 HZZ r0 e0 e1 f1 d0 p0 b0 b1 b2 HX HZ HY HZ1
          go_wp2_with fail
          go_loopw [12, 53] (fun _ i wx => ∃ k : Nat, k ≤ SC.length ∧ i = .int .i64 (k : Int) ∧ Hid (Rs w.heap.size hb w.heap.size (w.heap.size + 2) (w.heap.size + 3) (ak.map (·.block)) wx (feed H (S, L.dropLast) (SC.take k))) ∧ Hid (Below w.heap.size w wx) ∧ Hid (∀ g, ak.map (·.block) = some g → wx.heap[g]? = w2.heap[g]?)) (fun _ i _ => SC.length - (intOf i).toNat)
          case atStart => exact ⟨0, by omega, rfl, HR2.out, HZ2.out, fun _ _ => rfl⟩
          case round =>
            obtain ⟨k, hk, rfl, HX, HZ, HK⟩ := hrel
            by_cases hlt2 : k < SC.length
            · obtain ⟨x, hx⟩ := get_some hlt2
              have HT := Lib.hid (feed_take (H := H) (st := (S, L.dropLast)) hx)
              have hvk : VW H (feed H (S, L.dropLast) (SC.take k)) := feed_vw _ HV2.out
              have hmuk : mu (feed H (S, L.dropLast) (SC.take k)) ≤ g' := by rw [feed_mu]; exact HMM.out
              have HC := Lib.hid (reach_any x (hdP_below HH.out HZ.out) HX.out (fun g e => by
                obtain ⟨_, cur, hc'⟩ := Ta.row_block HO.out g e
                exact ⟨cur, _, (HK.out g e).trans hc'⟩) HZ.out.size hvk.1 (by have h1 := HGN.out; have h2 := HN.out; have h3 := HNN.out; unfold mu at hmuk; omega))
              obtain ⟨gk, hgk, _, _⟩ := row_some HO.out (by omega)
              have hok : OwnI _ ak ck wr SC := ownI_move HO.out (fun g cur e hc' => (HK.out g e).trans hc')
              have r0 : wr.cell? ⟨gk, k, none⟩ = some (.int .i64 x) := by
                rw [hgk] at hok
                exact (World.ownsRow.cellAt (n := SC.length) (size := 1) hok k (by omega)).trans (by unfold ints; rw [List.getElem?_map, hx]; rfl)
              have hk1 : (k : Int) < (SC.length : Int) := by omega
              have hkw : IntKind.i64.wrap ((k : Int) + 1) = (k : Int) + 1 := by have := HSL.out; rw [IntKind.wrap_i64]; omega
              subst hgk
              clear hvk hmuk hx hok
              go_wp2_with fail
              refine HC.out.mono ?_
              rintro e w3 ⟨rfl, h1, h2, h3⟩
              have HX1 := Lib.hid h1
              have HZ1 := Lib.hid (HZ.out.trans h2)
              have HK1 := Lib.hid (fun g e => (h3 g e).trans (HK.out g e))
              clear h1 h2 h3 HC HX HZ HK
              go_wp2_with fail
              go_roundw
              case rel => exact ⟨k + 1, by omega, by go_num, by rw [HT.out]; exact HX1.out, HZ1.out, HK1.out⟩
              case measure => simp [intOf]; omega
            · have hke : k = SC.length := by omega
              rw [hke, List.take_length] at HX
              have hke2 : ¬ (k : Int) < (SC.length : Int) := by omega
              clear hlt2 hk hke
              go_wp2_with fail
              go_roundg g'
              case measure => omega
              case rel =>
                refine ⟨feed H (S, L.dropLast) SC, HM2.out, HD2.out, feed_vw _ HV2.out, ?_, ?_, HZ.out⟩
                · have := HGN.out; show _ ≤ _; omega
                · obtain ⟨ad', aw', cw', h1, _⟩ := HX.out
                  exact ⟨ad', aw', cw', h1, fun g e => by cases e⟩

/-- A weak cell whose cell isn't reached tells of none. -/
def forg (S : List Bool) (C : Ce) : Ce := if 0 ≤ tgt C ∧ S[(tgt C).toNat]? ≠ some true then { C with ns := (-1) :: C.ns.tail } else C
def Hd.turn (H : Hd) (i a : Nat) (C : Ce) : Hd := { H with cs := H.cs.set i (some (a, C)) }
theorem turn_same {H : Hd} {i a : Nat} {C : Ce} (h : H.cs[i]? = some (some (a, C))) : H.turn i a C = H := by
  unfold Hd.turn
  have : H.cs.set i (some (a, C)) = H.cs := by
    apply List.ext_getElem?
    intro j
    rw [List.getElem?_set]
    split
    · rename_i e
      subst e
      split
      · exact h.symm
      · rename_i h1
        rw [List.getElem?_eq_none (by omega)]
    · rfl
  rw [this]
theorem turn_at {H : Hd} {i j a x : Nat} {C D : Ce} (h : (H.turn i a C).cs[j]? = some (some (x, D))) : (j = i ∧ x = a ∧ D = C) ∨ (j ≠ i ∧ H.cs[j]? = some (some (x, D))) := by
  unfold Hd.turn at h
  simp only at h
  rw [List.getElem?_set] at h
  split at h
  · rename_i e
    split at h
    · simp at h; exact Or.inl ⟨e.symm, h.1.symm, h.2.symm⟩
    · cases h
  · rename_i e
    exact Or.inr ⟨fun e' => e e'.symm, h⟩
/-- Only blocks of some types have turned. -/
structure FrX (ts : List TypeId) (w w' : World) : Prop where
  os : w'.os = w.os
  tape : w'.tape = w.tape
  output : w'.output = w.output
  size : w.heap.size ≤ w'.heap.size
  block : ∀ (k : Nat) (A : Obj), w.heap[k]? = some A → (∀ cur t fr, A = .cells cur t fr → t ∉ ts) → w'.heap[k]? = some A
theorem frX_refl (ts : List TypeId) (w : World) : FrX ts w w := ⟨rfl, rfl, rfl, Nat.le_refl _, fun _ _ h _ => h⟩
theorem frX_trans {ts : List TypeId} {w W w' : World} (h1 : FrX ts w W) (h2 : FrX ts W w') : FrX ts w w' :=
  ⟨h2.os.trans h1.os, h2.tape.trans h1.tape, h2.output.trans h1.output, Nat.le_trans h1.size h2.size, fun k A h n => h2.block k A (h1.block k A h n) n⟩
theorem frX_below {ts : List TypeId} {w w' : World} (h : Below w.heap.size w w') : FrX ts w w' := ⟨h.os, h.tape, h.output, h.size, fun k A hA _ => (h.block k (lt_of_block hA)).trans hA⟩
theorem frX_set {ts : List TypeId} {w : World} {g o : Nat} {v : Value} {cur : Array Value} {t : TypeId} {fr : Nat × Nat} (h : w.heap[g]? = some (.cells cur t fr)) (ht : t ∈ ts) : FrX ts w (w.setCell ⟨g, o, none⟩ v) :=
  ⟨rfl, rfl, rfl, by simp [World.setCell], fun k A hA hn => blk_box hA (by
    rintro rfl
    rw [h] at hA
    exact hn cur t fr (Option.some.inj hA).symm ht)⟩
theorem frX_grown {ts : List TypeId} {w w' : World} {row : Option Nat} (h : w.grownBy w' row) (hr : ∀ r, row = some r → ∃ cur t fr, w.heap[r]? = some (.cells cur t fr) ∧ t ∈ ts) : FrX ts w w' :=
  ⟨h.os, h.tape, h.output, h.size, fun k A hA hn => by
    have hne : some k ≠ row := fun e => by
      obtain ⟨cur, t, fr, hc, ht⟩ := hr k e.symm
      rw [hA] at hc
      exact hn cur t fr (Option.some.inj hc) ht
    rw [h.block k (lt_of_block hA) hne]; exact hA⟩
theorem frX_blk {ts : List TypeId} {w w' : World} {k : Nat} {cur : Array Value} {t : TypeId} {fr : Nat × Nat} (hf : FrX ts w w') (h : w.heap[k]? = some (.cells cur t fr)) (ht : t ∉ ts) : w'.heap[k]? = some (.cells cur t fr) :=
  hf.block k _ h (fun cur' t' fr' e => by cases e; exact ht)
theorem frX_row {ts : List TypeId} {w w' : World} {B e size n cap : Nat} {ad : Option Addr} {xs : List Value} (hf : FrX ts w w') (h : w.ownsRow B e size (.slice ad n cap) n xs) (he : e ∉ ts) : w'.ownsRow B e size (.slice ad n cap) n xs :=
  row_move h fun g x => by
    obtain ⟨_, cur, hc⟩ := Ta.row_block h g x
    rw [hc]
    exact frX_blk hf hc he
theorem frX_mono {ts us : List TypeId} {w w' : World} (hf : FrX ts w w') (h : ∀ t ∈ ts, t ∈ us) : FrX us w w' :=
  ⟨hf.os, hf.tape, hf.output, hf.size, fun k A hA hn => hf.block k A hA (fun cur t fr e ht => hn cur t fr e (h t ht))⟩
theorem frX_p {w w' : World} (h : FrP w w') : FrX [117, 71] w w' :=
  ⟨h.os, h.tape, h.output, h.size, fun k A hA hn => h.block k A hA (fun cur t fr e => by have := hn cur t fr e; simp at this; exact this)⟩
/-- The numbers of one cell turn. -/
theorem hdP_nums {F : Nat → Option Nat} {B hb gc fc vc nc i a gn : Nat} {ga fa va : Option Addr} {w : World} {H : Hd} {C : Ce} {n0 : Int} {ns : List Int} (h : HdP F B hb ga gc fa fc w H) (hi : H.cs[i]? = some (some (a, C))) (hC : CeP F B a va vc (some ⟨gn, 0, none⟩) nc w C) (hn : C.ns = n0 :: ns) (x : Int) :
    HdP F B hb ga gc fa fc (w.setCell ⟨gn, 0, none⟩ (.int .i64 x)) (H.turn i a { C with ns := x :: ns }) ∧ FrX [2] w (w.setCell ⟨gn, 0, none⟩ (.int .i64 x)) ∧ Below B w (w.setCell ⟨gn, 0, none⟩ (.int .i64 x)) := by
  obtain ⟨hgB, cur, hcur⟩ := Ta.row_block hC.ns gn rfl
  have hf : FrX [2] w (w.setCell ⟨gn, 0, none⟩ (.int .i64 x)) := frX_set hcur (by simp)
  have hz : Below B w (w.setCell ⟨gn, 0, none⟩ (.int .i64 x)) := (Below.refl B w).setCell (p := ⟨gn, 0, none⟩) hgB _
  have hfn := hC.fn gn rfl
  have hst := (World.ownsRow.stored hC.ns 0 (.int .i64 x)).1
  have hb1 : w.heap[hb]? = some (hdB (H.turn i a { C with ns := x :: ns }) ga gc fa fc) := by
    rw [h.blk]; unfold hdB Hd.turn; simp
  have hb2 : (w.setCell ⟨gn, 0, none⟩ (.int .i64 x)).heap[hb]? = some (hdB (H.turn i a { C with ns := x :: ns }) ga gc fa fc) := frX_blk hf hb1 (by decide)
  refine ⟨⟨hb2, h.low, ?_, frX_row hf h.fre (by decide), fun j b D e => ?_, by unfold Hd.turn; simp only [List.length_set]; exact h.len, fun k hk => Nat.lt_of_lt_of_le (h.bd k hk) hf.size, ?_⟩, hf, hz⟩
  · have := frX_row hf h.row (by decide)
    show World.ownsRow _ _ _ _ _ _ _
    unfold Hd.turn
    simp only [List.length_set, List.map_set]
    have e : (H.cs.map ptr).set i (ptr (some (a, { C with ns := x :: ns }))) = H.cs.map ptr := by
      apply List.ext_getElem?
      intro j
      rw [List.getElem?_set]
      split
      · rename_i e
        subst e
        split
        · rw [List.getElem?_map, hi]; rfl
        · rename_i h1
          rw [List.getElem?_eq_none (by omega)]
      · rfl
    rw [e]; exact this
  · rcases turn_at e with ⟨rfl, rfl, rfl⟩ | ⟨hne, e'⟩
    · have hlen : ({ C with ns := x :: ns } : Ce).ns.length = C.ns.length := by rw [hn]; rfl
      have hc1 : w.heap[b]? = some (celB { C with ns := x :: ns } va vc (some ⟨gn, 0, none⟩) nc) := by
        rw [hC.blk]; unfold celB; rw [hlen]; rfl
      have hc2 : (w.setCell ⟨gn, 0, none⟩ (.int .i64 x)).heap[b]? = some (celB { C with ns := x :: ns } va vc (some ⟨gn, 0, none⟩) nc) := frX_blk hf hc1 (by decide)
      refine ⟨va, vc, some ⟨gn, 0, none⟩, nc, hc2, hC.low, frX_row hf hC.vs (by decide), ?_, fun L e => ?_, hC.fv, hC.fn, fun T e => ?_⟩
      · show World.ownsRow _ _ _ _ _ _ _
        rw [hlen]
        have e2 : ints ({ C with ns := x :: ns } : Ce).ns = (ints C.ns).set 0 (.int .i64 x) := by rw [hn]; rfl
        rw [e2]; exact hst
      · obtain ⟨ad, cap, h1, h2⟩ := hC.ls L e
        exact ⟨ad, cap, ⟨frX_blk hf h1.blk (by decide), h1.low, frX_row hf h1.own (by decide)⟩, h2⟩
      · obtain ⟨E, last, sz, us, h1, ar, cr, ap, cp, R, P, n, hT, e1, e2, e3⟩ := hC.ts T e
        exact ⟨E, last, sz, us, h1, ar, cr, ap, cp, R, P, n, ⟨frX_blk hf hT.blk (by decide), hT.low, frX_row hf hT.r (by decide), frX_row hf hT.p (by decide), hT.g, hT.cnt, hT.ok, hT.bd⟩, e1, e2, e3⟩
    · obtain ⟨va', vc', na', nc', hD⟩ := h.all j b D e'
      have hba : b ≠ a := fun e2 => by subst e2; exact hne (h.dis j i b D C e' hi)
      refine ⟨va', vc', na', nc', frX_blk hf hD.blk (by decide), hD.low, frX_row hf hD.vs (by decide), row_box hD.ns (fun g x e2 => ?_), fun L e => ?_, hD.fv, hD.fn, fun T e => ?_⟩
      · have h1 := hD.fn g x
        rw [e2, hfn] at h1
        cases h1
        exact hba rfl
      · obtain ⟨ad, cap, h1, h2⟩ := hD.ls L e
        exact ⟨ad, cap, ⟨frX_blk hf h1.blk (by decide), h1.low, frX_row hf h1.own (by decide)⟩, h2⟩
      · obtain ⟨E, last, sz, us, h1, ar, cr, ap, cp, R, P, n, hT, e1, e2, e3⟩ := hD.ts T e
        exact ⟨E, last, sz, us, h1, ar, cr, ap, cp, R, P, n, ⟨frX_blk hf hT.blk (by decide), hT.low, frX_row hf hT.r (by decide), frX_row hf hT.p (by decide), hT.g, hT.cnt, hT.ok, hT.bd⟩, e1, e2, e3⟩
  · intro j k b D D' e1 e2
    have key : ∀ (j b : Nat) (D : Ce), (H.turn i a { C with ns := x :: ns }).cs[j]? = some (some (b, D)) → ∃ D0, H.cs[j]? = some (some (b, D0)) := fun j b D e => by
      rcases turn_at e with ⟨rfl, rfl, _⟩ | ⟨_, e'⟩
      · exact ⟨C, hi⟩
      · exact ⟨D, e'⟩
    obtain ⟨D1, h1⟩ := key j b D e1
    obtain ⟨D2, h2⟩ := key k b D' e2
    exact h.dis j k b D1 D2 h1 h2
set_option maxRecDepth 100000 in
theorem forget_any {F : Nat → Option Nat} {B B2 hb gc fc i a : Nat} {ga fa sa : Option Addr} {w : World} {H : Hd} {C : Ce} {S : List Bool} (h : HdP F B hb ga gc fa fc w H) (hi : H.cs[i]? = some (some (a, C))) (hS : OwnB B2 sa w S) :
    Calls Try.prog 69 #[.pointer (some ⟨a, 0, none⟩), .slice sa S.length S.length] w fun x w' => x = .returned (.tuple #[]) ∧ HdP F B hb ga gc fa fc w' (H.turn i a (forg S C)) ∧ FrX [2] w w' ∧ Below B w w' := by
  obtain ⟨va, vc, na, nc, hC⟩ := h.all i a C hi
  have HT := Lib.hid (target_any hC)
  by_cases hc : 0 ≤ tgt C ∧ S[(tgt C).toNat]? ≠ some true
  · have hk : C.k = 9 := by
      apply Classical.byContradiction
      intro hk
      have h1 := hc.1
      unfold tgt at h1
      rw [if_pos hk] at h1
      omega
    obtain ⟨n0, ns, hn⟩ : ∃ n0 ns, C.ns = n0 :: ns := by
      rcases hns : C.ns with _ | ⟨n0, ns⟩
      · have h1 := hc.1
        unfold tgt at h1
        rw [if_neg (by simp [hk]), hns] at h1
        simp at h1
      · exact ⟨n0, ns, rfl⟩
    obtain ⟨gn, rfl, _, _⟩ := row_some hC.ns (by rw [hn]; simp)
    have hE : forg S C = { C with ns := (-1) :: ns } := by unfold forg; rw [if_pos hc, hn]; rfl
    have HX := Lib.hid (hdP_nums h hi hC hn (-1))
    obtain ⟨_, _, _, _, c4, _⟩ := ce_cells hC
    have r0 : w.cell? ⟨gn, 0, none⟩ = some (.int .i64 n0) := (World.ownsRow.cellAt (n := C.ns.length) (size := 1) hC.ns 0 (by rw [hn]; simp)).trans (by rw [hn]; simp [ints])
    have f0 : w.frozen? ⟨gn, 0, none⟩ = false := World.ownsRow.frozenAt hC.ns 0
    have hl0 : (0 : Int) < (C.ns.length : Int) := by rw [hn]; simp
    have hE' := Lib.hid hE
    obtain ⟨t, ht⟩ : ∃ t : Nat, tgt C = (t : Int) := ⟨(tgt C).toNat, by omega⟩
    rw [ht] at HT hc
    have hc1 : (0 : Int) ≤ (t : Int) := by omega
    have hc2 := hc.2
    rw [Int.toNat_natCast] at hc2
    by_cases hlt : t < S.length
    · obtain ⟨q, hq⟩ := get_some hlt
      have hqf : q = false := by
        cases q with
        | false => rfl
        | true => exact absurd hq hc2
      subst hqf
      obtain ⟨gs, rfl, _, _⟩ := row_some hS (show 0 < S.length by omega)
      have s0 : w.cell? ⟨gs, t, none⟩ = some (.bool false) := (World.ownsRow.cellAt (n := S.length) (size := 1) hS t (by omega)).trans (by rw [List.getElem?_map, hq]; rfl)
      have hlt1 : ¬ (S.length : Int) ≤ (t : Int) := by omega
      have hlt2 : (t : Int) < (S.length : Int) := by omega
      have hn0 : 0 < C.ns.length := by omega
      clear h hi hS hC hc hc2 hk hE hq hlt ht hn
      go_enter Try.func69, Try.ntmps69
      go_wp2_with fail
      refine HT.out.mono ?_
      rintro e w1 ⟨rfl, rfl⟩
      go_wp2_with fail
      refine bodyPost_end (v := .tuple #[]) (Li.results_none rfl _ _) rfl ?_
      rw [hE'.out]
      exact ⟨rfl, HX.out⟩
    · have hlt1 : (S.length : Int) ≤ (t : Int) := by omega
      clear h hi hS hC hc hc2 hk hE hlt ht hn
      go_enter Try.func69, Try.ntmps69
      go_wp2_with fail
      refine HT.out.mono ?_
      rintro e w1 ⟨rfl, rfl⟩
      go_wp2_with fail
      refine bodyPost_end (v := .tuple #[]) (Li.results_none rfl _ _) rfl ?_
      rw [hE'.out]
      exact ⟨rfl, HX.out⟩
  · have hE : forg S C = C := by unfold forg; rw [if_neg hc]
    have HE : Hid (HdP F B hb ga gc fa fc w (H.turn i a (forg S C))) := by
      show HdP _ _ _ _ _ _ _ _ _
      rw [hE, turn_same hi]; exact h
    by_cases h0 : 0 ≤ tgt C
    · obtain ⟨t, ht⟩ : ∃ t : Nat, tgt C = (t : Int) := ⟨(tgt C).toNat, by omega⟩
      rw [ht] at HT hc
      have hq : S[t]? = some true := by
        apply Classical.byContradiction
        intro hq
        exact hc ⟨by omega, by rw [Int.toNat_natCast]; exact hq⟩
      have hlt := (List.getElem?_eq_some_iff.1 hq).1
      obtain ⟨gs, rfl, _, _⟩ := row_some hS (show 0 < S.length by omega)
      have s0 : w.cell? ⟨gs, t, none⟩ = some (.bool true) := (World.ownsRow.cellAt (n := S.length) (size := 1) hS t (by omega)).trans (by rw [List.getElem?_map, hq]; rfl)
      have hlt1 : ¬ (S.length : Int) ≤ (t : Int) := by omega
      have hlt2 : (t : Int) < (S.length : Int) := by omega
      have hc1 : (0 : Int) ≤ (t : Int) := by omega
      clear h hi hS hC hc hE hq hlt ht h0
      go_enter Try.func69, Try.ntmps69
      go_wp2_with fail
      refine HT.out.mono ?_
      rintro e w1 ⟨rfl, rfl⟩
      go_wp2_with fail
      refine bodyPost_end (v := .tuple #[]) (Li.results_none rfl _ _) rfl ?_
      exact ⟨rfl, HE.out, frX_refl _ _, Below.refl _ _⟩
    · generalize tgt C = t at *
      have h1 : ¬ (0 : Int) ≤ t := h0
      clear h hi hS hC hc hE h0
      go_enter Try.func69, Try.ntmps69
      go_wp2_with fail
      refine HT.out.mono ?_
      rintro e w1 ⟨rfl, rfl⟩
      go_wp2_with fail
      refine bodyPost_end (v := .tuple #[]) (Li.results_none rfl _ _) rfl ?_
      exact ⟨rfl, HE.out, frX_refl _ _, Below.refl _ _⟩

def liv (cs : List (Option (Nat × Ce))) : Nat := (cs.filter Option.isSome).length
theorem liv_none : ∀ (cs : List (Option (Nat × Ce))) (i : Nat) (x : Nat × Ce), cs[i]? = some (some x) → liv (cs.set i none) + 1 = liv cs
  | [], i, x, h => by simp at h
  | c :: cs, 0, x, h => by
    simp at h; subst h
    simp [liv]
  | c :: cs, i + 1, x, h => by
    have ih := liv_none cs i x (by simpa using h)
    unfold liv at ih ⊢
    cases c <;> simp at ih ⊢ <;> omega
theorem liv_some : ∀ (cs : List (Option (Nat × Ce))) (i : Nat) (x y : Nat × Ce), cs[i]? = some (some x) → liv (cs.set i (some y)) = liv cs
  | [], i, x, y, h => by simp at h
  | c :: cs, 0, x, y, h => by
    simp at h; subst h
    simp [liv]
  | c :: cs, i + 1, x, y, h => by
    have ih := liv_some cs i x y (by simpa using h)
    unfold liv at ih ⊢
    cases c <;> simp at ih ⊢ <;> omega
def Hd.kill (H : Hd) (i : Nat) : Hd := { H with cs := H.cs.set i none, fr := H.fr ++ [(i : Int)] }
def colStep (S : List Bool) (st : Hd × Nat) (k : Nat) : Hd × Nat := match st.1.cs[k]? with
  | some (some (a, C)) => if S[k]? = some true then (st.1.turn k a (forg S C), st.2) else (st.1.kill k, st.2 + 1)
  | _ => st
def colls (S : List Bool) (H : Hd) (k : Nat) : Hd × Nat := (List.range k).foldl (colStep S) (H, 0)
theorem colls_succ (S : List Bool) (H : Hd) (k : Nat) : colls S H (k + 1) = colStep S (colls S H k) k := by
  unfold colls; rw [List.range_succ, List.foldl_append]; rfl
/-- A heap behind a collection. -/
def collected (S : List Bool) (H : Hd) : Hd := { (colls S H H.cs.length).1 with runs := H.runs + 1, gone := H.gone + ((colls S H H.cs.length).2 : Int) }
structure Keep (H H' : Hd) (n : Nat) : Prop where
  len : H'.cs.length = H.cs.length
  cnt : H'.fr.length + liv H'.cs = H'.cs.length
  lim : H'.lim = H.lim
  runs : H'.runs = H.runs
  gone : H'.gone = H.gone
  n : n ≤ H'.fr.length
theorem keep_step {S : List Bool} {H : Hd} {st : Hd × Nat} (k : Nat) (h : Keep H st.1 st.2) : Keep H (colStep S st k).1 (colStep S st k).2 := by
  unfold colStep
  split
  · rename_i a C hc
    split
    · refine ⟨?_, ?_, h.lim, h.runs, h.gone, h.n⟩
      · unfold Hd.turn; simp only [List.length_set]; exact h.len
      · unfold Hd.turn; simp only [List.length_set]; rw [liv_some _ _ _ _ hc]; exact h.cnt
    · refine ⟨?_, ?_, h.lim, h.runs, h.gone, ?_⟩
      · unfold Hd.kill; simp only [List.length_set]; exact h.len
      · have h1 := liv_none _ _ _ hc
        have h2 := h.cnt
        unfold Hd.kill; simp only [List.length_set, List.length_append, List.length_singleton]; omega
      · have := h.n
        unfold Hd.kill; simp only [List.length_append, List.length_singleton]; omega
  · exact h
theorem keep_all {S : List Bool} {H : Hd} (hc : H.fr.length + liv H.cs = H.cs.length) : ∀ k, Keep H (colls S H k).1 (colls S H k).2
  | 0 => ⟨rfl, hc, rfl, rfl, rfl, Nat.zero_le _⟩
  | k + 1 => by rw [colls_succ]; exact keep_step k (keep_all hc k)
theorem isC_x {ts : List TypeId} {F : Nat → Option Nat} {B a : Nat} {w w' : World} {C : Ce} (h : IsC F B a w C) (hf : FrX ts w w') (ht : ∀ t, t ∈ ts → t = 117 ∨ t = 71 ∨ t = 3) : IsC F B a w' C := by
  have nt : ∀ t, t ≠ 117 → t ≠ 71 → t ≠ 3 → t ∉ ts := fun t h1 h2 h3 h4 => by
    rcases ht t h4 with e | e | e
    · exact h1 e
    · exact h2 e
    · exact h3 e
  obtain ⟨va, vc, na, nc, hC⟩ := h
  refine ⟨va, vc, na, nc, frX_blk hf hC.blk (nt _ (by decide) (by decide) (by decide)), hC.low, frX_row hf hC.vs (nt _ (by decide) (by decide) (by decide)), frX_row hf hC.ns (nt _ (by decide) (by decide) (by decide)), fun L e => ?_, hC.fv, hC.fn, fun T e => ?_⟩
  · obtain ⟨ad, cap, h1, h2⟩ := hC.ls L e
    exact ⟨ad, cap, ⟨frX_blk hf h1.blk (nt _ (by decide) (by decide) (by decide)), h1.low, frX_row hf h1.own (nt _ (by decide) (by decide) (by decide))⟩, h2⟩
  · obtain ⟨E, last, sz, us, h1, ar, cr, ap, cp, R, P, n, hT, e1, e2, e3⟩ := hC.ts T e
    exact ⟨E, last, sz, us, h1, ar, cr, ap, cp, R, P, n, ⟨frX_blk hf hT.blk (nt _ (by decide) (by decide) (by decide)), hT.low, frX_row hf hT.r (nt _ (by decide) (by decide) (by decide)), frX_row hf hT.p (nt _ (by decide) (by decide) (by decide)), hT.g, hT.cnt, hT.ok, hT.bd⟩, e1, e2, e3⟩
/-- A cell goes: its place. -/
theorem hdP_nil {F : Nat → Option Nat} {B hb g gc fc i : Nat} {fa : Option Addr} {w : World} {H : Hd} (h : HdP F B hb (some ⟨g, 0, none⟩) gc fa fc w H) (hi : i < H.cs.length) :
    HdP F B hb (some ⟨g, 0, none⟩) gc fa fc (w.setCell ⟨g, i, none⟩ (.pointer none)) { H with cs := H.cs.set i none } ∧ FrX [71] w (w.setCell ⟨g, i, none⟩ (.pointer none)) ∧ Below B w (w.setCell ⟨g, i, none⟩ (.pointer none)) := by
  obtain ⟨hgB, cur, hcur⟩ := Ta.row_block h.row g rfl
  have hf : FrX [71] w (w.setCell ⟨g, i, none⟩ (.pointer none)) := frX_set hcur (by simp)
  have hz : Below B w (w.setCell ⟨g, i, none⟩ (.pointer none)) := (Below.refl B w).setCell (p := ⟨g, i, none⟩) hgB _
  have hst := (World.ownsRow.stored h.row i (.pointer none)).1
  have hb1 : w.heap[hb]? = some (hdB { H with cs := H.cs.set i none } (some ⟨g, 0, none⟩) gc fa fc) := by
    rw [h.blk]; unfold hdB; simp
  have key : ∀ (j a : Nat) (C : Ce), (H.cs.set i none)[j]? = some (some (a, C)) → H.cs[j]? = some (some (a, C)) := fun j a C e => by
    rw [List.getElem?_set] at e
    split at e
    · first | (cases e) | (split at e <;> cases e)
    · exact e
  refine ⟨⟨frX_blk hf hb1 (by decide), h.low, ?_, frX_row hf h.fre (by decide), fun j a C e => isC_x (h.all j a C (key j a C e)) hf (by simp), by simp only [List.length_set]; exact h.len, fun k hk => Nat.lt_of_lt_of_le (h.bd k hk) hf.size, fun j k a C C' e1 e2 => h.dis j k a C C' (key _ _ _ e1) (key _ _ _ e2)⟩, hf, hz⟩
  show World.ownsRow _ _ _ _ _ _ _
  simp only [List.length_set, List.map_set]
  exact hst
/-- A number more is free. -/
theorem hdP_free {F : Nat → Option Nat} {B hb gc fc : Nat} {ga fa : Option Addr} {w : World} {H : Hd} (x : Int) (h : HdP F B hb ga gc fa fc w H) (hB : B ≤ w.heap.size) (hl : H.fr.length + 1 ≤ H.cs.length) :
    ∃ fa' fc' w2, (Builtin.append_ #[46, 46] 46 #[.slice fa H.fr.length fc, .slice (some ⟨w.heap.size, 0, none⟩) 1 1]).run Try.prog (w.alloc (.cells #[.int .i64 x] 3)) = .ok (.slice fa' (H.fr.length + 1) fc') w2 ∧ w2.heap[hb]? = some (hdB H ga gc fa fc) ∧
      HdP F B hb ga gc fa' fc' (w2.setCell ⟨hb, 1, none⟩ (.slice fa' (H.fr.length + 1) fc')) { H with fr := H.fr ++ [x] } ∧ FrX [117, 3] w (w2.setCell ⟨hb, 1, none⟩ (.slice fa' (H.fr.length + 1) fc')) ∧ Below B w (w2.setCell ⟨hb, 1, none⟩ (.slice fa' (H.fr.length + 1) fc')) := by
  have hq := (Below.refl w.heap.size w).alloc (Nat.le_refl _) (.cells #[.int .i64 x] 3)
  have h1 := hdP_below h hq
  have hn := heap_alloc_new w (.cells #[.int .i64 x] 3)
  have hlen := h.len.2
  obtain ⟨fa', fc', w2, hr, hown, hgr, _⟩ := run_intsF (a := ⟨w.heap.size, 0, none⟩) (c := 1) (M := [x]) (by simp; omega) (Nat.le_trans hB hq.size) h1.fre (fun j u hj => by
    match j, hj with
    | 0, hj =>
      simp [ints] at hj
      subst hj
      rw [Go.WideShapes.add_plain]
      exact cell_of_one hn)
  rw [List.length_append] at hr
  have hf2 : FrX [117, 3] w w2 := frX_trans (frX_below hq) (frX_grown hgr (fun r e => by
    obtain ⟨_, cur, hc⟩ := Ta.row_block h1.fre r e
    exact ⟨cur, _, _, hc, by simp⟩))
  have hne : some hb ≠ fa.map (·.block) := fun e => by
    obtain ⟨_, cur, hc⟩ := Ta.row_block h1.fre hb e.symm
    rw [h1.blk] at hc
    unfold hdB at hc
    simp at hc
  have hb2 : w2.heap[hb]? = some (hdB H ga gc fa fc) := (hgr.block hb (lt_of_block h1.blk) hne).trans h1.blk
  have hz2 : Below B w w2 := (hq.mono hB).grown hgr (Nat.le_trans hB hq.size) (fun k e => (Ta.row_block h1.fre k e).1)
  have hb2' := hb2
  unfold hdB at hb2'
  have hf3 : FrX [117, 3] w (w2.setCell ⟨hb, 1, none⟩ (.slice fa' (H.fr.length + 1) fc')) := frX_trans hf2 (frX_set hb2' (by simp))
  have hb3 : (w2.setCell ⟨hb, 1, none⟩ (.slice fa' (H.fr.length + 1) fc')).heap[hb]? = some (hdB { H with fr := H.fr ++ [x] } ga gc fa' fc') := by
    rw [heap_setCell_same _ _ _ _ _ _ hb2']
    unfold hdB
    simp
  refine ⟨fa', fc', w2, hr, hb2, ⟨hb3, h.low, frX_row hf3 h.row (by decide), ?_, fun j a C e => isC_x (h.all j a C e) hf3 (by simp), ⟨by simp; omega, hlen⟩, fun k hk => Nat.lt_of_lt_of_le (h.bd k hk) hf3.size, h.dis⟩, hf3, hz2.setCell (p := ⟨hb, 1, none⟩) h.low _⟩
  exact row_box_t hown hb2' (by decide)
/-- Runs, freed. -/
theorem hdP_num {F : Nat → Option Nat} {B hb gc fc o : Nat} {ga fa : Option Addr} {w : World} {H H' : Hd} {v : Value} (h : HdP F B hb ga gc fa fc w H) (hc : H'.cs = H.cs) (hf' : H'.fr = H.fr) (hb' : (w.setCell ⟨hb, o, none⟩ v).heap[hb]? = some (hdB H' ga gc fa fc)) :
    HdP F B hb ga gc fa fc (w.setCell ⟨hb, o, none⟩ v) H' ∧ FrX [117] w (w.setCell ⟨hb, o, none⟩ v) ∧ Below B w (w.setCell ⟨hb, o, none⟩ v) := by
  have hbk := h.blk
  unfold hdB at hbk
  have hf : FrX [117] w (w.setCell ⟨hb, o, none⟩ v) := frX_set hbk (by simp)
  refine ⟨⟨hb', h.low, ?_, ?_, fun j a C e => isC_x (h.all j a C (by rw [← hc]; exact e)) hf (by simp), by rw [hc, hf']; exact h.len, fun k hk => Nat.lt_of_lt_of_le (h.bd k hk) hf.size, by rw [hc]; exact h.dis⟩, hf, (Below.refl B w).setCell (p := ⟨hb, o, none⟩) h.low _⟩
  · show World.ownsRow _ _ _ _ _ _ _
    rw [hc]; exact frX_row hf h.row (by decide)
  · show World.ownsRow _ _ _ _ _ _ _
    rw [hf']; exact frX_row hf h.fre (by decide)

theorem drain_len {H : Hd} : ∀ (m : Nat) {st : List Bool × List Int}, VW H st → (drain H m st).1.length = H.cs.length
  | 0, st, h => h.1
  | m + 1, st, h => by
    unfold drain
    split
    · exact h.1
    · exact drain_len m (feed_vw _ ⟨h.1, fun x hx => h.2 x (List.dropLast_subset _ hx)⟩)
theorem rchd_len (H : Hd) (R : List Int) : (rchd H R).length = H.cs.length := drain_len _ (feed_vw _ ⟨by simp, fun x hx => by simp at hx⟩)
def T4 : List TypeId := [117, 71, 2, 3]
theorem step_nil {S : List Bool} {st : Hd × Nat} {k : Nat} (h : st.1.cs[k]? = some none) : colStep S st k = st := by unfold colStep; rw [h]
theorem step_yes {S : List Bool} {st : Hd × Nat} {k a : Nat} {C : Ce} (h : st.1.cs[k]? = some (some (a, C))) (hs : S[k]? = some true) : colStep S st k = (st.1.turn k a (forg S C), st.2) := by unfold colStep; rw [h]; simp [hs]
theorem step_no {S : List Bool} {st : Hd × Nat} {k a : Nat} {C : Ce} (h : st.1.cs[k]? = some (some (a, C))) (hs : S[k]? = some false) : colStep S st k = (st.1.kill k, st.2 + 1) := by unfold colStep; rw [h]; simp [hs]
set_option maxRecDepth 100000 in
set_option maxHeartbeats 8000000 in
theorem collect_any {F : Nat → Option Nat} {B hb gc fc rc : Nat} {ga fa ra : Option Addr} {w : World} {H : Hd} (R : List Int) (h : HdP F B hb ga gc fa fc w H) (hB : B ≤ w.heap.size) (hR : Ints ra w R) (hl : R.length ≤ 1000000) (hs : Small H) (hcnt : H.fr.length + liv H.cs = H.cs.length) (hrn : 0 ≤ H.runs ∧ H.runs < 1000000000 ∧ 0 ≤ H.gone ∧ H.gone < 1000000000) :
    Calls Try.prog 36 #[.pointer (some ⟨hb, 0, none⟩), .slice ra R.length rc] w fun x w' => ∃ fa' fc', x = .returned (.int .i64 ((colls (rchd H R) H H.cs.length).2 : Int)) ∧ HdP F B hb ga gc fa' fc' w' (collected (rchd H R) H) ∧ FrX T4 w w' ∧ Below B w w' := by
  have HRC := Lib.hid (reached_any (rc := rc) R h hR hl hs)
  have hSl := rchd_len H R
  obtain ⟨n, hnn⟩ : ∃ n, H.cs.length = n := ⟨_, rfl⟩
  obtain ⟨S, hS⟩ : ∃ S, rchd H R = S := ⟨_, rfl⟩
  rw [hS] at HRC hSl ⊢
  have HH := Lib.hid h
  have HB := Lib.hid hB
  have HC := Lib.hid hcnt
  have HRN := Lib.hid hrn
  have HNN := Lib.hid hnn
  have HSL := Lib.hid (hSl.trans hnn)
  have HN := Lib.hid h.len.2
  rw [hnn]
  clear h hB hR hl hs hcnt hrn hSl hnn hS
  go_enter Try.func36, Try.ntmps36
  go_wp2_with fail
  refine HRC.out.mono ?_
  rintro e w1 ⟨sa, rfl, hSr, hb1⟩
  have hP1 := hdP_below HH.out hb1
  obtain ⟨c0, _, _, _, _, _, _, _, _⟩ := hd_cells hP1
  rw [HNN.out] at c0
  have HP1 := Lib.hid hP1
  have HSR := Lib.hid hSr
  have HZ1 := Lib.hid (hb1.mono HB.out)
  have HF1 := Lib.hid (show FrX T4 w w1 from frX_below hb1)
  clear hP1 hSr hb1 HRC
  go_wp2_with fail
  go_loopw [6, 7, 8, 17] (fun s6 _ _ i wr => ∃ (k : Nat) (fa : Option Addr) (fc : Nat), k ≤ n ∧ i = .int .i64 (k : Int) ∧ s6 = .int .i64 ((colls S H k).2 : Int) ∧ Hid (HdP F B hb ga gc fa fc wr (colls S H k).1) ∧ Hid (FrX T4 w1 wr) ∧ Hid (Below B w wr)) (fun _ _ _ i _ => n - (intOf i).toNat)
  case atStart => exact ⟨0, fa, fc, by omega, rfl, rfl, HP1.out, frX_refl _ _, HZ1.out⟩
  case round =>
    obtain ⟨k, fa, fc, hk, rfl, rfl, HP, HF, HZ⟩ := hrel
    have hkp := keep_all (S := S) HC.out k
    by_cases hlt : k < n
    · have hlen : (colls S H k).1.cs.length = n := hkp.len.trans HNN.out
      obtain ⟨c, hc⟩ := get_some (show k < (colls S H k).1.cs.length by omega)
      obtain ⟨g, rfl, p0⟩ := ptr_at HP.out.row hc
      have hk1 : (k : Int) < (n : Int) := by omega
      have hk0 : (0 : Int) ≤ (k : Int) := by omega
      have hkw : IntKind.i64.wrap ((k : Int) + 1) = (k : Int) + 1 := by have := HN.out; have := HNN.out; rw [IntKind.wrap_i64]; omega
      have HST := Lib.hid (colls_succ S H k)
      have hn2 : (colls S H k).2 ≤ 2000000 := by
        have h1 := hkp.n
        have h2 := HP.out.len
        omega
      have hfl : (colls S H k).1.fr.length + liv (colls S H k).1.cs = (colls S H k).1.cs.length := hkp.cnt
      generalize colls S H k = st at *
      obtain ⟨Hk, nk⟩ := st
      have HKP := Lib.hid hkp
      replace hlen : Hk.cs.length = n := hlen
      replace hc : Hk.cs[k]? = some c := hc
      replace hn2 : nk ≤ 2000000 := hn2
      replace hfl : Hk.fr.length + liv Hk.cs = Hk.cs.length := hfl
      replace HP : Hid (HdP F B hb (some ⟨g, 0, none⟩) gc fa fc wr Hk) := HP
      rcases c with _ | ⟨a, C⟩
      · have HE : Hid (colls S H (k + 1) = (Hk, nk)) := HST.out.trans (step_nil hc)
        unfold ptr at p0
        clear hkp hlen hc hn2 hfl HST HKP
        go_wp2_with fail
        go_roundw
        case rel => exact ⟨k + 1, fa, fc, by omega, by go_num, by rw [HE.out], by rw [HE.out]; exact HP.out, HF.out, HZ.out⟩
        case measure => simp [intOf]; omega
      · obtain ⟨q, hq⟩ := get_some (show k < S.length by have := HSL.out; omega)
        unfold ptr at p0
        have hSr := frX_row HF.out HSR.out (show 4 ∉ T4 by decide)
        obtain ⟨gs, rfl, _, _⟩ := row_some hSr (by have := HSL.out; omega)
        have s0 : wr.cell? ⟨gs, k, none⟩ = some (.bool q) := (World.ownsRow.cellAt (n := S.length) (size := 1) hSr k (by have := HSL.out; omega)).trans (by rw [List.getElem?_map, hq]; rfl)
        have hks : (k : Int) < (S.length : Int) := by have := HSL.out; omega
        cases q with
        | true =>
          have HE : Hid (colls S H (k + 1) = (Hk.turn k a (forg S C), nk)) := HST.out.trans (step_yes hc hq)
          have HFG := Lib.hid (forget_any HP.out hc hSr)
          clear hkp hlen hc hn2 hfl HST HKP hSr hq
          go_wp2_with fail
          refine HFG.out.mono ?_
          rintro e w2 ⟨rfl, h1, h2, h3⟩
          have HP2 := Lib.hid h1
          have HF2 := Lib.hid (frX_trans HF.out (frX_mono h2 (us := T4) (by simp [T4])))
          have HZ2 := Lib.hid (HZ.out.trans h3)
          clear h1 h2 h3 HFG HP HF HZ
          go_wp2_with fail
          go_roundw
          case rel => exact ⟨k + 1, fa, fc, by omega, by go_num, by rw [HE.out], by rw [HE.out]; exact HP2.out, HF2.out, HZ2.out⟩
          case measure => simp [intOf]; omega
        | false =>
          have HE : Hid (colls S H (k + 1) = (Hk.kill k, nk + 1)) := HST.out.trans (step_no hc hq)
          obtain ⟨hP3, hF3, hZ3⟩ := hdP_nil HP.out (show k < Hk.cs.length by omega)
          have hl3 : Hk.fr.length + 1 ≤ (Hk.cs.set k none).length := by
            have h1 := liv_none _ _ _ hc
            rw [List.length_set]; omega
          obtain ⟨fa', fc', w4, hr, hb4, hP4, hF4, hZ4⟩ := hdP_free (k : Int) hP3 (Nat.le_trans HB.out (by have := HZ.out.size; simpa [World.setCell] using this)) hl3
          obtain ⟨c0', c1', _, _, _, z0', z1', _, _⟩ := hd_cells HP.out
          obtain ⟨d0, d1, _, _, _, _, _, _, _⟩ := hd_cells hP3
          unfold hdB at hb4
          have e1 : w4.cell? ⟨hb, 1, none⟩ = some (.slice fa Hk.fr.length fc) := by rw [cell_of_row _ _ _ _ _ _ hb4]; rfl
          have y1 : w4.frozen? ⟨hb, 1, none⟩ = false := by simp [World.frozen?, hb4]
          have f0 : wr.frozen? ⟨g, k, none⟩ = false := World.ownsRow.frozenAt HP.out.row k
          have HP4 : Hid (HdP F B hb (some ⟨g, 0, none⟩) gc fa' fc' (w4.setCell ⟨hb, 1, none⟩ (.slice fa' (Hk.fr.length + 1) fc')) (Hk.kill k)) := hP4
          have HF4 := Lib.hid (frX_trans HF.out (frX_trans (frX_mono hF3 (us := T4) (by simp [T4])) (frX_mono hF4 (us := T4) (by simp [T4]))))
          have HZ4 := Lib.hid ((HZ.out.trans hZ3).trans hZ4)
          rw [hlen] at c0'
          have hnw : IntKind.i64.wrap ((nk : Int) + 1) = (nk : Int) + 1 := by rw [IntKind.wrap_i64]; omega
          have hsz : (wr.setCell ⟨g, k, none⟩ (.pointer none)).heap.size = wr.heap.size := by simp [World.setCell]
          rw [hsz] at hr
          clear hkp hc hn2 hfl HST HKP hSr hq hP3 hF3 hZ3 hl3 hb4 hP4 hF4 hZ4 hsz
          go_wp2_with (at_builtin; refine Lib.wpList_append_run _ rfl _ _ _ _ rfl _ _ rfl rfl _ _ hr ?_)
          go_roundw
          case rel => exact ⟨k + 1, fa', fc', by omega, by go_num, by rw [HE.out]; go_num, by rw [HE.out]; exact HP4.out, HF4.out, HZ4.out⟩
          case measure => simp [intOf]; omega
    · have hke : k = n := by omega
      subst hke
      have hCO : Hid (collected S H = { (colls S H k).1 with runs := H.runs + 1, gone := H.gone + ((colls S H k).2 : Int) }) := by
        show _ = _
        unfold collected
        rw [HNN.out]
      have hn2 : (colls S H k).2 ≤ 2000000 := by
        have h1 := hkp.n
        have h2 := HP.out.len
        omega
      have hr := hkp.runs
      have hg := hkp.gone
      generalize hst : colls S H k = st at *
      have HNK : Hid ((colls S H k).2 = st.2) := by show _ = _; rw [hst]
      clear hst
      obtain ⟨Hk, nk⟩ := st
      replace HNK : Hid ((colls S H k).2 = nk) := HNK
      replace hr : Hk.runs = H.runs := hr
      replace hg : Hk.gone = H.gone := hg
      replace hn2 : nk ≤ 2000000 := hn2
      replace HP : Hid (HdP F B hb ga gc fa fc wr Hk) := HP
      replace hCO : Hid (collected S H = { Hk with runs := H.runs + 1, gone := H.gone + (nk : Int) }) := hCO
      obtain ⟨_, _, _, c3', c4', _, _, z3', z4'⟩ := hd_cells HP.out
      rw [hr] at c3'
      have hbk := HP.out.blk
      unfold hdB at hbk
      have hb5 : (wr.setCell ⟨hb, 3, none⟩ (.int .i64 (H.runs + 1))).heap[hb]? = some (hdB { Hk with runs := H.runs + 1 } ga gc fa fc) := by
        rw [heap_setCell_same _ _ _ _ _ _ hbk]; unfold hdB; simp
      obtain ⟨hP5, hF5, hZ5⟩ := hdP_num (o := 3) (v := .int .i64 (H.runs + 1)) HP.out (H' := { Hk with runs := H.runs + 1 }) rfl rfl hb5
      have hbk5 := hP5.blk
      unfold hdB at hbk5
      have hb6 : ((wr.setCell ⟨hb, 3, none⟩ (.int .i64 (H.runs + 1))).setCell ⟨hb, 4, none⟩ (.int .i64 (H.gone + (nk : Int)))).heap[hb]? = some (hdB { Hk with runs := H.runs + 1, gone := H.gone + (nk : Int) } ga gc fa fc) := by
        rw [heap_setCell_same _ _ _ _ _ _ hbk5]; unfold hdB; simp
      obtain ⟨hP6, hF6, hZ6⟩ := hdP_num (o := 4) (v := .int .i64 (H.gone + (nk : Int))) hP5 (H' := { Hk with runs := H.runs + 1, gone := H.gone + (nk : Int) }) rfl rfl hb6
      obtain ⟨_, _, _, _, e4, _, _, _, y4⟩ := hd_cells hP5
      have e4' : (wr.setCell ⟨hb, 3, none⟩ (.int .i64 (H.runs + 1))).cell? ⟨hb, 4, none⟩ = some (.int .i64 H.gone) := by rw [e4]; show some (Value.int .i64 Hk.gone) = _; rw [hg]
      rw [hg] at c4'
      have HP6 := Lib.hid hP6
      have HF6 := Lib.hid (frX_trans HF1.out (frX_trans HF.out (frX_trans (frX_mono hF5 (us := T4) (by simp [T4])) (frX_mono hF6 (us := T4) (by simp [T4])))))
      have HZ6 := Lib.hid ((HZ.out.trans hZ5).trans hZ6)
      have hw3 : IntKind.i64.wrap (H.runs + 1) = H.runs + 1 := by have := HRN.out; rw [IntKind.wrap_i64]; omega
      have hw4 : IntKind.i64.wrap (H.gone + (nk : Int)) = H.gone + (nk : Int) := by have := HRN.out; rw [IntKind.wrap_i64]; omega
      have hk1 : ¬ (k : Int) < (k : Int) := by omega
      clear hkp hr hg hbk hb5 hP5 hF5 hZ5 hbk5 hb6 hP6 hF6 hZ6 e4 hn2 hlt hk
      go_wp2_with fail
      go_ret
      rw [hCO.out]
      refine ⟨?_, ⟨fa, fc, HP6.out⟩, HF6.out, HZ6.out⟩
      rw [HNK.out]
      rfl

theorem limit_any {F : Nat → Option Nat} {B hb gc fc : Nat} {ga fa : Option Addr} {w : World} {H : Hd} (h : HdP F B hb ga gc fa fc w H) :
    Calls Try.prog 27 #[.pointer (some ⟨hb, 0, none⟩)] w fun x w' => x = .returned (.int .i64 H.lim) ∧ w = w' := by
  obtain ⟨c0, c1, c2, c3, c4, z0, z1, z3, z4⟩ := hd_cells h
  clear h
  go_enter Try.func27, Try.ntmps27
  go_wp2_with fail
  go_ret
  exact ⟨rfl, rfl⟩
theorem runs_any {F : Nat → Option Nat} {B hb gc fc : Nat} {ga fa : Option Addr} {w : World} {H : Hd} (h : HdP F B hb ga gc fa fc w H) :
    Calls Try.prog 67 #[.pointer (some ⟨hb, 0, none⟩)] w fun x w' => x = .returned (.int .i64 H.runs) ∧ w = w' := by
  obtain ⟨c0, c1, c2, c3, c4, z0, z1, z3, z4⟩ := hd_cells h
  clear h
  go_enter Try.func67, Try.ntmps67
  go_wp2_with fail
  go_ret
  exact ⟨rfl, rfl⟩
theorem freed_any {F : Nat → Option Nat} {B hb gc fc : Nat} {ga fa : Option Addr} {w : World} {H : Hd} (h : HdP F B hb ga gc fa fc w H) :
    Calls Try.prog 66 #[.pointer (some ⟨hb, 0, none⟩)] w fun x w' => x = .returned (.int .i64 H.gone) ∧ w = w' := by
  obtain ⟨c0, c1, c2, c3, c4, z0, z1, z3, z4⟩ := hd_cells h
  clear h
  go_enter Try.func66, Try.ntmps66
  go_wp2_with fail
  go_ret
  exact ⟨rfl, rfl⟩
def AllCells (H : Hd) (R : List Int) : Prop := ∀ x ∈ R, ∃ (i a : Nat) (C : Ce), x = (i : Int) ∧ H.cs[i]? = some (some (a, C))
set_option maxRecDepth 100000 in
theorem there_ok {F : Nat → Option Nat} {B hb gc fc rc : Nat} {ga fa ra : Option Addr} {w : World} {H : Hd} (R : List Int) (h : HdP F B hb ga gc fa fc w H) (hR : Ints ra w R) (hl : R.length ≤ 1000000) (hc : AllCells H R) :
    Calls Try.prog 70 #[.pointer (some ⟨hb, 0, none⟩), .slice ra R.length rc] w fun x w' => x = .returned (.int .i64 0) ∧ w = w' := by
  have HH := Lib.hid h
  have HR := Lib.hid hR
  have HL := Lib.hid hl
  have HC := Lib.hid hc
  clear h hR hl hc
  go_enter Try.func70, Try.ntmps70
  go_wp2_with fail
  go_loop [6, 7, 8, 11] (fun _ _ _ i => ∃ k : Nat, k ≤ R.length ∧ i = .int .i64 (k : Int)) (fun _ _ _ i => R.length - (intOf i).toNat)
  case atStart => exact ⟨0, by omega, rfl⟩
  case round =>
    obtain ⟨k, hk, rfl⟩ := hrel
    by_cases hlt : k < R.length
    · obtain ⟨x, hx⟩ := get_some hlt
      obtain ⟨i, a, C, rfl, hi⟩ := HC.out x (List.mem_of_getElem? hx)
      have HG := Lib.hid (get_yes HH.out hi)
      rcases HR.out with rfl | ⟨g, off, rfl, hg, hcell⟩
      · simp at hlt
      have r0 := hcell k _ hx
      have hk1 : (k : Int) < (R.length : Int) := by omega
      have hkw : IntKind.i64.wrap ((k : Int) + 1) = (k : Int) + 1 := by have := HL.out; rw [IntKind.wrap_i64]; omega
      clear hcell hx hi
      go_wp2_with fail
      refine HG.out.mono ?_
      rintro e w1 ⟨rfl, rfl⟩
      go_wp2_with fail
      go_round
      case rel => exact ⟨k + 1, by omega, by go_num⟩
      case measure => simp [intOf]; omega
    · have hke : ¬ (k : Int) < (R.length : Int) := by omega
      go_wp2_with fail
      go_ret
      exact ⟨rfl, rfl⟩
set_option maxRecDepth 100000 in
set_option maxHeartbeats 4000000 in
theorem check_ok {F : Nat → Option Nat} {B hb gc fc rc : Nat} {ga fa ra : Option Addr} {w : World} {H : Hd} (R : List Int) (h : HdP F B hb ga gc fa fc w H) (hR : Ints ra w R) (hl : R.length ≤ 1000000) (hs : Small H) (hc : AllCells H R)
    (hk : ∀ i : Nat, (rchd H R)[i]? = some true → ∃ (a : Nat) (C : Ce), H.cs[i]? = some (some (a, C)) ∧ AllCells H (strong C)) :
    Calls Try.prog 38 #[.pointer (some ⟨hb, 0, none⟩), .slice ra R.length rc] w fun x w' => x = .returned (.int .i64 0) ∧ Below w.heap.size w w' := by
  have HT := Lib.hid (there_ok (rc := rc) R h hR hl hc)
  have HRC := Lib.hid (reached_any (rc := rc) R h hR hl hs)
  have hSl := rchd_len H R
  have HH := Lib.hid h
  have HS := Lib.hid hs
  have HN := Lib.hid h.len.2
  obtain ⟨S, hS⟩ : ∃ S, rchd H R = S := ⟨_, rfl⟩
  rw [hS] at HRC hSl hk
  have HK := Lib.hid hk
  have HSL := Lib.hid hSl
  clear h hR hl hs hc hk hS hSl
  go_enter Try.func38, Try.ntmps38
  go_wp2_with fail
  refine HT.out.mono ?_
  rintro e w1 ⟨rfl, rfl⟩
  go_wp2_with fail
  refine HRC.out.mono ?_
  rintro e w1 ⟨sa, rfl, hSr, hb1⟩
  have HSR := Lib.hid hSr
  have HZ1 := Lib.hid hb1
  clear hSr hb1 HRC HT
  go_wp2_with fail
  go_loopw [6, 7, 8, 19] (fun _ _ _ i wr => ∃ k : Nat, k ≤ S.length ∧ i = .int .i64 (k : Int) ∧ Hid (Below w1.heap.size w1 wr)) (fun _ _ _ i _ => S.length - (intOf i).toNat)
  case atStart => exact ⟨0, by omega, rfl, Below.refl _ _⟩
  case round =>
    obtain ⟨k, hk, rfl, HZ⟩ := hrel
    by_cases hlt : k < S.length
    · obtain ⟨q, hq⟩ := get_some hlt
      have hSr := Ta.row_below HSR.out HZ.out
      obtain ⟨gs, rfl, _, _⟩ := row_some hSr (show 0 < S.length by omega)
      have s0 : wr.cell? ⟨gs, k, none⟩ = some (.bool q) := (World.ownsRow.cellAt (n := S.length) (size := 1) hSr k (by omega)).trans (by rw [List.getElem?_map, hq]; rfl)
      have hk1 : (k : Int) < (S.length : Int) := by omega
      have hkw : IntKind.i64.wrap ((k : Int) + 1) = (k : Int) + 1 := by have := HSL.out; have := HN.out; rw [IntKind.wrap_i64]; omega
      cases q with
      | false =>
        clear hSr hq
        go_wp2_with fail
        go_roundw
        case rel => exact ⟨k + 1, by omega, by go_num, HZ.out⟩
        case measure => simp [intOf]; omega
      | true =>
        obtain ⟨a, C, hc, hac⟩ := HK.out k hq
        have hP := hdP_below (hdP_below HH.out HZ1.out) HZ.out
        obtain ⟨d0, _, _, _, _, _, _, _, _⟩ := hd_cells hP
        obtain ⟨g, rfl, p0⟩ := ptr_at hP.row hc
        unfold ptr at p0
        obtain ⟨va, vc, na, nc, hC⟩ := hP.all k a C hc
        obtain ⟨hs1, hs2, hs3⟩ := HS.out k a C hc
        have HSC := Lib.hid (strong_any hC hs1 (by omega) (fun L e => by have := hs3 L e; omega))
        have HSN := Lib.hid (strong_len hs1 hs2 hs3)
        have HP := Lib.hid hP
        have HAC := Lib.hid hac
        have hk2 : (k : Int) < (H.cs.length : Int) := by have := HSL.out; omega
        clear hSr hq hc hac hP hC hs1 hs2 hs3
        go_wp2_with fail
        refine HSC.out.mono ?_
        rintro e w2 ⟨ak, ck, rfl, ho, hb2⟩
        have HT2 := Lib.hid (there_ok (rc := ck) (strong C) (hdP_below HP.out hb2) (ints_own ho) (by have := HSN.out; omega) HAC.out)
        have HZ2 := Lib.hid (HZ.out.trans (hb2.mono HZ.out.size))
        clear ho hb2 HSC HP HZ d0 p0 s0
        go_wp2_with fail
        refine HT2.out.mono ?_
        rintro e w3 ⟨rfl, rfl⟩
        go_wp2_with fail
        go_roundw
        case rel => exact ⟨k + 1, by omega, by go_num, HZ2.out⟩
        case measure => simp [intOf]; omega
    · have hke : ¬ (k : Int) < (S.length : Int) := by omega
      clear hlt
      go_wp2_with fail
      go_ret
      exact ⟨rfl, HZ1.out.trans (HZ.out.mono HZ1.out.size)⟩

def rf (n : Int) : Vl := (4, n, ⟨#[]⟩)
/-- The three cells of the little heap. -/
def K0 : Hd := ⟨[], [], 9, 0, 0⟩
def K1 (a0 b0 : Nat) : Hd := ⟨[some (a0, arr b0 [])], [], 9, 0, 0⟩
def K2 (a0 b0 a1 b1 : Nat) : Hd := ⟨[some (a0, arr b0 []), some (a1, arr b1 [rf 0])], [], 9, 0, 0⟩
def K3 (a0 b0 a1 b1 a2 : Nat) : Hd := ⟨[some (a0, arr b0 []), some (a1, arr b1 [rf 0]), some (a2, weak 0)], [], 9, 0, 0⟩
def K4 (a0 b0 a1 b1 a2 : Nat) : Hd := ⟨[some (a0, arr b0 []), some (a1, arr b1 [rf 0]), some (a2, weak 0)], [], 9, 1, 0⟩
def K5 (a2 : Nat) : Hd := ⟨[none, none, some (a2, weak (-1))], [0, 1], 9, 2, 2⟩
theorem taken_more {H H' : Hd} {a n : Nat} {C : Ce} (h : Taken H a C n H') (hf : H.fr = []) : n = H.cs.length ∧ H' = H.more a C := by
  cases h with
  | more _ => exact ⟨rfl, rfl⟩
  | again hm _ _ => rw [hf] at hm; cases hm
theorem k3_reach (a0 b0 a1 b1 a2 : Nat) : rchd (K3 a0 b0 a1 b1 a2) [1, 2] = [true, true, true] := by rfl
theorem k3_coll (a0 b0 a1 b1 a2 : Nat) : collected [true, true, true] (K3 a0 b0 a1 b1 a2) = K4 a0 b0 a1 b1 a2 ∧ (colls [true, true, true] (K3 a0 b0 a1 b1 a2) 3).2 = 0 := ⟨by rfl, by rfl⟩
theorem k4_reach (a0 b0 a1 b1 a2 : Nat) : rchd (K4 a0 b0 a1 b1 a2) [2] = [false, false, true] := by rfl
theorem k4_coll (a0 b0 a1 b1 a2 : Nat) : collected [false, false, true] (K4 a0 b0 a1 b1 a2) = K5 a2 ∧ (colls [false, false, true] (K4 a0 b0 a1 b1 a2) 3).2 = 2 := ⟨by rfl, by rfl⟩
theorem k5_reach (a2 : Nat) : rchd (K5 a2) [2] = [false, false, true] := by rfl
theorem fre_nil {H : Hd} (h : H.fr = []) : Fre H := fun m x e => by rw [h] at e; simp at e
theorem k3_small (a0 b0 a1 b1 a2 : Nat) : Small (K3 a0 b0 a1 b1 a2) := fun i a C h => by
  unfold K3 at h
  match i, h with
  | 0, h => simp at h; obtain ⟨_, rfl⟩ := h; exact ⟨rfl, by simp [arr], fun L e => by unfold arr at e; cases e; simp⟩
  | 1, h => simp at h; obtain ⟨_, rfl⟩ := h; exact ⟨rfl, by simp [arr], fun L e => by unfold arr at e; cases e; simp⟩
  | 2, h => simp at h; obtain ⟨_, rfl⟩ := h; exact ⟨rfl, by simp [weak], fun L e => by unfold weak at e; cases e⟩
  | n + 3, h => simp at h
theorem k4_small (a0 b0 a1 b1 a2 : Nat) : Small (K4 a0 b0 a1 b1 a2) := fun i a C h => k3_small a0 b0 a1 b1 a2 i a C h
theorem k5_small (a2 : Nat) : Small (K5 a2) := fun i a C h => by
  unfold K5 at h
  match i, h with
  | 0, h => simp at h
  | 1, h => simp at h
  | 2, h => simp at h; obtain ⟨_, rfl⟩ := h; exact ⟨rfl, by simp [weak], fun L e => by unfold weak at e; cases e⟩
  | n + 3, h => simp at h
theorem ints_two {w : World} {g : Nat} {x y : Int} (h : w.heap[g]? = some (.cells #[.int .i64 x, .int .i64 y] 3 (0, 0))) : Ints (some ⟨g, 0, none⟩) w [x, y] :=
  Or.inr ⟨g, 0, rfl, lt_of_block h, fun i z hz => by
    match i, hz with
    | 0, hz => simp at hz; subst hz; rw [cell_of_row _ _ _ _ _ _ h]; rfl
    | 1, hz => simp at hz; subst hz; rw [cell_of_row _ _ _ _ _ _ h]; rfl
    | n + 2, hz => simp at hz⟩
theorem ints_one {w : World} {g : Nat} {x : Int} (h : w.heap[g]? = some (.cells #[.int .i64 x] 3 (0, 0))) : Ints (some ⟨g, 0, none⟩) w [x] :=
  Or.inr ⟨g, 0, rfl, lt_of_block h, fun i z hz => by
    match i, hz with
    | 0, hz => simp at hz; subst hz; exact cell_of_one h
    | n + 1, hz => simp at hz⟩
theorem src_one {w : World} {g : Nat} {e : Vl} (h : w.heap[g]? = some (.cells #[.int .i64 e.1, .int .i64 e.2.1, .string e.2.2] 30 (0, 0))) : Li.Src (some ⟨g, 0, none⟩) w [e] :=
  Or.inr ⟨_, rfl, fun j u hj => by
    obtain ⟨c0, c1, c2⟩ := Ta.three h
    rw [Go.WideShapes.add_plain]
    match j, hj with
    | 0, hj => simp [flat, cel] at hj; subst hj; exact c0
    | 1, hj => simp [flat, cel] at hj; subst hj; exact c1
    | 2, hj => simp [flat, cel] at hj; subst hj; exact c2
    | n + 3, hj => simp [flat, cel] at hj⟩
theorem k5_get0 {F : Nat → Option Nat} {B hb gc fc a2 : Nat} {ga fa : Option Addr} {w : World} (h : HdP F B hb ga gc fa fc w (K5 a2)) : Calls Try.prog 39 #[.pointer (some ⟨hb, 0, none⟩), .int .i64 0] w fun x w' => x = .returned (.tuple #[.pointer none, .int .i64 41]) ∧ w = w' := get_gone (i := 0) h rfl
theorem k5_get1 {F : Nat → Option Nat} {B hb gc fc a2 : Nat} {ga fa : Option Addr} {w : World} (h : HdP F B hb ga gc fa fc w (K5 a2)) : Calls Try.prog 39 #[.pointer (some ⟨hb, 0, none⟩), .int .i64 (-1)] w fun x w' => x = .returned (.tuple #[.pointer none, .int .i64 1]) ∧ w = w' := get_out h (-1) (Or.inl (by decide))
theorem k5_target {F : Nat → Option Nat} {B hb gc fc a2 : Nat} {ga fa : Option Addr} {w : World} (h : HdP F B hb ga gc fa fc w (K5 a2)) : Calls Try.prog 65 #[.pointer (some ⟨a2, 0, none⟩)] w fun x w' => x = .returned (.int .i64 (-1)) ∧ w = w' := by
  obtain ⟨va, vc, na, nc, hC⟩ := h.all 2 a2 (weak (-1)) rfl
  exact target_any hC
theorem k5_live {F : Nat → Option Nat} {B hb gc fc a2 : Nat} {ga fa : Option Addr} {w : World} (h : HdP F B hb ga gc fa fc w (K5 a2)) : Calls Try.prog 44 #[.pointer (some ⟨hb, 0, none⟩)] w fun x w' => x = .returned (.int .i64 1) ∧ Below w.heap.size w w' := live_any h
theorem k5_freed {F : Nat → Option Nat} {B hb gc fc a2 : Nat} {ga fa : Option Addr} {w : World} (h : HdP F B hb ga gc fa fc w (K5 a2)) : Calls Try.prog 66 #[.pointer (some ⟨hb, 0, none⟩)] w fun x w' => x = .returned (.int .i64 2) ∧ w = w' := freed_any h
theorem k5_runs {F : Nat → Option Nat} {B hb gc fc a2 : Nat} {ga fa : Option Addr} {w : World} (h : HdP F B hb ga gc fa fc w (K5 a2)) : Calls Try.prog 67 #[.pointer (some ⟨hb, 0, none⟩)] w fun x w' => x = .returned (.int .i64 2) ∧ w = w' := runs_any h
theorem k5_limit {F : Nat → Option Nat} {B hb gc fc a2 : Nat} {ga fa : Option Addr} {w : World} (h : HdP F B hb ga gc fa fc w (K5 a2)) : Calls Try.prog 27 #[.pointer (some ⟨hb, 0, none⟩)] w fun x w' => x = .returned (.int .i64 9) ∧ w = w' := limit_any h
theorem k5_check {F : Nat → Option Nat} {B hb gc fc a2 g : Nat} {ga fa : Option Addr} {w : World} (h : HdP F B hb ga gc fa fc w (K5 a2)) (hg : w.heap[g]? = some (.cells #[.int .i64 2] 3 (0, 0))) :
    Calls Try.prog 38 #[.pointer (some ⟨hb, 0, none⟩), .slice (some ⟨g, 0, none⟩) 1 1] w fun x w' => x = .returned (.int .i64 0) ∧ Below w.heap.size w w' :=
  check_ok (rc := 1) [2] h (ints_one hg) (by simp) (k5_small a2) (fun x hx => by simp at hx; subst hx; exact ⟨2, a2, _, rfl, rfl⟩) (fun i hi => by
    rw [k5_reach] at hi
    match i, hi with
    | 0, hi => simp at hi
    | 1, hi => simp at hi
    | 2, hi => exact ⟨a2, weak (-1), rfl, fun x hx => by simp [strong, lsC, tsC, weak, cl] at hx⟩
    | n + 3, hi => simp at hi)
/-- What stands before the second collection. -/
structure KH (w0 : World) (FK : Nat → Option Nat) (hb : Nat) (ga : Option Addr) (gc : Nat) (fa : Option Addr) (fc gA gB a0 b0 a1 b1 a2 : Nat) (w : World) : Prop where
  p : HdP FK w0.heap.size hb ga gc fa fc w (K4 a0 b0 a1 b1 a2)
  z : Below w0.heap.size w0 w
  a : w.heap[gA]? = some (.cells #[.int .i64 4, .int .i64 0, .string ⟨#[]⟩] 30 (0, 0))
  b : w.heap[gB]? = some (.cells #[.int .i64 4, .int .i64 1, .string ⟨#[]⟩] 30 (0, 0))
theorem kh_below {w0 w w' : World} {FK : Nat → Option Nat} {hb gc fc gA gB a0 b0 a1 b1 a2 : Nat} {ga fa : Option Addr} (h : KH w0 FK hb ga gc fa fc gA gB a0 b0 a1 b1 a2 w) (hb' : Below w.heap.size w w') : KH w0 FK hb ga gc fa fc gA gB a0 b0 a1 b1 a2 w' :=
  ⟨hdP_below h.p hb', h.z.trans (hb'.mono h.z.size), (hb'.block _ (lt_of_block h.a)).trans h.a, (hb'.block _ (lt_of_block h.b)).trans h.b⟩
theorem kh_cells {w0 w : World} {FK : Nat → Option Nat} {hb gc fc gA gB a0 b0 a1 b1 a2 : Nat} {ga fa : Option Addr} (h : KH w0 FK hb ga gc fa fc gA gB a0 b0 a1 b1 a2 w) :
    w.cell? ⟨gA, 1, none⟩ = some (.int .i64 0) ∧ w.cell? ⟨gB, 0, none⟩ = some (.int .i64 4) ∧ w.cell? ⟨gB, 1, none⟩ = some (.int .i64 1) ∧ w.cell? ⟨gB, 2, none⟩ = some (.string ⟨#[]⟩) :=
  ⟨(Ta.three h.a).2.1, (Ta.three h.b).1, (Ta.three h.b).2.1, (Ta.three h.b).2.2⟩
theorem kh_target {w0 w : World} {FK : Nat → Option Nat} {hb gc fc gA gB a0 b0 a1 b1 a2 : Nat} {ga fa : Option Addr} (h : KH w0 FK hb ga gc fa fc gA gB a0 b0 a1 b1 a2 w) :
    Calls Try.prog 65 #[.pointer (some ⟨a2, 0, none⟩)] w fun x w' => x = .returned (.int .i64 0) ∧ w = w' := by
  obtain ⟨va, vc, na, nc, hC⟩ := h.p.all 2 a2 (weak 0) rfl
  exact target_any hC
theorem kh_type {w0 w : World} {FK : Nat → Option Nat} {hb gc fc gA gB a0 b0 a1 b1 a2 : Nat} {ga fa : Option Addr} (h : KH w0 FK hb ga gc fa fc gA gB a0 b0 a1 b1 a2 w) :
    Calls Try.prog 48 #[.pointer (some ⟨hb, 0, none⟩), .agg #[.int .i64 4, .int .i64 1, .string ⟨#[]⟩]] w fun x w' => x = .returned (.string ⟨#[97, 114, 114, 97, 121]⟩) ∧ Below w.heap.size w w' := by
  have := type_cell (i := 1) h.p (show (K4 a0 b0 a1 b1 a2).cs[1]? = some (some (a1, arr b1 [rf 0])) from rfl) ⟨#[]⟩
  rw [show (arr b1 [rf 0]).k = 1 from rfl, nm_one] at this
  exact this
theorem kh_name (w : World) : Calls Try.prog 45 #[.int .i64 9] w fun x w' => x = .returned (.string ⟨#[119, 101, 97, 107, 114, 101, 102]⟩) ∧ Below w.heap.size w w' := by
  have := name_any 9 w
  rw [nm_nine] at this
  exact this
theorem kh_collect {w0 w : World} {FK : Nat → Option Nat} {hb gc fc gA gB a0 b0 a1 b1 a2 g : Nat} {ga fa : Option Addr} (h : KH w0 FK hb ga gc fa fc gA gB a0 b0 a1 b1 a2 w) (hg : w.heap[g]? = some (.cells #[.int .i64 2] 3 (0, 0))) :
    Calls Try.prog 36 #[.pointer (some ⟨hb, 0, none⟩), .slice (some ⟨g, 0, none⟩) 1 1] w fun x w' => ∃ fa' fc', x = .returned (.int .i64 2) ∧ HdP FK w0.heap.size hb ga gc fa' fc' w' (K5 a2) ∧ FrX T4 w w' ∧ Below w0.heap.size w w' := by
  have hC := collect_any (rc := 1) [2] h.p h.z.size (ints_one hg) (by simp) (k4_small a0 b0 a1 b1 a2) (by simp [K4, liv]) (by simp [K4])
  rw [k4_reach, (k4_coll a0 b0 a1 b1 a2).1] at hC
  refine hC.mono ?_
  rintro x w' ⟨fa', fc', rfl, h1, h2, h3⟩
  refine ⟨fa', fc', ?_, h1, h2, h3⟩
  have e : (colls [false, false, true] (K4 a0 b0 a1 b1 a2) (K4 a0 b0 a1 b1 a2).cs.length).2 = 2 := (k4_coll a0 b0 a1 b1 a2).2
  rw [e]
  rfl
set_option maxRecDepth 100000 in
set_option maxHeartbeats 8000000 in
theorem hkeeps_any (w : World) : Calls Try.prog 25 #[] w fun x w' => x = .returned (.bool true) ∧ Below w.heap.size w w' := by
  go_enter Try.func25, Try.ntmps25
  go_wp2_with fail
  refine (hnew_any 9 _).mono ?_
  rintro e w1 ⟨hb, rfl, hP, hz⟩
  have HP1 : Hid (HdP (fun _ => none) w.heap.size hb none 0 none 0 w1 K0) := hP
  have HZ1 := Lib.hid hz
  clear hP hz
  go_wp2_with fail
  refine (newArray_any (c := 0) (ad := none) [] HP1.out HZ1.out.size (by simp) (Or.inl rfl) ⟨by decide, fre_nil rfl, by decide⟩).mono ?_
  rintro e w2 ⟨n, a0, b0, H1, ga1, gc1, rfl, hT, hP, hf, hz⟩
  obtain ⟨hn, rfl⟩ := taken_more hT rfl
  obtain rfl : n = 0 := hn
  have HZ2 := Lib.hid (HZ1.out.trans hz)
  have hq := ((Below.refl w2.heap.size w2).alloc (Nat.le_refl _) (.cells #[.int .i64 4, .int .i64 0, .string ⟨#[]⟩] 30)).alloc (by simp) (.cells #[.int .i64 4, .int .i64 0, .string ⟨#[]⟩] 30)
  have hP' : HdP (Up (fun _ => none) w1 w2 a0) w.heap.size hb ga1 gc1 none 0 w2 (K1 a0 b0) := hP
  have hNA := newArray_any (c := 1) (ad := some ⟨w2.heap.size + 1, 0, none⟩) [rf 0] (hdP_below hP' hq) (Nat.le_trans HZ2.out.size hq.size) (by simp) (src_one (e := rf 0) (by
    have h := heap_alloc_new (w2.alloc (.cells #[.int .i64 4, .int .i64 0, .string ⟨#[]⟩] 30)) (.cells #[.int .i64 4, .int .i64 0, .string ⟨#[]⟩] 30)
    rw [World.size_alloc] at h
    exact h)) ⟨by simp [K1], fre_nil rfl, by simp [K1]⟩
  have hA1 := heap_alloc_new w2 (.cells #[.int .i64 4, .int .i64 0, .string ⟨#[]⟩] 30)
  have hA2 := (heap_alloc_old (w2.alloc (.cells #[.int .i64 4, .int .i64 0, .string ⟨#[]⟩] 30)) (.cells #[.int .i64 4, .int .i64 0, .string ⟨#[]⟩] 30) (lt_of_block hA1)).trans hA1
  have HNA := Lib.hid hNA
  have HA2 := Lib.hid hA2
  have HQ := Lib.hid (HZ2.out.trans (hq.mono HZ2.out.size))
  clear hT hP hf hz HP1 hq hP' hNA hA1 hA2
  go_wp2_with fail
  refine HNA.out.mono ?_
  rintro e w3 ⟨n, a1, b1, H2, ga2, gc2, rfl, hT, hP, hf, hz⟩
  obtain ⟨hn, rfl⟩ := taken_more hT rfl
  obtain rfl : n = 1 := hn
  have HZ3 := Lib.hid (HQ.out.trans hz)
  have hA3 := blk_fp ⟨by decide, by decide⟩ HA2.out hf
  have hq := (Below.refl w3.heap.size w3).alloc (Nat.le_refl _) (.cells #[.int .i64 4, .int .i64 1, .string ⟨#[]⟩] 30)
  have hA4 := (hq.block _ (lt_of_block hA3)).trans hA3
  have hB4 := heap_alloc_new w3 (.cells #[.int .i64 4, .int .i64 1, .string ⟨#[]⟩] 30)
  obtain ⟨FK, hFK⟩ : ∃ FK, HdP FK w.heap.size hb ga2 gc2 none 0 w3 (K2 a0 b0 a1 b1) := ⟨_, hP⟩
  have hAim := aim_yes (i := 0) (hdP_below hFK hq) (Nat.le_trans HZ3.out.size hq.size) (show (K2 a0 b0 a1 b1).cs[0]? = some (some (a0, arr b0 [])) from rfl) ⟨by simp [K2], fre_nil rfl, by simp [K2]⟩
  have HAIM := Lib.hid hAim
  have HA4 := Lib.hid hA4
  have HB4 := Lib.hid hB4
  have HQ3 := Lib.hid (HZ3.out.trans (hq.mono HZ3.out.size))
  obtain ⟨x0, x1, x2⟩ := Ta.three hA4
  clear hT hP hf hz hA3 hq hA4 hB4 hFK hAim HNA HA2 HQ
  go_wp2_with fail
  refine HAIM.out.mono ?_
  rintro e w4 ⟨n, H3, ga3, gc3, rfl, hT, hP, hf, hz⟩
  obtain ⟨hn, rfl⟩ := taken_more hT rfl
  obtain rfl : n = 2 := hn
  obtain ⟨a2, FK, hFK⟩ : ∃ a2 FK, HdP FK w.heap.size hb ga3 gc3 none 0 w4 ((K2 a0 b0 a1 b1).more a2 (weak 0)) := ⟨_, _, hP⟩
  replace hFK : HdP FK w.heap.size hb ga3 gc3 none 0 w4 (K3 a0 b0 a1 b1 a2) := hFK
  have HZ4 := Lib.hid (HQ3.out.trans hz)
  have hA5 := blk_fp ⟨by decide, by decide⟩ HA4.out hf
  have hB5 := blk_fp ⟨by decide, by decide⟩ HB4.out hf
  have hq := (Below.refl w4.heap.size w4).alloc (Nat.le_refl _) (.cells #[.int .i64 1, .int .i64 2] 3)
  have hR := heap_alloc_new w4 (.cells #[.int .i64 1, .int .i64 2] 3)
  have HL := Lib.hid (live_any hFK)
  have HK := Lib.hid hFK
  obtain ⟨y0, y1, y2⟩ := Ta.three hB5
  have HA5 := Lib.hid hA5
  have HB5 := Lib.hid hB5
  have HLO := Lib.hid (Nat.le_trans HZ4.out.size (Nat.le_refl _))
  clear hT hP hf hz hA5 hB5 hq hR hFK HAIM HA4 HB4 x0 x1 x2
  go_wp2_with fail
  refine HL.out.mono ?_
  rintro e w5 ⟨rfl, hz5⟩
  have hl3 : ((K3 a0 b0 a1 b1 a2).cs.length : Int) - ((K3 a0 b0 a1 b1 a2).fr.length : Int) = 3 := by simp [K3]
  rw [hl3]
  have hP5 := hdP_below HK.out hz5
  have hq := (Below.refl w5.heap.size w5).alloc (Nat.le_refl _) (.cells #[.int .i64 1, .int .i64 2] 3)
  have hR := heap_alloc_new w5 (.cells #[.int .i64 1, .int .i64 2] 3)
  have hC := collect_any (rc := 2) [1, 2] (hdP_below hP5 hq) (Nat.le_trans (Nat.le_trans HZ4.out.size hz5.size) hq.size) (ints_two hR) (by simp) (k3_small a0 b0 a1 b1 a2) (by simp [K3, liv]) (by simp [K3])
  rw [k3_reach, (k3_coll a0 b0 a1 b1 a2).1] at hC
  have HC := Lib.hid hC
  have hA6 := (hz5.block _ (lt_of_block HA5.out)).trans HA5.out
  have hB6 := (hz5.block _ (lt_of_block HB5.out)).trans HB5.out
  have HA6 := Lib.hid ((hq.block _ (lt_of_block hA6)).trans hA6)
  have HB6 := Lib.hid ((hq.block _ (lt_of_block hB6)).trans hB6)
  have HQ5 := Lib.hid ((HZ4.out.trans (hz5.mono HZ4.out.size)).trans (hq.mono (Nat.le_trans HZ4.out.size hz5.size)))
  clear y0 y1 y2
  obtain ⟨y0, y1, y2⟩ := Ta.three hB6
  clear hP5 hq hR hC hA6 hB6 hz5 HL HK HA5 HB5 HLO hl3
  go_wp2_with fail
  refine HC.out.mono ?_
  rintro e w6 ⟨fa6, fc6, rfl, hP, hf, hz⟩
  have e2 : ((colls [true, true, true] (K3 a0 b0 a1 b1 a2) (K3 a0 b0 a1 b1 a2).cs.length).2 : Int) = 0 := by
    have := (k3_coll a0 b0 a1 b1 a2).2
    show ((colls [true, true, true] (K3 a0 b0 a1 b1 a2) 3).2 : Int) = 0
    rw [this]; rfl
  rw [e2]
  have HP6 := Lib.hid hP
  have HZ6 := Lib.hid (HQ5.out.trans hz)
  have HA7 := Lib.hid (frX_blk hf HA6.out (by decide))
  have HB7 := Lib.hid (frX_blk hf HB6.out (by decide))
  have HG := Lib.hid (get_yes (i := 2) hP (show (K4 a0 b0 a1 b1 a2).cs[2]? = some (some (a2, weak 0)) from rfl))
  clear e2 hP hf hz HC HQ5 HA6 HB6 y0 y1 y2
  go_wp2_with fail
  refine HG.out.mono ?_
  rintro e w7 ⟨rfl, rfl⟩
  go_wp2_with fail
  have HK := Lib.hid (KH.mk HP6.out HZ6.out HA7.out HB7.out)
  clear HP6 HZ6 HA7 HB7
  obtain ⟨o1, o2, o3, o4⟩ := kh_cells HK.out
  have HO := Lib.hid (kh_cells HK.out)
  have HKn := Lib.hid (kh_below HK.out (Below.refl _ _).drew)
  have HOd := Lib.hid (kh_cells HKn.out)
  clear HK
  have HK := HKn
  clear HKn
  go_region_held3 (fun w' => w'.cell? ⟨w2.heap.size, 1, none⟩ = some (.int .i64 0) ∧ w'.cell? ⟨w3.heap.size, 0, none⟩ = some (.int .i64 4) ∧ w'.cell? ⟨w3.heap.size, 1, none⟩ = some (.int .i64 1) ∧ w'.cell? ⟨w3.heap.size, 2, none⟩ = some (.string ⟨#[]⟩)) (with_reducible (first | exact HO.out | exact HOd.out | exact HO2.out | exact HO3.out))
    (first
      | (go_at_call 65; refine (kh_target HK.out).mono ?_; rintro e9 w9 ⟨rfl, rfl⟩)
      | (go_at_call 48; refine (kh_type HK.out).mono ?_; rintro e9 w9 ⟨rfl, hb9⟩; have HKn := Lib.hid (kh_below HK.out hb9); clear HK hb9; have HK := HKn; clear HKn; have HO := Lib.hid (kh_cells HK.out); obtain ⟨o1, o2, o3, o4⟩ := HO.out)
      | (go_at_call 45; refine (kh_name _).mono ?_; rintro e10 w10 ⟨rfl, hb10⟩; have HKn := Lib.hid (kh_below HK.out hb10); clear HK hb10; have HK := Lib.hid (kh_below HKn.out ((Below.refl w10.heap.size w10).alloc (Nat.le_refl _) (.cells #[.int .i64 2] 3))); have HO := Lib.hid (kh_cells HKn.out); have HO2 := Lib.hid (kh_cells HK.out); have HC := Lib.hid (kh_collect HK.out (heap_alloc_new w10 (.cells #[.int .i64 2] 3))); clear HKn)
      | (go_at_call 36; refine HC.out.mono ?_; rintro e11 w11 ⟨fa11, fc11, rfl, hP, hf, hz⟩; have HP11 := Lib.hid hP; have HZ11 := Lib.hid (HK.out.z.trans hz); have HA11 := Lib.hid (frX_blk hf HK.out.a (by decide)); have HB11 := Lib.hid (frX_blk hf HK.out.b (by decide)); have HO3 := Lib.hid (And.intro (Ta.three HA11.out).2.1 (And.intro (Ta.three HB11.out).1 (And.intro (Ta.three HB11.out).2.1 (Ta.three HB11.out).2.2))); clear hP hf hz HC))
  obtain ⟨p0, p1, p2⟩ := Ta.three HA11.out
  clear o1 o2 o3 o4 HO HOd HO2 HO3 HK HA11 HB11
  go_wp2_with fail
  refine (k5_get0 HP11.out).mono ?_
  rintro e w12 ⟨rfl, rfl⟩
  go_wp2_with fail
  refine (k5_get1 HP11.out).mono ?_
  rintro e w12 ⟨rfl, rfl⟩
  go_wp2_with fail
  refine (k5_target HP11.out).mono ?_
  rintro e w12 ⟨rfl, rfl⟩
  go_wp2_with fail
  refine (k5_live HP11.out).mono ?_
  rintro e w12 ⟨rfl, hz12⟩
  have HP12 := Lib.hid (hdP_below HP11.out hz12)
  have HZ12 := Lib.hid (HZ11.out.trans (hz12.mono HZ11.out.size))
  clear hz12 HP11 HZ11 p0 p1 p2
  go_wp2_with fail
  refine (k5_freed HP12.out).mono ?_
  rintro e w13 ⟨rfl, rfl⟩
  go_wp2_with fail
  refine (k5_runs HP12.out).mono ?_
  rintro e w13 ⟨rfl, rfl⟩
  go_wp2_with fail
  refine (k5_limit HP12.out).mono ?_
  rintro e w13 ⟨rfl, rfl⟩
  have hq := (Below.refl w12.heap.size w12).alloc (Nat.le_refl _) (.cells #[.int .i64 2] 3)
  have HCK := Lib.hid (k5_check (hdP_below HP12.out hq) (heap_alloc_new w12 (.cells #[.int .i64 2] 3)))
  have HZ13 := Lib.hid (HZ12.out.trans (hq.mono HZ12.out.size))
  clear hq HP12 HZ12
  go_wp2_with fail
  refine HCK.out.mono ?_
  rintro e w14 ⟨rfl, hz14⟩
  have HZ14 := Lib.hid (HZ13.out.trans (hz14.mono HZ13.out.size))
  clear hz14 HCK HZ13
  go_wp2_with fail
  go_ret
  exact ⟨rfl, HZ14.out⟩

set_option maxRecDepth 100000 in
theorem alloc_type {hb vc nc : Nat} {va na : Option Addr} (C : Ce) (hk : C.k < 1 ∨ 11 ≤ C.k) (w : World) :
    Calls Try.prog 43 #[.pointer (some ⟨hb, 0, none⟩), ceV C va vc na nc] w fun x w' => x = .returned (.tuple #[.int .i64 0, .int .i64 30]) ∧ Below w.heap.size w w' := by
  have HQ := Lib.hid ((Below.refl w.heap.size w).alloc (Nat.le_refl _) (celB C va vc na nc))
  have hn1 := heap_alloc_new w (celB C va vc na nc)
  unfold celB at HQ hn1
  have b0 : (w.alloc (.cells #[.int .i64 C.k, .slice va C.vs.length vc, lpV C, tpV C, .slice na C.ns.length nc, .string C.s] 78 (0, 0))).cell? ⟨w.heap.size, 0, none⟩ = some (.int .i64 C.k) := by rw [cell_of_row _ _ _ _ _ _ hn1]; rfl
  clear hn1
  unfold ceV
  by_cases h1 : C.k < 1
  · clear hk
    go_enter Try.func43, Try.ntmps43
    go_wp2_with fail
    go_ret2
    exact ⟨rfl, HQ.out⟩
  · have h2 := hk.resolve_left h1
    clear hk
    go_enter Try.func43, Try.ntmps43
    go_wp2_with fail
    go_ret2
    exact ⟨rfl, HQ.out⟩
theorem nil_set {B e cap g o : Nat} {ad : Option Addr} {w : World} {v : Value} (h : w.ownsRow B e 3 (.slice ad 0 cap) 0 []) : (w.setCell ⟨g, o, none⟩ v).ownsRow B e 3 (.slice ad 0 cap) 0 [] := by
  refine ⟨h.1, ?_⟩
  rcases h.2 with h1 | ⟨g', c, cur, hv, hb, hg, hnc, hcm, hcs, htake⟩
  · exact Or.inl h1
  · by_cases e' : g' = g
    · subst e'
      exact Or.inr ⟨g', c, cur.setIfInBounds o v, hv, hb, heap_setCell_same _ _ _ _ _ _ hg, hnc, hcm, by simpa using hcs, by simp⟩
    · exact Or.inr ⟨g', c, cur, hv, hb, (heap_setCell_other _ _ _ _ e').trans hg, hnc, hcm, hcs, htake⟩
/-- One of the values of a cell that stands alone, without values in its list, turns. -/
theorem vals_store {F : Nat → Option Nat} {B hb gc fc vc nc a g j : Nat} {ga fa na : Option Addr} {w : World} {H : Hd} {C : Ce} (h : HdP F B hb ga gc fa fc w H) (hH : H.cs = [some (a, C)]) (hC : CeP F B a (some ⟨g, 0, none⟩) vc na nc w C) (hls : C.ls = some []) (hts : C.ts = none) (e : Vl) :
    CeP F B a (some ⟨g, 0, none⟩) vc na nc (((w.setCell ⟨g, j * 3, none⟩ (.int .i64 e.1)).setCell ⟨g, j * 3 + 1, none⟩ (.int .i64 e.2.1)).setCell ⟨g, j * 3 + 2, none⟩ (.string e.2.2)) { C with vs := C.vs.set j e } ∧
    HdP F B hb ga gc fa fc (((w.setCell ⟨g, j * 3, none⟩ (.int .i64 e.1)).setCell ⟨g, j * 3 + 1, none⟩ (.int .i64 e.2.1)).setCell ⟨g, j * 3 + 2, none⟩ (.string e.2.2)) { H with cs := [some (a, { C with vs := C.vs.set j e })] } ∧
    FrX [30] w (((w.setCell ⟨g, j * 3, none⟩ (.int .i64 e.1)).setCell ⟨g, j * 3 + 1, none⟩ (.int .i64 e.2.1)).setCell ⟨g, j * 3 + 2, none⟩ (.string e.2.2)) ∧
    Below B w (((w.setCell ⟨g, j * 3, none⟩ (.int .i64 e.1)).setCell ⟨g, j * 3 + 1, none⟩ (.int .i64 e.2.1)).setCell ⟨g, j * 3 + 2, none⟩ (.string e.2.2)) := by
  obtain ⟨hgB, cur, hcur⟩ := Ta.row_block hC.vs g rfl
  have h1 := (World.ownsRow.stored hC.vs (j * 3) (.int .i64 e.1)).1
  have h2 := (World.ownsRow.stored h1 (j * 3 + 1) (.int .i64 e.2.1)).1
  have h3 := (World.ownsRow.stored h2 (j * 3 + 2) (.string e.2.2)).1
  rw [← flat_set] at h3
  have c1 := heap_setCell_same w g (j * 3) _ _ (.int .i64 e.1) hcur
  have c2 := heap_setCell_same _ g (j * 3 + 1) _ _ (.int .i64 e.2.1) c1
  have hf : FrX [30] w (((w.setCell ⟨g, j * 3, none⟩ (.int .i64 e.1)).setCell ⟨g, j * 3 + 1, none⟩ (.int .i64 e.2.1)).setCell ⟨g, j * 3 + 2, none⟩ (.string e.2.2)) :=
    frX_trans (frX_trans (frX_set hcur (by simp)) (frX_set c1 (by simp))) (frX_set c2 (by simp))
  have hz : Below B w (((w.setCell ⟨g, j * 3, none⟩ (.int .i64 e.1)).setCell ⟨g, j * 3 + 1, none⟩ (.int .i64 e.2.1)).setCell ⟨g, j * 3 + 2, none⟩ (.string e.2.2)) :=
    (((Below.refl B w).setCell (p := ⟨g, j * 3, none⟩) hgB _).setCell (p := ⟨g, j * 3 + 1, none⟩) hgB _).setCell (p := ⟨g, j * 3 + 2, none⟩) hgB _
  have hn : ∀ ad cap, Li.Own B ad cap w [] → Li.Own B ad cap (((w.setCell ⟨g, j * 3, none⟩ (.int .i64 e.1)).setCell ⟨g, j * 3 + 1, none⟩ (.int .i64 e.2.1)).setCell ⟨g, j * 3 + 2, none⟩ (.string e.2.2)) [] := fun ad cap ho => nil_set (nil_set (nil_set ho))
  generalize ((w.setCell ⟨g, j * 3, none⟩ (.int .i64 e.1)).setCell ⟨g, j * 3 + 1, none⟩ (.int .i64 e.2.1)).setCell ⟨g, j * 3 + 2, none⟩ (.string e.2.2) = w' at *
  have hlen : (C.vs.set j e).length = C.vs.length := List.length_set
  have hcb : w.heap[a]? = some (celB { C with vs := C.vs.set j e } (some ⟨g, 0, none⟩) vc na nc) := by
    rw [hC.blk]; unfold celB; simp only [List.length_set]; rfl
  have hC' : CeP F B a (some ⟨g, 0, none⟩) vc na nc w' { C with vs := C.vs.set j e } := by
    refine ⟨frX_blk hf hcb (by decide), hC.low, ?_, frX_row hf hC.ns (by decide), fun L e' => ?_, hC.fv, hC.fn, fun T e' => ?_⟩
    · show World.ownsRow _ _ _ _ _ _ _
      simp only [hlen]
      exact h3
    · obtain ⟨ad, cap, g1, g2, g3⟩ := hC.ls L e'
      have hL : L = [] := by
        have := hls.symm.trans e'
        cases this; rfl
      subst hL
      exact ⟨ad, cap, ⟨frX_blk hf g1.blk (by decide), g1.low, hn ad cap g1.own⟩, g2, g3⟩
    · exact absurd (hts.symm.trans e') (by simp)
  refine ⟨hC', ⟨?_, h.low, ?_, frX_row hf h.fre (by decide), fun i b D e' => ?_, ?_, fun k hk => Nat.lt_of_lt_of_le (h.bd k hk) hf.size, fun i k b D D' e1 e2 => ?_⟩, hf, hz⟩
  · have hb1 : w.heap[hb]? = some (hdB { H with cs := [some (a, { C with vs := C.vs.set j e })] } ga gc fa fc) := by
      rw [h.blk]; unfold hdB; rw [hH]; rfl
    exact frX_blk hf hb1 (by decide)
  · have hr := h.row
    rw [hH] at hr
    exact frX_row hf hr (by decide)
  · match i, e' with
    | 0, e' => simp at e'; obtain ⟨rfl, rfl⟩ := e'; exact ⟨_, _, _, _, hC'⟩
    | n + 1, e' => simp at e'
  · have := h.len; rw [hH] at this; exact this
  · have q1 := (List.getElem?_eq_some_iff.1 e1).1
    have q2 := (List.getElem?_eq_some_iff.1 e2).1
    simp at q1 q2
    omega
end Go.Proofs.Ytipdjjgpcmbpdaa.Hp
namespace Go.Proofs.Ytipdjjgpcmbpdaa.Hp
open Go.ChangeShapes Go.WideShapes Go.ChangeAt Go.RowKit Go.Deep Go.Proofs.Ytipdjjgpcmbpdaa.Va Go.Proofs.Ytipdjjgpcmbpdaa.Li

theorem A.cL : Try.prog.cellsOf 75 = 1 := by kernel_rfl
theorem A.cTb : Try.prog.cellsOf 25 = 1 := by kernel_rfl
theorem A.cVs : Try.prog.cellsOf 74 = 1 := by kernel_rfl
theorem A.cNs : Try.prog.cellsOf 76 = 1 := by kernel_rfl
theorem A.cN1 : Try.prog.cellsOf 2 = 1 := by kernel_rfl
theorem A.cI1 : Try.prog.cellsOf 3 = 1 := by kernel_rfl
theorem A.cS1 : Try.prog.cellsOf 9 = 1 := by kernel_rfl
theorem A.cCe : Try.prog.cellsOf 78 = 6 := by kernel_rfl
section
variable {H : Type} {enc : TypeId × Value → H} {W : World} {sp : Nat → Bool} {held : Bool}
theorem trod_struct6 {P : Program} {base : Nat} {t : TypeId} {f0 f1 f2 f3 f4 f5 : Field} {fuel : Nat} {cs : List Value} {x : DataW H × List MemPlace} (ht : P.underlying t = some (.struct #[f0, f1, f2, f3, f4, f5])) (h : DataW.trod enc P W base sp held fuel t cs = some x) :
    ∃ y0 y1 y2 y3 y4 y5 n, cs.length = P.cellsOf t ∧ DataW.trod enc P W base sp held n f0.type ((cs.drop f0.offset).take (P.cellsOf f0.type)) = some y0 ∧
      DataW.trod enc P W base sp held n f1.type ((cs.drop f1.offset).take (P.cellsOf f1.type)) = some y1 ∧ DataW.trod enc P W base sp held n f2.type ((cs.drop f2.offset).take (P.cellsOf f2.type)) = some y2 ∧
      DataW.trod enc P W base sp held n f3.type ((cs.drop f3.offset).take (P.cellsOf f3.type)) = some y3 ∧ DataW.trod enc P W base sp held n f4.type ((cs.drop f4.offset).take (P.cellsOf f4.type)) = some y4 ∧
      DataW.trod enc P W base sp held n f5.type ((cs.drop f5.offset).take (P.cellsOf f5.type)) = some y5 := by
  obtain ⟨xs, n, _, rfl, hl, hlen, hf⟩ := DataW.trod_struct ht h
  match xs, hlen with
  | [y0, y1, y2, y3, y4, y5], _ => exact ⟨y0, y1, y2, y3, y4, y5, n, hl, by simpa using hf 0 f0 rfl, by simpa using hf 1 f1 rfl, by simpa using hf 2 f2 rfl, by simpa using hf 3 f3 rfl, by simpa using hf 4 f4 rfl, by simpa using hf 5 f5 rfl⟩
set_option maxRecDepth 100000 in
theorem field_vals {fuel : Nat} {c : Value} {x : DataW H × List MemPlace} (hf : DataW.trod enc Try.prog W 0 sp held fuel 74 [c] = some x) :
    ∃ ad cap L, c = .slice ad L.length cap ∧ L.length ≤ maxLen ∧ Li.In ad W L := by
  rcases open_slice Try.underlying74 hf with ⟨hcs, hx⟩ | ⟨a, len, cap, m, n, D, Pl, hcs, _, hl, hm, hmm, hx, hcell⟩
  · simp at hcs
    subst hcs
    exact ⟨none, 0, [], rfl, Nat.zero_le _, Or.inl rfl⟩
  · simp at hcs
    subst hcs
    have hlm : len ≤ m := by rw [hmm]; split <;> omega
    have each : ∀ i, i < len → ∃ q : Int × Int × ByteArray, W.cell? (a.add (i * 3)) = some (.int .i64 q.1) ∧ W.cell? (a.add (i * 3 + 1)) = some (.int .i64 q.2.1) ∧ W.cell? (a.add (i * 3 + 2)) = some (.string q.2.2) := by
      intro i hi
      obtain ⟨cs', h1, h2⟩ := hcell i (by omega)
      obtain ⟨k, n, s, rfl, _, wk, wn, _⟩ := trod_val h2
      rw [Va.A.cV] at h1
      obtain ⟨_, _, hc⟩ := World.cells?_some h1
      have h0 := hc 0 (by omega)
      have h1' := hc 1 (by omega)
      have h2' := hc 2 (by omega)
      rw [add_add] at h0 h1' h2'
      exact ⟨(k, n, s), h0, h1', h2'⟩
    obtain ⟨q, hq⟩ := choose_lt each
    refine ⟨some a, cap, (List.range len).map q, by simp, by simp; omega, ?_⟩
    by_cases h0 : len = 0
    · subst h0; exact Or.inl rfl
    · right
      obtain ⟨g, off, spot⟩ := a
      have hs : spot = none := by
        have := World.cell?_spot (hq 0 (by omega)).1
        simpa [Addr.add] using this
      subst hs
      have hg : g < W.heap.size := by
        have := World.block_lt_of_cell? W _ (hq 0 (by omega)).1
        simpa [Addr.add] using this
      refine ⟨g, off, rfl, hg, fun i hi => ?_⟩
      have hi' : i < len := by simpa using hi
      obtain ⟨h1, h2, h3⟩ := hq i hi'
      rw [Go.WideShapes.add_plain] at h1 h2 h3
      simp only [List.getElem_map, List.getElem_range]
      exact ⟨h1, h2, h3⟩
set_option maxRecDepth 100000 in
theorem field_nums {fuel : Nat} {c : Value} {x : DataW H × List MemPlace} (hf : DataW.trod enc Try.prog W 0 sp held fuel 76 [c] = some x) :
    ∃ ad cap L, c = .slice ad L.length cap ∧ L.length ≤ maxLen ∧ SrcN ad W L := by
  rcases open_slice Try.underlying76 hf with ⟨hcs, hx⟩ | ⟨a, len, cap, m, n, D, Pl, hcs, _, hl, hm, hmm, hx, hcell⟩
  · simp at hcs
    subst hcs
    exact ⟨none, 0, [], rfl, Nat.zero_le _, Or.inl rfl⟩
  · simp at hcs
    subst hcs
    have hlm : len ≤ m := by rw [hmm]; split <;> omega
    have each : ∀ i, i < len → ∃ q : Int, W.cell? (a.add i) = some (.int .i64 q) := by
      intro i hi
      obtain ⟨cs', h1, h2⟩ := hcell i (by omega)
      obtain ⟨q, rfl, _, _⟩ := DataW.trod_int Try.underlying2 h2
      rw [A.cN1] at h1
      obtain ⟨_, _, hc⟩ := World.cells?_some h1
      have h0 := hc 0 (by omega)
      rw [add_add, Nat.mul_one, Nat.add_zero] at h0
      exact ⟨q, h0⟩
    obtain ⟨q, hq⟩ := choose_lt each
    refine ⟨some a, cap, (List.range len).map q, by simp, by simp; omega, Or.inr ⟨a, rfl, fun j u hj => ?_⟩⟩
    unfold Ta.ints at hj
    rw [List.getElem?_map, List.getElem?_map] at hj
    have hlt : j < len := by
      apply Classical.byContradiction
      intro hge
      rw [List.getElem?_eq_none (by simp; omega)] at hj
      cases hj
    rw [List.getElem?_range hlt] at hj
    simp at hj
    subst hj
    exact hq j hlt
set_option maxRecDepth 100000 in
theorem open_cell {r : Reach} {b0 : Nat} {v : Value} {d : DataW H} {ps : List MemPlace} (hval : Value.okWide Try.prog W r b0 78 v) (hd : DataW.Trod enc Try.prog W 0 sp held 78 v d ps) :
    ∃ k va vc L lp tp na nc N s, v = .agg #[.int .i64 k, .slice va L.length vc, lp, tp, .slice na N.length nc, .string s] ∧ L.length ≤ maxLen ∧ N.length ≤ maxLen ∧ s.size ≤ maxLen ∧ Li.In va W L ∧ SrcN na W N ∧ lp.oneCell' = true ∧ tp.oneCell' = true := by
  obtain ⟨cs, rfl, hsz⟩ := okWide_struct Try.underlying78 hval
  obtain ⟨fuel, hf⟩ := hd
  obtain ⟨y0, y1, y2, y3, y4, y5, n, hl, hy0, hy1, hy2, hy3, hy4, hy5⟩ := trod_struct6 Try.underlying78 hf
  rw [A.cCe] at hl
  obtain ⟨l, rfl⟩ : ∃ l : List Value, cs = l.toArray := ⟨cs.toList, by simp⟩
  simp only [Value.cells] at hl hy0 hy1 hy2 hy3 hy4 hy5
  match l, hl with
  | [c0, c1, c2, c3, c4, c5], _ =>
  simp [A.cI1, A.cVs, A.cL, A.cTb, A.cNs, A.cS1] at hy0 hy1 hy2 hy3 hy4 hy5
  obtain ⟨k, e0, _, _⟩ := DataW.trod_int Try.underlying3 hy0
  obtain ⟨va, vc, L, rfl, h1, h2⟩ := field_vals hy1
  obtain ⟨na, nc, N, rfl, h3, h4⟩ := field_nums hy4
  obtain ⟨s, e5, _, ws⟩ := DataW.trod_string Try.underlying9 hy5
  simp at e0 e5
  subst e0 e5
  refine ⟨k, va, vc, L, c2, c3, na, nc, N, s, rfl, h1, h3, ws, h2, h4, ?_, ?_⟩
  · rcases DataW.trod_pointer Try.underlying75 hy2 with ⟨e, _⟩ | ⟨a, _, _, _, _, e, _⟩
    · simp at e; subst e; rfl
    · simp at e; subst e; rfl
  · rcases DataW.trod_pointer Try.underlying25 hy3 with ⟨e, _⟩ | ⟨a, _, _, _, _, e, _⟩
    · simp at e; subst e; rfl
    · simp at e; subst e; rfl
end
end Go.Proofs.Ytipdjjgpcmbpdaa.Hp
