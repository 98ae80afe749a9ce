/- Contracts of lex.Show and lex.Join. -/
import Derived.Test.YthjmlgbnpnfkgaaDoorLex8
import Derived.Test.YthjmlgbnpnfkgaaDoorQuote
import Derived.Test.YthjmlgbnpnfkgaaDoorBuildF
set_option linter.unusedVariables false
set_option linter.unusedSimpArgs false
namespace Go.Proofs.YthjmlgbnpnfkgaaDoor.Lx
open Go.RowKit Go.ChangeShapes Go.WideShapes Go.ChangeAt Go.Proofs.YthjmlgbnpnfkgaaDoor.Nu

def shw (t : Tk) : List UInt8 := if t.k = 4 then 34 :: (escs t.x ++ [34]) else t.x
theorem shw_str {t : Tk} (h : t.k = 4) : shw t = 34 :: (escs t.x ++ [34]) := if_pos h
theorem shw_else {t : Tk} (h : ¬ t.k = 4) : shw t = t.x := if_neg h
set_option maxRecDepth 100000 in
theorem show_any (t : Tk) (hs : t.x.length ≤ 1048576) (w : World) :
    Calls Tryd.prog 19 #[.agg #[.int .i64 t.k, .int .i64 t.a, .string ⟨t.x.toArray⟩, .int .i64 t.v, .bool t.b]] w fun e w' => e = .returned (.string ⟨(shw t).toArray⟩) ∧ Below w.heap.size w w' := by
  have hm := heap_alloc_new w (.cells #[.int .i64 t.k, .int .i64 t.a, .string ⟨t.x.toArray⟩, .int .i64 t.v, .bool t.b] 33)
  obtain ⟨d0, d1, d2, d3, d4⟩ := five hm
  clear hm
  have hsz : (⟨t.x.toArray⟩ : ByteArray).size = t.x.length := by simp [ByteArray.size]
  obtain ⟨s, hs'⟩ : ∃ s : ByteArray, s = ⟨t.x.toArray⟩ := ⟨_, rfl⟩
  have hx : s.data.toList = t.x := by rw [hs']
  have hs2 : s.size ≤ 1048576 := by rw [hs']; omega
  rw [← hs'] at d0 d1 d2 d3 d4 ⊢
  by_cases h4 : t.k = 4
  · have HS : Hid (shw t = 34 :: (escs s.data.toList ++ [34])) := by show _ = _; rw [hx]; exact shw_str h4
    have hb4 : (t.k == 4) = true := by rw [h4]; rfl
    generalize shw t = R at *
    clear hs' hsz
    go_enter Tryd.func19, Tryd.ntmps19
    go_wp2_with fail
    refine (quote_any s hs2 _).mono ?_
    rintro e w1 ⟨rfl, hb1⟩
    go_wp2_with fail
    go_ret
    refine ⟨?_, ((Below.refl _ _).alloc (Nat.le_refl _) _).trans (hb1.mono (by simp))⟩
    rw [HS.out, hx]; rfl
  · have HS : Hid (s = ⟨(shw t).toArray⟩) := by show _ = _; rw [hs', shw_else h4]
    have hb4 : (t.k == 4) = false := by rw [beq_eq_false_iff_ne]; exact h4
    generalize shw t = R at *
    clear hs' hsz
    go_enter Tryd.func19, Tryd.ntmps19
    go_wp2_with fail
    refine (clone_any s (by omega) _).mono ?_
    rintro e w1 ⟨rfl, hb1⟩
    go_wp2_with fail
    go_ret
    refine ⟨?_, ((Below.refl _ _).alloc (Nat.le_refl _) _).trans (hb1.mono (by simp))⟩
    rw [HS.out]; rfl
theorem size_list2 (l : List UInt8) : (⟨l.toArray⟩ : ByteArray).size = l.length := by simp [ByteArray.size]
/-- What Join writes. -/
def joi : Bool → List Tk → List UInt8
  | _, [] => []
  | first, t :: L => (if t.b then [10] else if first then [] else [32]) ++ (shw t ++ joi false L)
theorem joi_nil (f : Bool) : joi f [] = [] := by cases f <;> rfl
theorem joi_cons (f : Bool) (t : Tk) (L : List Tk) : joi f (t :: L) = (if t.b then [10] else if f then [] else [32]) ++ (shw t ++ joi false L) := rfl
theorem shw_le (t : Tk) : t.x.length ≤ (shw t).length := by
  unfold shw
  split
  · have : ∀ l : List UInt8, l.length ≤ (escs l).length := by
      intro l
      induction l with
      | nil => simp
      | cons c l ih =>
        have h1 : escs (c :: l) = esc c.toNat ++ escs l := rfl
        have h2 : 1 ≤ (esc c.toNat).length := by
          unfold esc
          (repeat' split) <;> simp
        rw [h1, List.length_append, List.length_cons]; omega
    have := this t.x
    simp; omega
  · exact Nat.le_refl _
/-- A row of tokens lies at a block's beginning. -/
def Row (w : World) (g : Nat) (L : List Tk) : Prop := ∀ j u, (flatT L)[j]? = some u → w.cell? ⟨g, j, none⟩ = some u
theorem flatT_at : ∀ (L : List Tk) (i : Nat) (h : i < L.length), (flatT L)[i * 5]? = some (.int .i64 (L[i]).k) ∧ (flatT L)[i * 5 + 1]? = some (.int .i64 (L[i]).a) ∧ (flatT L)[i * 5 + 2]? = some (.string ⟨(L[i]).x.toArray⟩) ∧ (flatT L)[i * 5 + 3]? = some (.int .i64 (L[i]).v) ∧ (flatT L)[i * 5 + 4]? = some (.bool (L[i]).b)
  | e :: L, 0, _ => by
    have h : flatT (e :: L) = celT e ++ flatT L := rfl
    rw [h]; simp [celT]
  | e :: L, i + 1, h => by
    have ih := flatT_at L i (by simpa using h)
    have h1 : flatT (e :: L) = celT e ++ flatT L := rfl
    have h2 : (celT e).length = 5 := rfl
    have h3 : ∀ k, (celT e ++ flatT L)[i * 5 + k + 5]? = (flatT L)[i * 5 + k]? := fun k => by
      rw [List.getElem?_append_right (by rw [h2]; omega), h2]; congr 1
    rw [h1, show (i + 1) * 5 = i * 5 + 0 + 5 by omega, h3 0, show i * 5 + 0 + 5 + 1 = i * 5 + 1 + 5 by omega, h3 1, show i * 5 + 0 + 5 + 2 = i * 5 + 2 + 5 by omega, h3 2, show i * 5 + 0 + 5 + 3 = i * 5 + 3 + 5 by omega, h3 3, show i * 5 + 0 + 5 + 4 = i * 5 + 4 + 5 by omega, h3 4]
    exact ih
theorem row_at {w : World} {g : Nat} {L : List Tk} (h : Row w g L) (i : Nat) (hi : i < L.length) :
    w.cell? ⟨g, i * 5, none⟩ = some (.int .i64 (L[i]).k) ∧ w.cell? ⟨g, i * 5 + 1, none⟩ = some (.int .i64 (L[i]).a) ∧ w.cell? ⟨g, i * 5 + 2, none⟩ = some (.string ⟨(L[i]).x.toArray⟩) ∧ w.cell? ⟨g, i * 5 + 3, none⟩ = some (.int .i64 (L[i]).v) ∧ w.cell? ⟨g, i * 5 + 4, none⟩ = some (.bool (L[i]).b) := by
  obtain ⟨h1, h2, h3, h4, h5⟩ := flatT_at L i hi
  exact ⟨h _ _ h1, h _ _ h2, h _ _ h3, h _ _ h4, h _ _ h5⟩
theorem row_keep {w w' : World} {g : Nat} {L : List Tk} (h : Row w g L) (hg : g < w.heap.size) (hb : Below w.heap.size w w') : Row w' g L := fun j u hj => cell_below hb hg (h j u hj)
theorem row_take {w : World} {g : Nat} {L : List Tk} (h : Row w g L) (n : Nat) : Row w g (L.take n) := by
  intro j u hj
  refine h j u ?_
  have e : flatT L = flatT (L.take n) ++ flatT (L.drop n) := by rw [← flatT_append, List.take_append_drop]
  rw [e]
  have hlt : j < (flatT (L.take n)).length := by
    rcases Nat.lt_or_ge j (flatT (L.take n)).length with h1 | h1
    · exact h1
    · rw [List.getElem?_eq_none h1] at hj; cases hj
  rw [List.getElem?_append_left hlt]; exact hj

set_option maxRecDepth 100000 in
set_option maxHeartbeats 2000000 in
theorem join_any (L : List Tk) (g cap : Nat) (w : World) (hg : g < w.heap.size) (hl : L.length ≤ 1048576) (hrow : Row w g L) (hsum : (joi true L).length ≤ 1048576) :
    Calls Tryd.prog 12 #[.slice (some ⟨g, 0, none⟩) L.length cap] w fun e w' => e = .returned (.string ⟨(joi true L).toArray⟩) ∧ Below w.heap.size w w' := by
  have hf := Lib.fresh_isBuilder 55 5 w
  have HF := Lib.hid hf
  have HC := Lib.hid hrow
  clear hf hrow
  generalize hJ : joi true L = J at *
  have HJ := Lib.hid hJ
  clear hJ
  go_enter Tryd.func12, Tryd.ntmps12
  go_wp2_with fail
  go_loopw [8] (fun i wr => ∃ (k : Nat) (acc : List UInt8), k ≤ L.length ∧ i = .int .i64 (k : Int) ∧ Hid (Lib.IsBuilder 55 5 w.heap.size w.heap.size (Lib.byteCells acc) wr) ∧ Hid (acc ++ joi (decide (k = 0)) (L.drop k) = J) ∧ Below w.heap.size w wr) (fun i _ => L.length - (intOf i).toNat)
  case atStart => exact ⟨0, [], by omega, rfl, HF, HJ.out, (Below.refl _ _).alloc (Nat.le_refl _) _⟩
  case round =>
    obtain ⟨k, acc, hk, rfl, HB, HU, hb⟩ := hrel
    have hsz := hb.size
    by_cases hlt : k < L.length
    · obtain ⟨r0, r1, r2, r3, r4⟩ := row_at HC.out k hlt
      have c0 := cell_below hb hg r0
      have c1 := cell_below hb hg r1
      have c2 := cell_below hb hg r2
      have c3 := cell_below hb hg r3
      have c4 := cell_below hb hg r4
      have hd : L.drop k = L[k] :: L.drop (k + 1) := List.drop_eq_getElem_cons hlt
      have HU1 := HU.out
      rw [hd, joi_cons] at HU1
      clear r0 r1 r2 r3 r4 hd HU
      generalize L[k] = t at *
      obtain ⟨tk, ta, tx, tv, tb⟩ := t
      dsimp only at c0 c1 c2 c3 c4
      generalize hT : shw ⟨tk, ta, tx, tv, tb⟩ = sh at HU1
      have hm := heap_alloc_new wr (.cells #[.int .i64 tk, .int .i64 ta, .string ⟨tx.toArray⟩, .int .i64 tv, .bool tb] 33)
      obtain ⟨d0, d1, d2, d3, d4⟩ := five hm
      have hb1 : Below wr.heap.size wr (wr.alloc (.cells #[.int .i64 tk, .int .i64 ta, .string ⟨tx.toArray⟩, .int .i64 tv, .bool tb] 33)) := (Below.refl _ _).alloc (Nat.le_refl _) _
      have HM := Lib.hid hm
      have HB1 := Lib.hid hb1
      have HI1 := Lib.hid (builder_below HB.out hb1)
      clear hm hb1 HB
      have hxs : tx.length ≤ sh.length := by rw [← hT]; exact shw_le ⟨tk, ta, tx, tv, tb⟩
      have HSH : Hid (∀ w, Calls Tryd.prog 19 #[.agg #[.int .i64 tk, .int .i64 ta, .string ⟨tx.toArray⟩, .int .i64 tv, .bool tb]] w fun e w' => e = .returned (.string ⟨sh.toArray⟩) ∧ Below w.heap.size w w') := fun w => by
        have := show_any ⟨tk, ta, tx, tv, tb⟩ (by show tx.length ≤ _; have := congrArg List.length HU1; simp only [List.length_append] at this; omega) w
        rw [hT] at this; exact this
      clear hT
      cases tb
      case true =>
        rw [if_pos rfl] at HU1
        have HU2 : Hid (acc ++ [10] ++ sh ++ joi false (L.drop (k + 1)) = J) := by
          show _ = _
          rw [← HU1]; simp only [List.append_assoc, List.nil_append, List.append_nil]
        have hlen := congrArg List.length HU2.out
        simp only [List.length_append] at hlen
        rw [show ([10] : List UInt8).length = 1 from rfl] at hlen
        clear HU1
        go_wp2_with fail
        refine (putByteF w.heap.size w.heap.size _ 10 _ HI1.out (by rw [Lib.byteCells_length]; omega) (by have := HB1.out.size; omega)).mono ?_
        rintro e w2 ⟨rfl, hi2, hf2⟩
        have HI2 : Hid (Lib.IsBuilder 55 5 w.heap.size w.heap.size (Lib.byteCells (acc ++ [10])) w2) := by
          show Lib.IsBuilder _ _ _ _ _ _
          rw [Lib.byteCells_append]; exact hi2
        have hm2 := hf2.block _ _ HM.out (fun cur t2 fr e' => by simp only [Obj.cells.injEq] at e'; obtain ⟨_, rfl, _⟩ := e'; simp [TU])
        clear d0 d1 d2 d3 d4
        obtain ⟨d0, d1, d2, d3, d4⟩ := five hm2
        have HF2 := Lib.hid hf2
        clear hi2 hf2 hm2
        go_wp2_with fail
        refine (HSH.out _).mono ?_
        rintro e w3 ⟨rfl, hb3⟩
        have HI3 := Lib.hid (builder_below HI2.out hb3)
        have HB3 := Lib.hid (hb3.mono (show w.heap.size ≤ _ by have := HF2.out.b.size; have := HB1.out.size; omega))
        have hz3 : w.heap.size ≤ w3.heap.size := by have := HF2.out.b.size; have := HB1.out.size; have := hb3.size; omega
        clear hb3
        go_wp2_with fail
        refine (putString w.heap.size w.heap.size _ _ _ HI3.out (by rw [Lib.byteCells_length, size_list2]; simp only [List.length_append, List.length_cons, List.length_nil]; omega) hz3).mono ?_
        rintro e w4 ⟨rfl, hi4, hb4⟩
        have HI4 := Lib.hid hi4
        have HB4 := Lib.hid hb4
        clear hi4 hb4
        go_wp2_with fail
        go_roundw
        case rel =>
          refine ⟨k + 1, acc ++ [10] ++ sh, by omega, by go_num, ?_, ?_, ((hb.trans (HB1.out.mono hsz)).trans HF2.out.b).trans (HB3.out.trans HB4.out)⟩
          · rw [Lib.byteCells_append]
            exact HI4
          · rw [show decide (k + 1 = 0) = false by simp]
            exact HU2
        case measure => simp [intOf]; omega
      case false =>
        rw [if_neg (by simp)] at HU1
        by_cases k0 : k = 0
        · subst k0
          rw [show decide ((0 : Nat) = 0) = true from rfl, if_pos rfl] at HU1
          have HF2 : Hid (Fr TU w.heap.size (wr.alloc (.cells #[.int .i64 tk, .int .i64 ta, .string ⟨tx.toArray⟩, .int .i64 tv, .bool false] 33)) (wr.alloc (.cells #[.int .i64 tk, .int .i64 ta, .string ⟨tx.toArray⟩, .int .i64 tv, .bool false] 33))) := fr_refl _ _ _
          have HI2 : Hid (Lib.IsBuilder 55 5 w.heap.size w.heap.size (Lib.byteCells (acc ++ [])) (wr.alloc (.cells #[.int .i64 tk, .int .i64 ta, .string ⟨tx.toArray⟩, .int .i64 tv, .bool false] 33))) := by rw [List.append_nil]; exact HI1
          have HU2 : Hid (acc ++ [] ++ sh ++ joi false (L.drop (0 + 1)) = J) := by
            show _ = _
            rw [← HU1]; simp only [List.append_assoc, List.nil_append, List.append_nil]
          have hlen := congrArg List.length HU2.out
          simp only [List.length_append] at hlen
          rw [show ([] : List UInt8).length = 0 from rfl] at hlen
          clear HU1
          go_wp2_with fail
          refine (HSH.out _).mono ?_
          rintro e w3 ⟨rfl, hb3⟩
          have HI3 := Lib.hid (builder_below HI2.out hb3)
          have HB3 := Lib.hid (hb3.mono (show w.heap.size ≤ _ by have := HF2.out.b.size; have := HB1.out.size; omega))
          have hz3 : w.heap.size ≤ w3.heap.size := by have := HF2.out.b.size; have := HB1.out.size; have := hb3.size; omega
          clear hb3
          go_wp2_with fail
          refine (putString w.heap.size w.heap.size _ _ _ HI3.out (by rw [Lib.byteCells_length, size_list2]; simp only [List.length_append, List.length_cons, List.length_nil]; omega) hz3).mono ?_
          rintro e w4 ⟨rfl, hi4, hb4⟩
          have HI4 := Lib.hid hi4
          have HB4 := Lib.hid hb4
          clear hi4 hb4
          go_wp2_with fail
          go_roundw
          case rel =>
            refine ⟨0 + 1, acc ++ [] ++ sh, by omega, by go_num, ?_, ?_, ((hb.trans (HB1.out.mono hsz)).trans HF2.out.b).trans (HB3.out.trans HB4.out)⟩
            · rw [Lib.byteCells_append]
              exact HI4
            · rw [show decide (0 + 1 = 0) = false by simp]
              exact HU2
          case measure => simp [intOf]; omega
        · rw [show decide (k = 0) = false by simp [k0], if_neg (by simp)] at HU1
          have hk0 : 0 < k := by omega
          have HU2 : Hid (acc ++ [32] ++ sh ++ joi false (L.drop (k + 1)) = J) := by
            show _ = _
            rw [← HU1]; simp only [List.append_assoc, List.nil_append, List.append_nil]
          have hlen := congrArg List.length HU2.out
          simp only [List.length_append] at hlen
          rw [show ([32] : List UInt8).length = 1 from rfl] at hlen
          clear HU1
          go_wp2_with fail
          refine (putByteF w.heap.size w.heap.size _ 32 _ HI1.out (by rw [Lib.byteCells_length]; omega) (by have := HB1.out.size; omega)).mono ?_
          rintro e w2 ⟨rfl, hi2, hf2⟩
          have HI2 : Hid (Lib.IsBuilder 55 5 w.heap.size w.heap.size (Lib.byteCells (acc ++ [32])) w2) := by
            show Lib.IsBuilder _ _ _ _ _ _
            rw [Lib.byteCells_append]; exact hi2
          have hm2 := hf2.block _ _ HM.out (fun cur t2 fr e' => by simp only [Obj.cells.injEq] at e'; obtain ⟨_, rfl, _⟩ := e'; simp [TU])
          clear d0 d1 d2 d3 d4
          obtain ⟨d0, d1, d2, d3, d4⟩ := five hm2
          have HF2 := Lib.hid hf2
          clear hi2 hf2 hm2
          go_wp2_with fail
          refine (HSH.out _).mono ?_
          rintro e w3 ⟨rfl, hb3⟩
          have HI3 := Lib.hid (builder_below HI2.out hb3)
          have HB3 := Lib.hid (hb3.mono (show w.heap.size ≤ _ by have := HF2.out.b.size; have := HB1.out.size; omega))
          have hz3 : w.heap.size ≤ w3.heap.size := by have := HF2.out.b.size; have := HB1.out.size; have := hb3.size; omega
          clear hb3
          go_wp2_with fail
          refine (putString w.heap.size w.heap.size _ _ _ HI3.out (by rw [Lib.byteCells_length, size_list2]; simp only [List.length_append, List.length_cons, List.length_nil]; omega) hz3).mono ?_
          rintro e w4 ⟨rfl, hi4, hb4⟩
          have HI4 := Lib.hid hi4
          have HB4 := Lib.hid hb4
          clear hi4 hb4
          go_wp2_with fail
          go_roundw
          case rel =>
            refine ⟨k + 1, acc ++ [32] ++ sh, by omega, by go_num, ?_, ?_, ((hb.trans (HB1.out.mono hsz)).trans HF2.out.b).trans (HB3.out.trans HB4.out)⟩
            · rw [Lib.byteCells_append]
              exact HI4
            · rw [show decide (k + 1 = 0) = false by simp]
              exact HU2
          case measure => simp [intOf]; omega
    · have HR : Hid (J = acc) := by show _ = _; rw [← HU.out, List.drop_eq_nil_of_le (by omega), joi_nil, List.append_nil]
      clear HU
      go_wp2_with fail
      refine (Tryd.Builder_String_any w.heap.size w.heap.size _ _ HB.out (by omega)).mono ?_
      rintro e w3 ⟨rfl, hb3⟩
      go_wp2_with fail
      go_ret
      exact ⟨by rw [HR.out]; rfl, hb.trans hb3⟩
end Go.Proofs.YthjmlgbnpnfkgaaDoor.Lx
