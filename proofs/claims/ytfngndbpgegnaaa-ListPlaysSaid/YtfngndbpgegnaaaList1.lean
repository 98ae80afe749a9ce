/- Rows of values that a list owns; contracts of list.own, New, Len, has, place, Get. -/
import Derived.Test.YtfngndbpgegnaaaValCells
import Derived.Laws.AppendOwnNone
import Derived.Laws.OwnMore
namespace Go.Proofs.Ytfngndbpgegnaaa.Li
open Go.RowKit Go.ChangeShapes Go.WideShapes Go.ChangeAt Go.Proofs.Ytfngndbpgegnaaa.Va

/-- A value: kind, number, text. -/
def cel (e : Int × Int × ByteArray) : List Value := [.int .i64 e.1, .int .i64 e.2.1, .string e.2.2]
def flat (L : List (Int × Int × ByteArray)) : List Value := L.flatMap cel
theorem flat_nil : flat [] = [] := rfl
theorem flat_cons (e : Int × Int × ByteArray) (L : List (Int × Int × ByteArray)) : flat (e :: L) = cel e ++ flat L := rfl
theorem flat_append (L M : List (Int × Int × ByteArray)) : flat (L ++ M) = flat L ++ flat M := List.flatMap_append ..
theorem flat_len : ∀ L : List (Int × Int × ByteArray), (flat L).length = L.length * 3
  | [] => rfl
  | e :: L => by rw [flat_cons, List.length_append, flat_len L]; simp [cel]; omega
theorem flat_one (e : Int × Int × ByteArray) : flat [e] = cel e := by simp [flat]
theorem flat_cells : ∀ (L : List (Int × Int × ByteArray)), ∀ u ∈ flat L, u.oneCell' = true
  | [], u, h => by simp [flat] at h
  | e :: L, u, h => by
    rw [flat_cons, List.mem_append] at h
    rcases h with h | h
    · simp [cel] at h
      rcases h with rfl | rfl | rfl <;> rfl
    · exact flat_cells L u h
theorem flat_at : ∀ (L : List (Int × Int × ByteArray)) (i : Nat) (h : i < L.length), (flat L)[i * 3]? = some (.int .i64 (L[i]).1) ∧ (flat L)[i * 3 + 1]? = some (.int .i64 (L[i]).2.1) ∧ (flat L)[i * 3 + 2]? = some (.string (L[i]).2.2)
  | [], i, h => by simp at h
  | e :: L, 0, _ => by simp [flat_cons, cel]
  | e :: L, i + 1, h => by
    have ih := flat_at L i (by simpa using h)
    rw [flat_cons, show (i + 1) * 3 = i * 3 + 3 by omega]
    refine ⟨?_, ?_, ?_⟩
    · rw [List.getElem?_append_right (by simp [cel])]; simpa [cel] using ih.1
    · rw [show i * 3 + 3 + 1 = i * 3 + 1 + 3 by omega, List.getElem?_append_right (by simp [cel])]; simpa [cel] using ih.2.1
    · rw [show i * 3 + 3 + 2 = i * 3 + 2 + 3 by omega, List.getElem?_append_right (by simp [cel])]; simpa [cel] using ih.2.2

theorem A.infoE : (Try.prog.info? 30).map (fun i => (i.zero, i.size, i.bytes)) = some (some (.agg #[.int .i64 0, .int .i64 0, .string ⟨#[]⟩]), 3, 32) := by kernel_rfl
/-- A slice of values that its own block holds. -/
def Own (B : Nat) (ad : Option Addr) (cap : Nat) (w : World) (L : List (Int × Int × ByteArray)) : Prop := w.ownsRow B 30 3 (.slice ad L.length cap) L.length (flat L)
theorem own_shape {B n : Nat} {v : Value} {w : World} {xs : List Value} (h : w.ownsRow B 30 3 v n xs) : ∃ ad cap, v = .slice ad n cap := by
  rcases h.2 with ⟨rfl, rfl⟩ | ⟨g, cap, cur, rfl, _⟩
  · exact ⟨none, 0, rfl⟩
  · exact ⟨_, cap, rfl⟩
theorem own_some {B : Nat} {ad : Option Addr} {cap : Nat} {w : World} {L : List (Int × Int × ByteArray)} (h : Own B ad cap w L) (h0 : 0 < L.length) :
    ∃ g, ad = some ⟨g, 0, none⟩ ∧ B ≤ g ∧ g < w.heap.size := by
  rcases h.2 with ⟨_, e⟩ | ⟨g, cap', cur, hv, hB, hg, _⟩
  · omega
  · simp only [Value.slice.injEq] at hv
    exact ⟨g, hv.1, hB, lt_of_block hg⟩
theorem own_at {B g cap : Nat} {w : World} {L : List (Int × Int × ByteArray)} (h : Own B (some ⟨g, 0, none⟩) cap w L) (i : Nat) (hi : i < L.length) :
    w.cell? ⟨g, i * 3, none⟩ = some (.int .i64 (L[i]).1) ∧ w.cell? ⟨g, i * 3 + 1, none⟩ = some (.int .i64 (L[i]).2.1) ∧ w.cell? ⟨g, i * 3 + 2, none⟩ = some (.string (L[i]).2.2) := by
  obtain ⟨h1, h2, h3⟩ := flat_at L i hi
  exact ⟨(World.ownsRow.cellAt (n := L.length) (size := 3) h (i * 3) (by omega)).trans h1, (World.ownsRow.cellAt (n := L.length) (size := 3) h (i * 3 + 1) (by omega)).trans h2, (World.ownsRow.cellAt (n := L.length) (size := 3) h (i * 3 + 2) (by omega)).trans h3⟩
theorem own_below {B : Nat} {ad : Option Addr} {cap : Nat} {w w' : World} {L : List (Int × Int × ByteArray)} (h : Own B ad cap w L) (hb : Below w.heap.size w w') : Own B ad cap w' L :=
  World.ownsRow.kept (row := none) h ⟨hb.os, hb.tape, hb.output, hb.size, fun k hk _ => hb.block k hk⟩ (Classical.em _)
/-- A list: a block that holds the slice. -/
structure IsL (B b : Nat) (ad : Option Addr) (cap : Nat) (w : World) (L : List (Int × Int × ByteArray)) : Prop where
  blk : w.heap[b]? = some (.cells #[.slice ad L.length cap] 114 (0, 0))
  low : B ≤ b
  own : Own B ad cap w L
theorem isL_below {B b : Nat} {ad : Option Addr} {cap : Nat} {w w' : World} {L : List (Int × Int × ByteArray)} (h : IsL B b ad cap w L) (hb : Below w.heap.size w w') : IsL B b ad cap w' L :=
  ⟨(hb.block _ (lt_of_block h.blk)).trans h.blk, h.low, own_below h.own hb⟩
theorem isL_mono {B B' b : Nat} {ad : Option Addr} {cap : Nat} {w : World} {L : List (Int × Int × ByteArray)} (h : IsL B b ad cap w L) (hB : B' ≤ B) : IsL B' b ad cap w L := by
  refine ⟨h.blk, by have := h.low; omega, h.own.1, ?_⟩
  rcases h.own.2 with h1 | ⟨g, c, cur, hv, hb, rest⟩
  · exact Or.inl h1
  · exact Or.inr ⟨g, c, cur, hv, by omega, rest⟩
theorem isL_cell {B b : Nat} {ad : Option Addr} {cap : Nat} {w : World} {L : List (Int × Int × ByteArray)} (h : IsL B b ad cap w L) : w.cell? ⟨b, 0, none⟩ = some (.slice ad L.length cap) ∧ w.frozen? ⟨b, 0, none⟩ = false :=
  ⟨cell_of_one h.blk, free_of_one h.blk⟩

/-- Values that lie in memory as a slice's. -/
def Src (ad : Option Addr) (w : World) (M : List (Int × Int × ByteArray)) : Prop := M = [] ∨ ∃ a, ad = some a ∧ ∀ j u, (flat M)[j]? = some u → w.cell? (a.add j) = some u

set_option maxRecDepth 100000 in
theorem own_any (ad : Option Addr) (cap : Nat) (M : List (Int × Int × ByteArray)) (w : World) (hm : M.length ≤ 2000000) (hs : Src ad w M) :
    Calls Try.prog 66 #[.slice ad M.length cap] w fun e w' => ∃ ad' cap', e = .returned (.slice ad' M.length cap') ∧ Own w.heap.size ad' cap' w' M ∧ Below w.heap.size w w' := by
  obtain ⟨i0, hi, hz0, hz1, hz2⟩ := info_parts A.infoE
  have hn0 := World.ownsRow_nil w w.heap.size 30 3
  by_cases hnone : ad = none
  · subst hnone
    have hM : M = [] := by
      rcases hs with h | ⟨a, h, _⟩
      · exact h
      · cases h
    subst hM
    go_enter Try.func66, Try.ntmps66
    go_wp2_with fail
    go_ret
    exact ⟨none, 0, rfl, hn0, Below.refl _ _⟩
  · obtain ⟨a, rfl⟩ := Option.ne_none_iff_exists'.1 hnone
    have hcl : ∀ j u, (flat M)[j]? = some u → w.cell? (a.add j) = some u := by
      rcases hs with rfl | ⟨a', e, h⟩
      · intro j u h; simp [flat] at h
      · cases e; exact h
    clear hs hnone
    have HCL := Lib.hid hcl
    clear hcl
    go_enter Try.func66, Try.ntmps66
    go_wp2_with (at_builtin; refine wpList_append_own _ rfl _ _ 25 rfl w.heap.size 30 i0 (.agg #[.int .i64 0, .int .i64 0, .string ⟨#[]⟩]) 3 32 Try.underlying25 hi hz0 hz1 hz2 rfl (by decide) (.slice none 0 0) 0 [] rfl hn0 a M.length cap (flat M) rfl (flat_len M) HCL.out (flat_cells M) ?c3 ?c4 ?c5 ?_)
    case c3 => unfold maxLen; omega
    case c4 => omega
    case c5 => exact Nat.le_refl _
    intro v' w4 hown' hgrow _
    obtain ⟨ad', cap', rfl⟩ := own_shape hown'
    go_wp2_with fail
    go_ret
    refine ⟨ad', cap', rfl, hown', (Below.refl _ _).grown hgrow (Nat.le_refl _) (fun k hk => by cases hk)⟩

set_option maxRecDepth 100000 in
theorem new_any (ad : Option Addr) (cap : Nat) (M : List (Int × Int × ByteArray)) (w : World) (hm : M.length ≤ 2000000) (hs : Src ad w M) :
    Calls Try.prog 14 #[.slice ad M.length cap] w fun e w' => ∃ b ad' cap', e = .returned (.pointer (some ⟨b, 0, none⟩)) ∧ IsL w.heap.size b ad' cap' w' M ∧ Below w.heap.size w w' := by
  have HO := Lib.hid (own_any ad cap M w hm hs)
  clear hs
  go_enter Try.func14, Try.ntmps14
  go_wp2_with fail
  refine HO.out.mono ?_
  rintro e w1 ⟨ad', cap', rfl, ho, hb⟩
  have HO' := Lib.hid ho
  clear ho
  go_wp2_with fail
  go_ret
  exact ⟨w1.heap.size, ad', cap', rfl, ⟨heap_alloc_new w1 _, hb.size, own_below HO'.out ((Below.refl _ _).alloc (Nat.le_refl _) _)⟩, hb.alloc hb.size _⟩
theorem len_any (B b : Nat) (ad : Option Addr) (cap : Nat) (L : List (Int × Int × ByteArray)) (w : World) (h : IsL B b ad cap w L) :
    Calls Try.prog 64 #[.pointer (some ⟨b, 0, none⟩)] w fun e w' => e = .returned (.int .i64 (L.length : Int)) ∧ w = w' := by
  obtain ⟨c0, z0⟩ := isL_cell h
  clear h
  go_enter Try.func64, Try.ntmps64
  go_wp2_with fail
  go_ret
  exact ⟨rfl, rfl⟩
theorem has_yes (B b : Nat) (ad : Option Addr) (cap : Nat) (L : List (Int × Int × ByteArray)) (i : Nat) (hi : i < L.length) (w : World) (h : IsL B b ad cap w L) :
    Calls Try.prog 68 #[.pointer (some ⟨b, 0, none⟩), .int .i64 (i : Int)] w fun e w' => e = .returned (.bool true) ∧ w = w' := by
  obtain ⟨c0, z0⟩ := isL_cell h
  clear h
  go_enter Try.func68, Try.ntmps68
  go_wp2_with fail
  go_ret
  exact ⟨rfl, rfl⟩
theorem has_no (B b : Nat) (ad : Option Addr) (cap : Nat) (L : List (Int × Int × ByteArray)) (i : Int) (hi : i < 0 ∨ (L.length : Int) ≤ i) (w : World) (h : IsL B b ad cap w L) :
    Calls Try.prog 68 #[.pointer (some ⟨b, 0, none⟩), .int .i64 i] w fun e w' => e = .returned (.bool false) ∧ w = w' := by
  obtain ⟨c0, z0⟩ := isL_cell h
  clear h
  rcases hi with hi | hi
  · go_enter Try.func68, Try.ntmps68
    go_wp2_with fail
    go_ret
    exact ⟨rfl, rfl⟩
  · have h0 : 0 ≤ i := by omega
    go_enter Try.func68, Try.ntmps68
    go_wp2_with fail
    go_ret
    exact ⟨ret_b (decide_eq_false (by omega)), rfl⟩
def placed (a n : Int) : Int := if a < 0 then wrap64 (a + n) else a
theorem place_any (a n : Int) (w : World) : Calls Try.prog 100 #[.int .i64 a, .int .i64 n] w fun e w' => e = .returned (.int .i64 (placed a n)) ∧ w = w' := by
  unfold placed
  by_cases h : a < 0
  · rw [if_pos h]
    go_enter Try.func100, Try.ntmps100
    go_wp2_with fail
    go_ret
    exact ⟨rfl, rfl⟩
  · rw [if_neg h]
    go_enter Try.func100, Try.ntmps100
    go_wp2_with fail
    go_ret
    exact ⟨rfl, rfl⟩
/-- A value as one. -/
def agg (e : Int × Int × ByteArray) : Value := .agg #[.int .i64 e.1, .int .i64 e.2.1, .string e.2.2]
set_option maxRecDepth 100000 in
theorem get_no (B b : Nat) (ad : Option Addr) (cap : Nat) (L : List (Int × Int × ByteArray)) (i : Int) (hi : i < 0 ∨ (L.length : Int) ≤ i) (w : World) (h : IsL B b ad cap w L) :
    Calls Try.prog 62 #[.pointer (some ⟨b, 0, none⟩), .int .i64 i] w fun e w' => e = .returned (.tuple #[.agg #[.int .i64 0, .int .i64 0, .string ⟨#[]⟩], .int .i64 1]) ∧ Below w.heap.size w w' := by
  have HN := Lib.hid null_any
  have hbe : Below w.heap.size w (w.alloc (.cells #[.int .i64 0, .int .i64 0, .string ⟨#[]⟩] 30)) := (Below.refl _ _).alloc (Nat.le_refl _) _
  have HH := Lib.hid (has_no B b ad cap L i hi _ (isL_below h hbe))
  clear h
  go_enter Try.func62, Try.ntmps62
  go_wp2_with fail
  refine HH.out.mono ?_
  rintro e _ ⟨rfl, rfl⟩
  go_wp2_with fail
  refine (HN.out _).mono ?_
  rintro e w1 ⟨rfl, hb⟩
  obtain ⟨hA, hbz⟩ := box1 hb
  obtain ⟨c0, c1, c2, z0, z1, z2⟩ := three_facts hA
  have HA := Lib.hid hA
  clear hA hb
  go_wp2_with fail
  (try simp only [Exit.inBlock, Exit.then])
  refine bodyPost_ret (Va.results_cell_tmp rfl _ _ w.heap.size 30 #[.int .i64 0, .int .i64 0, .string ⟨#[]⟩] (0, 0) _ rfl (heap_three HA.out _ _ _) Try.underlying30 rfl A.infoV) ?_ ?_
  · rfl
  · exact ⟨rfl, ((hbz.setCell (by simp) _).setCell (by simp) _).setCell (by simp) _⟩
set_option maxRecDepth 100000 in
theorem get_yes (B b : Nat) (ad : Option Addr) (cap : Nat) (L : List (Int × Int × ByteArray)) (i : Nat) (hi : i < L.length) (w : World) (h : IsL B b ad cap w L) :
    Calls Try.prog 62 #[.pointer (some ⟨b, 0, none⟩), .int .i64 (i : Int)] w fun e w' => e = .returned (.tuple #[agg L[i], .int .i64 0]) ∧ Below w.heap.size w w' := by
  have hbe : Below w.heap.size w (w.alloc (.cells #[.int .i64 0, .int .i64 0, .string ⟨#[]⟩] 30)) := (Below.refl _ _).alloc (Nat.le_refl _) _
  have h' := isL_below h hbe
  have HH := Lib.hid (has_yes B b ad cap L i hi _ h')
  obtain ⟨c0, z0⟩ := isL_cell h'
  obtain ⟨g, rfl, _, hg⟩ := own_some h.own (by omega)
  obtain ⟨e0, e1, e2⟩ := own_at h'.own i hi
  have hne : ¬ g = w.heap.size := by omega
  unfold agg
  generalize hx : L[i] = x at *
  clear h h' hbe hx
  go_enter Try.func62, Try.ntmps62
  go_wp2_with fail
  refine HH.out.mono ?_
  rintro e _ ⟨rfl, rfl⟩
  go_wp2_with fail
  (try simp only [Exit.inBlock, Exit.then])
  refine bodyPost_ret (Va.results_cell_tmp rfl _ _ w.heap.size 30 #[.int .i64 x.1, .int .i64 x.2.1, .string x.2.2] (0, 0) _ rfl (heap_alloc_new w _) Try.underlying30 rfl A.infoV) ?_ ?_
  · rfl
  · exact ⟨rfl, (Below.refl _ _).alloc (Nat.le_refl _) _⟩

/-- The first place of a value. -/
def findN (v : Int × Int × ByteArray) : List (Int × Int × ByteArray) → Nat → Int
  | [], _ => -1
  | x :: L, k => if x.1 = v.1 ∧ x.2.1 = v.2.1 ∧ x.2.2 = v.2.2 then (k : Int) else findN v L (k + 1)
set_option maxRecDepth 100000 in
set_option maxHeartbeats 1000000 in
theorem find_any (B b : Nat) (ad : Option Addr) (cap : Nat) (L : List (Int × Int × ByteArray)) (v : Int × Int × ByteArray) (hl : L.length ≤ 2000000) (w : World) (h : IsL B b ad cap w L) :
    Calls Try.prog 65 #[.pointer (some ⟨b, 0, none⟩), agg v] w fun e w' => e = .returned (.int .i64 (findN v L 0)) ∧ Below w.heap.size w w' := by
  have hbe : Below w.heap.size w (w.alloc (.cells #[.int .i64 v.1, .int .i64 v.2.1, .string v.2.2] 30)) := (Below.refl _ _).alloc (Nat.le_refl _) _
  have h' := isL_below h hbe
  obtain ⟨c0, z0⟩ := isL_cell h'
  have HI := Lib.hid h
  obtain ⟨R, hR⟩ : ∃ R, R = findN v L 0 := ⟨_, rfl⟩
  rw [← hR]
  have HR := Lib.hid hR
  unfold agg
  obtain ⟨vk, vn, vs⟩ := v
  clear h h' hbe hR
  go_enter Try.func65, Try.ntmps65
  go_wp2_with fail
  go_loopw [12] (fun i wr => ∃ k : Nat, k ≤ L.length ∧ i = .int .i64 (k : Int) ∧ Hid (R = findN (vk, vn, vs) (L.drop k) k) ∧ Hid (wr.heap[w.heap.size]? = some (.cells #[.int .i64 vk, .int .i64 vn, .string vs] 30 (0, 0))) ∧ Below w.heap.size w wr) (fun i _ => L.length - (intOf i).toNat)
  case atStart => exact ⟨0, by omega, rfl, HR.out, heap_alloc_new w _, (Below.refl _ _).alloc (Nat.le_refl _) _⟩
  case round =>
    obtain ⟨k, hk, rfl, HU, HA, hb⟩ := hrel
    have hbs := hb.size
    by_cases hlt : k < L.length
    · have hi := own_below HI.out.own hb
      obtain ⟨g, rfl, _, hg⟩ := own_some HI.out.own (by omega)
      obtain ⟨e0, e1, e2⟩ := own_at hi k hlt
      obtain ⟨d0, d1, d2, y0, y1, y2⟩ := three_facts HA.out
      have hd := List.drop_eq_getElem_cons hlt
      have HX : Hid (L[k] = L[k]) := rfl
      generalize hx : L[k] = x at *
      obtain ⟨xk, xn, xs⟩ := x
      simp only at e0 e1 e2
      have hsz : w.heap.size < wr.heap.size := lt_of_block HA.out
      have hE := (Below.refl wr.heap.size wr).alloc (Nat.le_refl _) (.cells #[.int .i64 xk, .int .i64 xn, .string xs] 30)
      obtain ⟨f0, f1, f2, _, _, _⟩ := three_facts (keep HA.out hE)
      have HS := Lib.hid fun w => same_any xk xn vk vn xs vs w
      clear hx HX hE hi
      by_cases hs : alike xk xn vk vn xs vs = true
      · rw [hs] at HS
        have HF : Hid (R = (k : Int)) := by
          show _ = _
          rw [HU.out, hd, findN, if_pos (of_decide_eq_true hs)]
        clear hd hs
        go_wp2_with fail
        refine (HS.out _).mono ?_
        rintro e w1 ⟨rfl, hb1⟩
        have hbz := (box1 hb1).2
        go_wp2_with fail
        go_ret
        exact ⟨ret_i64 HF.out.symm, hb.trans (hbz.mono hbs)⟩
      · have hs : alike xk xn vk vn xs vs = false := by simpa using hs
        rw [hs] at HS
        have HF : Hid (R = findN (vk, vn, vs) (L.drop (k + 1)) (k + 1)) := by
          show _ = _
          rw [HU.out, hd, findN, if_neg (of_decide_eq_false hs)]
        clear hd hs
        go_wp2_with fail
        refine (HS.out _).mono ?_
        rintro e w1 ⟨rfl, hb1⟩
        have hbz := (box1 hb1).2
        go_wp2_with fail
        go_roundw
        case rel => exact ⟨k + 1, by omega, by go_num, HF, keep HA.out hbz, hb.trans (hbz.mono hbs)⟩
        case measure => simp [intOf]; omega
    · have HF : Hid (R = -1) := by
        show _ = _
        rw [HU.out, List.drop_of_length_le (by omega), findN]
      go_wp2_with fail
      go_ret
      exact ⟨ret_i64 HF.out.symm, hb⟩
end Go.Proofs.Ytfngndbpgegnaaa.Li
