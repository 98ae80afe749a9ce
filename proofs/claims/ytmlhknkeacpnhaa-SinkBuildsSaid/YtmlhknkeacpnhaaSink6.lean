/- Contract of dreylaw07.prints. -/
import Derived.Test.YtmlhknkeacpnhaaSink5
set_option linter.unusedVariables false
namespace Go.Proofs.Ytmlhknkeacpnhaa.Sk
open Go.RowKit Go.ChangeShapes Go.WideShapes Go.ChangeAt

/-- A slice of one text, or two, that is laid anew. -/
theorem strS_one {B : Nat} {w : World} {x : ByteArray} : StrS B (some ⟨w.heap.size, 0, none⟩) (w.alloc (.cells #[.string x] 9)) [x] :=
  Or.inr ⟨w.heap.size, 0, rfl, by simp, Or.inr ⟨_, _, heap_alloc_new w _⟩, fun j hj => by
    obtain rfl : j = 0 := by simpa using hj
    rw [cell_of_row' (heap_alloc_new w _)]; rfl⟩
theorem strS_two {B g : Nat} {w : World} {x y : ByteArray} (hg : g = w.heap.size) : StrS B (some ⟨g, 0, none⟩) (w.alloc (.cells #[.string x, .string y] 9)) [x, y] := hg ▸
  Or.inr ⟨w.heap.size, 0, rfl, by simp, Or.inr ⟨_, _, heap_alloc_new w _⟩, fun j hj => by
    have hj' : j = 0 ∨ j = 1 := by simp at hj; omega
    rcases hj' with rfl | rfl
    · rw [cell_of_row' (heap_alloc_new w _)]; rfl
    · rw [cell_of_row' (heap_alloc_new w _)]; rfl⟩
theorem own_low {B B' e size n : Nat} {v : Value} {w : World} {xs : List Value} (h : w.ownsRow B e size v n xs) (hB : B' ≤ B) : w.ownsRow B' e size v n xs := by
  refine ⟨h.1, ?_⟩
  rcases h.2 with h1 | ⟨g, c, cur, hv, hb, rest⟩
  · exact Or.inl h1
  · exact Or.inr ⟨g, c, cur, hv, Nat.le_trans hB hb, rest⟩
theorem isR_low {B B' b : Nat} {w : World} {L : List ByteArray} {k : Nat} (h : IsR B b w L k) (hB : B' ≤ B) : IsR B' b w L k := by
  obtain ⟨⟨ad, cap, M, h1, h2, h3⟩, h4, h5⟩ := h
  exact ⟨⟨ad, cap, M, h1, own_low h2 hB, h3⟩, Nat.le_trans hB h4, h5⟩
theorem ts_src : ¬ TS 57 := by unfold TS; decide
theorem tb_src : ¬ TB 57 := by unfold TB; decide
theorem k_line {B b cap : Nat} {ad : Option Addr} {w : World} (hB : B ≤ w.heap.size) (hs : StrS B ad w [⟨#[97, 98]⟩]) (h : IsS B b w [] ((5 : Nat) : Int) false) :
    Calls Try.prog 17 #[.pointer (some ⟨b, 0, none⟩), .slice ad 1 cap] w fun e w' => e = .returned (.int .i64 0) ∧ IsS B b w' [97, 98, 10] ((5 : Nat) : Int) false ∧ Fr TS B w w' :=
  (line_any (L := [⟨#[97, 98]⟩]) w (by decide) (by decide) (by decide) (by decide) hB hs h).mono fun e w' h => by
    rw [show line 5 [⟨#[97, 98]⟩] ([], false) = ([97, 98, 10], false) from rfl] at h; exact h
theorem k_print {B b cap : Nat} {ad : Option Addr} {w : World} (hB : B ≤ w.heap.size) (hs : StrS B ad w [⟨#[99, 100, 101]⟩]) (h : IsS B b w [97, 98, 10] ((5 : Nat) : Int) false) :
    Calls Try.prog 11 #[.pointer (some ⟨b, 0, none⟩), .slice ad 1 cap] w fun e w' => e = .returned (.int .i64 40) ∧ IsS B b w' [97, 98, 10, 99, 100] ((5 : Nat) : Int) true ∧ Fr TS B w w' :=
  (print_any (L := [⟨#[99, 100, 101]⟩]) w (by decide) (by decide) (by decide) (by decide) hB hs h).mono fun e w' h => by
    rw [show prun 5 [⟨#[99, 100, 101]⟩] ([97, 98, 10], false) = ([97, 98, 10, 99, 100], true) from rfl] at h; exact h
theorem k_add {B b cap : Nat} {ad : Option Addr} {w : World} (hB : B ≤ w.heap.size) (hs : StrS B ad w [⟨#[97]⟩, ⟨#[98]⟩]) (h : IsB B b w [] false) :
    Calls Try.prog 23 #[.pointer (some ⟨b, 0, none⟩), .slice ad 2 cap] w fun e w' => e = .returned (.int .i64 0) ∧ IsB B b w' [97, 98] false ∧ Fr TB B w w' :=
  (add_any (L := [⟨#[97]⟩, ⟨#[98]⟩]) w (by decide) (by decide) (by decide) hB hs h).mono fun e w' h => by
    rw [show brun [⟨#[97]⟩, ⟨#[98]⟩] ([], false) = ([97, 98], false) from rfl] at h; exact h
theorem k_lines (m : Int) (w : World) (hm : w.cell? ⟨0, 0, none⟩ = some (.int .i64 m)) :
    Calls Try.prog 19 #[.string ⟨#[97, 10, 10, 98, 10]⟩] w fun e w' => ∃ ad cap, e = .returned (.slice ad 3 cap) ∧ Below w.heap.size w w' :=
  (lines_any ⟨#[97, 10, 10, 98, 10]⟩ (by decide) m w hm).mono fun e w' ⟨v, n, h1, h2, h3, h4⟩ => by
    obtain ⟨ad, cap, rfl⟩ := row_shape h3
    exact ⟨ad, cap, by rw [h1, h2]; rfl, h4⟩
theorem k_next {B b : Nat} {w : World} (hB : B ≤ w.heap.size) (h : IsR B b w [⟨#[97]⟩, ⟨#[98]⟩] 0) :
    Calls Try.prog 21 #[.pointer (some ⟨b, 0, none⟩)] w fun e w' => e = .returned (.tuple #[.string ⟨#[97]⟩, .bool true]) ∧ IsR B b w' [⟨#[97]⟩, ⟨#[98]⟩] 1 ∧ Fr TR B w w' :=
  (next_yes (k := 0) (by decide) (by decide) hB h).mono fun e w' h => h
theorem isS_zero {w : World} : IsS w.heap.size w.heap.size (w.alloc (.cells #[.slice none 0 0, .int .i64 5, .bool false] 51)) [] ((5 : Nat) : Int) false := ⟨⟨none, 0, heap_alloc_new w _, World.ownsRow_nil _ _ _ _⟩, Nat.le_refl _⟩
theorem isB_new {B : Nat} {w : World} (hB : B ≤ w.heap.size) : IsB B w.heap.size (w.alloc (.cells #[.slice none 0 0, .bool false] 44)) [] false := ⟨⟨none, 0, heap_alloc_new w _, World.ownsRow_nil _ _ _ _⟩, hB⟩

set_option maxRecDepth 100000 in
set_option maxHeartbeats 4000000 in
theorem prints_any (m : Int) (w : World) (hm : w.cell? ⟨0, 0, none⟩ = some (.int .i64 m)) : Calls Try.prog 8 #[] w fun e w' => e = .returned (.bool true) ∧ Below w.heap.size w w' := by
  have h0 : 0 < w.heap.size := by
    refine Nat.pos_of_ne_zero fun h => ?_
    have e : w.heap = #[] := Array.eq_empty_of_size_eq_zero h
    simp [World.cell?, e] at hm
  have HM := Lib.hid hm
  clear hm
  go_enter Try.func8, Try.ntmps8
  go_wp2_with fail
  refine (new_any 5 _).mono ?_
  rintro e w1 ⟨rfl, hs1, hb1⟩
  have hs1' : IsS w.heap.size w.heap.size w1 [] ((5 : Nat) : Int) false := hs1
  have z1 := hb1.size
  have HS1 := Lib.hid hs1'
  clear hs1 hs1'
  go_wp2_with fail
  refine (read_any (B := w.heap.size) (L := [⟨#[97]⟩, ⟨#[98]⟩]) _ (by decide) (by decide) (strS_two rfl)).mono ?_
  rintro e w2 ⟨b2, rfl, hr2, hb2⟩
  have hd2 := ((Below.refl _ _).alloc (Nat.le_refl _) (.cells #[.string ⟨#[97]⟩, .string ⟨#[98]⟩] 9)).trans (hb2.mono (by simp))
  have hb02 := hb1.trans (hd2.mono z1)
  have z2 := hb02.size
  have hr2' : IsR w.heap.size b2 w2 [⟨#[97]⟩, ⟨#[98]⟩] 0 := isR_low hr2 (by simp; omega)
  have HR2 := Lib.hid (isR_below hr2' ((Below.refl _ _).alloc (Nat.le_refl _) (.cells #[.string ⟨#[97, 98]⟩] 9)))
  have HS2 := Lib.hid (isS_below (isS_below HS1.out hd2) ((Below.refl _ _).alloc (Nat.le_refl _) (.cells #[.string ⟨#[97, 98]⟩] 9)))
  have HB2 := Lib.hid (hb02.alloc (by omega) (.cells #[.string ⟨#[97, 98]⟩] 9))
  clear hr2 hr2' hb2 hd2 HS1 hb1 hb02
  go_wp2_with fail
  refine (k_line (B := w.heap.size) (by simp; omega) strS_one HS2.out).mono ?_
  rintro e w3 ⟨rfl, hs3, hf3⟩
  have HB3 := Lib.hid (HB2.out.trans hf3.b)
  have HR3 := Lib.hid (isR_fr HR2.out hf3 ts_src ts_str)
  have HS3 := Lib.hid hs3
  clear hs3 hf3 HB2 HR2 HS2
  have z3 := HB3.out.size
  go_wp2_with fail
  refine (left_any (by decide) (by decide) HS3.out).mono ?_
  rintro e w4 ⟨rfl, hb4⟩
  have hq := (Below.refl w4.heap.size w4).alloc (Nat.le_refl _) (.cells #[.string ⟨#[99, 100, 101]⟩] 9)
  have z4 := hb4.size
  have HB4 := Lib.hid ((HB3.out.trans (hb4.mono z3)).trans (hq.mono (by omega)))
  have HR4 := Lib.hid (isR_below (isR_below HR3.out hb4) hq)
  have HS4 := Lib.hid (isS_below (isS_below HS3.out hb4) hq)
  clear hq hb4 HB3 HR3 HS3
  go_wp2_with fail
  refine (k_print (B := w.heap.size) (by simp; omega) strS_one HS4.out).mono ?_
  rintro e w5 ⟨rfl, hs5, hf5⟩
  have HB5 := Lib.hid (HB4.out.trans hf5.b)
  have HR5 := Lib.hid (isR_fr HR4.out hf5 ts_src ts_str)
  have HS5 := Lib.hid hs5
  have z5 := HB5.out.size
  clear hs5 hf5 HB4 HR4 HS4
  go_wp2_with fail
  refine (text_any HS5.out).mono ?_
  rintro e wx ⟨rfl, rfl⟩
  go_wp2_with fail
  refine (full_any HS5.out).mono ?_
  rintro e wx ⟨rfl, rfl⟩
  go_wp2_with fail
  refine (left_any (by decide) (by decide) HS5.out).mono ?_
  rintro e w6 ⟨rfl, hb6⟩
  have HB6 := Lib.hid (HB5.out.trans (hb6.mono z5))
  have HR6 := Lib.hid (isR_below HR5.out hb6)
  have HS6 := Lib.hid (isS_below HS5.out hb6)
  have z6 := HB6.out.size
  clear hb6 HB5 HR5 HS5
  go_wp2_with fail
  refine (slen_any HS6.out).mono ?_
  rintro e wx ⟨rfl, rfl⟩
  go_wp2_with fail
  refine (k_next z6 HR6.out).mono ?_
  rintro e w7 ⟨rfl, hr7, hf7⟩
  have hq1 := (Below.refl w7.heap.size w7).alloc (Nat.le_refl _) (.cells #[.slice none 0 0, .bool false] 44)
  have hq2 := (Below.refl _ (w7.alloc (.cells #[.slice none 0 0, .bool false] 44))).alloc (Nat.le_refl _) (.cells #[.string ⟨#[97]⟩, .string ⟨#[98]⟩] 9)
  have z7 := (HB6.out.trans hf7.b).size
  have HB7 := Lib.hid (((HB6.out.trans hf7.b).trans (hq1.mono z7)).trans (hq2.mono (by simp; omega)))
  have HR7 := Lib.hid (isR_below (isR_below hr7 hq1) hq2)
  have hbn : IsB w.heap.size w7.heap.size (w7.alloc (.cells #[.slice none 0 0, .bool false] 44)) [] false := isB_new z7
  have HN7 := Lib.hid (isB_below hbn hq2)
  clear hq1 hq2 hr7 hf7 hbn HB6 HR6 HS6
  go_wp2_with fail
  refine (k_add (B := w.heap.size) (by simp; omega) (strS_two (by simp)) HN7.out).mono ?_
  rintro e w8 ⟨rfl, hn8, hf8⟩
  have HB8 := Lib.hid (HB7.out.trans hf8.b)
  have HR8 := Lib.hid (isR_fr HR7.out hf8 tb_src tb_str)
  have HN8 := Lib.hid hn8
  have z8 := HB8.out.size
  clear hn8 hf8 HB7 HR7 HN7
  go_wp2_with fail
  refine (btext_any _ HN8.out).mono ?_
  rintro e w9 ⟨rfl, hb9⟩
  have HB9 := Lib.hid (HB8.out.trans (hb9.mono z8))
  have HR9 := Lib.hid (isR_below HR8.out hb9)
  have z9 := HB9.out.size
  clear hb9 HB8 HR8 HN8
  go_wp2_with fail
  refine (taken_any HR9.out).mono ?_
  rintro e wx ⟨rfl, rfl⟩
  go_wp2_with fail
  refine (k_lines m _ (cell_below HB9.out h0 HM.out)).mono ?_
  rintro e w10 ⟨ad, cap, rfl, hb10⟩
  go_wp2_with fail
  go_ret
  exact ⟨rfl, HB9.out.trans (hb10.mono z9)⟩
end Go.Proofs.Ytmlhknkeacpnhaa.Sk
