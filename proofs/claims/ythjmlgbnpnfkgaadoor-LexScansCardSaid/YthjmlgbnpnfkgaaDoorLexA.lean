/- dreylaw08.cuts is true. -/
import Derived.Test.YthjmlgbnpnfkgaaDoorLex9
import Derived.BigRegion
set_option linter.unusedVariables false
namespace Go.Proofs.YthjmlgbnpnfkgaaDoor.Lx
open Go.RowKit Go.ChangeShapes Go.WideShapes Go.ChangeAt Go.Proofs.YthjmlgbnpnfkgaaDoor.Nu

def L7 : List Tk := [⟨2, 0, [108, 111, 99, 97, 108], 0, false⟩, ⟨1, 6, [120], 0, false⟩, ⟨5, 8, [61], 0, false⟩, ⟨3, 10, [48, 120, 49, 70], 31, false⟩, ⟨5, 21, [43, 43], 0, true⟩, ⟨3, 23, [39, 97, 39], 97, false⟩, ⟨6, 26, [], 0, false⟩]
set_option maxRecDepth 100000 in
theorem scan_one : scan [108, 111, 99, 97, 108, 32, 120, 32, 61, 32, 48, 120, 49, 70, 32, 47, 47, 32, 115, 111, 10, 43, 43, 39, 97, 39] = (L7, 0, 0) := by kernel_rfl
set_option maxRecDepth 100000 in
theorem scan_two : scan [97, 32, 34, 98] = ([], 5, 2) := by kernel_rfl
set_option maxRecDepth 100000 in
theorem joi_one : joi true (L7.take 2) = [108, 111, 99, 97, 108, 32, 120] := by kernel_rfl
set_option maxRecDepth 100000 in
theorem shw_one : shw ⟨4, 0, [97, 10], 0, false⟩ = [34, 97, 92, 110, 34] := by kernel_rfl
theorem pos_of {w : World} {v : Value} (hm : w.cell? ⟨0, 0, none⟩ = some v) : 0 < w.heap.size := by
  refine Nat.pos_of_ne_zero fun h => ?_
  have e : w.heap = #[] := Array.eq_empty_of_size_eq_zero h
  simp [World.cell?, e] at hm
/-- A row of tokens that its own block holds. -/
theorem own_open {B : Nat} {v : Value} {w : World} {L : List Tk} (h : w.ownsRow B 33 5 v L.length (flatT L)) (h0 : 0 < L.length) :
    ∃ g cap, v = .slice (some ⟨g, 0, none⟩) L.length cap ∧ B ≤ g ∧ g < w.heap.size ∧ L.length ≤ cap ∧ cap ≤ maxLen ∧ Row w g L := by
  have h' := h
  rcases h.2 with ⟨_, e⟩ | ⟨g, cap, cur, hv, hB, hg, h1, h2, h3, h4⟩
  · omega
  · subst hv
    refine ⟨g, cap, rfl, hB, lt_of_block hg, h1, h2, fun j u hj => ?_⟩
    have hlt : j < (flatT L).length := by
      rcases Nat.lt_or_ge j (flatT L).length with h5 | h5
      · exact h5
      · rw [List.getElem?_eq_none h5] at hj; cases hj
    rw [flatT_len] at hlt
    rw [World.ownsRow.cellAt h' j hlt]; exact hj
theorem k_one (m : Int) (w : World) (hm : w.cell? ⟨0, 0, none⟩ = some (.int .i64 m)) :
    Calls Tryd.prog 10 #[.string ⟨#[108, 111, 99, 97, 108, 32, 120, 32, 61, 32, 48, 120, 49, 70, 32, 47, 47, 32, 115, 111, 10, 43, 43, 39, 97, 39]⟩] w fun e w' => ∃ g cap, e = .returned (.tuple #[.slice (some ⟨g, 0, none⟩) 7 cap, .agg #[.int .i64 0, .int .i64 0]]) ∧ 7 ≤ cap ∧ cap ≤ maxLen ∧ w.heap.size ≤ g ∧ g < w'.heap.size ∧ Row w' g L7 ∧ Below w.heap.size w w' := by
  refine (scan_any _ m w hm (by decide)).mono ?_
  rintro e w' ⟨v, rfl, hown, hb⟩
  rw [show scan (ByteArray.mk #[108, 111, 99, 97, 108, 32, 120, 32, 61, 32, 48, 120, 49, 70, 32, 47, 47, 32, 115, 111, 10, 43, 43, 39, 97, 39]).data.toList = (L7, 0, 0) from scan_one] at hown ⊢
  obtain ⟨g, cap, rfl, h1, h2, h3, h4, h5⟩ := own_open hown (by decide)
  exact ⟨g, cap, rfl, h3, h4, h1, h2, h5, hb⟩
theorem k_two (m : Int) (w : World) (hm : w.cell? ⟨0, 0, none⟩ = some (.int .i64 m)) :
    Calls Tryd.prog 10 #[.string ⟨#[97, 32, 34, 98]⟩] w fun e w' => ∃ v, e = .returned (.tuple #[v, .agg #[.int .i64 5, .int .i64 2]]) ∧ Below w.heap.size w w' := by
  refine (scan_any _ m w hm (by decide)).mono ?_
  rintro e w' ⟨v, rfl, hown, hb⟩
  rw [show scan (ByteArray.mk #[97, 32, 34, 98]).data.toList = ([], 5, 2) from scan_two]
  exact ⟨v, rfl, hb⟩
theorem k_join (g cap : Nat) (w : World) (hg : g < w.heap.size) (hr : Row w g L7) :
    Calls Tryd.prog 12 #[.slice (some ⟨g, 0, none⟩) 2 cap] w fun e w' => e = .returned (.string ⟨#[108, 111, 99, 97, 108, 32, 120]⟩) ∧ Below w.heap.size w w' := by
  have := join_any (L7.take 2) g cap w hg (by decide) (row_take hr 2) (by rw [joi_one]; decide)
  rw [joi_one] at this
  exact this
theorem k_show (w : World) :
    Calls Tryd.prog 19 #[.agg #[.int .i64 4, .int .i64 0, .string ⟨#[97, 10]⟩, .int .i64 0, .bool false]] w fun e w' => e = .returned (.string ⟨#[34, 97, 92, 110, 34]⟩) ∧ Below w.heap.size w w' := by
  have := show_any ⟨4, 0, [97, 10], 0, false⟩ (by decide) w
  rw [shw_one] at this
  exact this
theorem kw_one (w : World) : Calls Tryd.prog 17 #[.string ⟨#[121, 105, 101, 108, 100]⟩] w fun e w' => e = .returned (.bool true) ∧ w = w' := by
  have := keyword_any ⟨#[121, 105, 101, 108, 100]⟩ w
  rw [show kws.contains (ByteArray.mk #[121, 105, 101, 108, 100]).toList = true by kernel_rfl] at this
  exact this
theorem kw_two (w : World) : Calls Tryd.prog 17 #[.string ⟨#[120]⟩] w fun e w' => e = .returned (.bool false) ∧ w = w' := by
  have := keyword_any ⟨#[120]⟩ w
  rw [show kws.contains (ByteArray.mk #[120]).toList = false by kernel_rfl] at this
  exact this
theorem row_seven {w : World} {g : Nat} (h : Row w g L7) : w.cell? ⟨g, 0, none⟩ = some (.int .i64 2) ∧ w.cell? ⟨g, 5, none⟩ = some (.int .i64 1) ∧ w.cell? ⟨g, 15, none⟩ = some (.int .i64 3) ∧ w.cell? ⟨g, 16, none⟩ = some (.int .i64 10) ∧ w.cell? ⟨g, 17, none⟩ = some (.string ⟨#[48, 120, 49, 70]⟩) ∧ w.cell? ⟨g, 18, none⟩ = some (.int .i64 31) ∧ w.cell? ⟨g, 19, none⟩ = some (.bool false) ∧ w.cell? ⟨g, 20, none⟩ = some (.int .i64 5) ∧ w.cell? ⟨g, 21, none⟩ = some (.int .i64 21) ∧ w.cell? ⟨g, 22, none⟩ = some (.string ⟨#[43, 43]⟩) ∧ w.cell? ⟨g, 23, none⟩ = some (.int .i64 0) ∧ w.cell? ⟨g, 24, none⟩ = some (.bool true) ∧ w.cell? ⟨g, 28, none⟩ = some (.int .i64 97) ∧ w.cell? ⟨g, 30, none⟩ = some (.int .i64 6) :=
  ⟨h 0 _ rfl, h 5 _ rfl, h 15 _ rfl, h 16 _ rfl, h 17 _ rfl, h 18 _ rfl, h 19 _ rfl, h 20 _ rfl, h 21 _ rfl, h 22 _ rfl, h 23 _ rfl, h 24 _ rfl, h 28 _ rfl, h 30 _ rfl⟩
set_option maxRecDepth 100000 in
set_option maxHeartbeats 4000000 in
theorem cuts_any (m : Int) (w : World) (hm : w.cell? ⟨0, 0, none⟩ = some (.int .i64 m)) : Calls Tryd.prog 9 #[] w fun e w' => e = .returned (.bool true) ∧ Below w.heap.size w w' := by
  have h0 := pos_of hm
  have HM := Lib.hid hm
  go_enter Tryd.func9, Tryd.ntmps9
  go_wp2_with fail
  refine (k_one m _ hm).mono ?_
  rintro e w1 ⟨g, cap, rfl, hc1, hc2, hg1, hg2, hr1, hb1⟩
  have HB2 := Lib.hid (hb1.alloc hb1.size (.cells #[.int .i64 0, .int .i64 0] 26))
  have hq := (Below.refl w1.heap.size w1).alloc (Nat.le_refl _) (.cells #[.int .i64 0, .int .i64 0] 26)
  have HR2 := Lib.hid (row_keep hr1 hg2 hq)
  have HX2 := Lib.hid (heap_alloc_new w1 (.cells #[.int .i64 0, .int .i64 0] 26))
  have z1 := hb1.size
  have hc2 : (cap : Int) ≤ 9223372036854775807 := by unfold maxLen at hc2; omega
  clear hq hr1 hb1 hm
  go_wp2_with fail
  refine (k_two m _ (cell_below HB2.out h0 HM.out)).mono ?_
  rintro e w3 ⟨v, rfl, hb3⟩
  have hq := (Below.refl w3.heap.size w3).alloc (Nat.le_refl _) (.cells #[.int .i64 5, .int .i64 2] 26)
  have z3 := hb3.size
  have HB4 := Lib.hid (HB2.out.trans ((hb3.trans (hq.mono z3)).mono HB2.out.size))
  have HR4 := Lib.hid (row_keep HR2.out (by simp; omega) (hb3.trans (hq.mono z3)))
  have HX4 := Lib.hid (keep HX2.out (hb3.trans (hq.mono z3)))
  have HY4 := Lib.hid (heap_alloc_new w3 (.cells #[.int .i64 5, .int .i64 2] 26))
  clear hq hb3 HB2 HR2 HX2
  obtain ⟨c0, c1, _, _⟩ := fault_facts HX4.out
  obtain ⟨e0, e1, _, _⟩ := fault_facts HY4.out
  obtain ⟨r0, r5, r15, r16, r17, r18, r19, r20, r21, r22, r23, r24, r28, r30⟩ := row_seven HR4.out
  have hg4 : g < (w3.alloc (.cells #[.int .i64 5, .int .i64 2] 26)).heap.size := by simp at z3 ⊢; omega
  have HG4 := Lib.hid hg4
  clear hg4
  go_wp2_with fail
  refine (k_join g cap _ HG4.out HR4.out).mono ?_
  rintro e w5 ⟨rfl, hb5⟩
  go_wp2_with fail
  refine (k_show _).mono ?_
  rintro e w6 ⟨rfl, hb6⟩
  go_wp2_with fail
  refine (kw_one _).mono ?_
  rintro e w7 ⟨rfl, rfl⟩
  go_wp2_with fail
  refine (kw_two _).mono ?_
  rintro e w7 ⟨rfl, rfl⟩
  go_wp2_with fail
  go_ret
  exact ⟨rfl, HB4.out.trans ((hb5.trans (hb6.mono hb5.size)).mono HB4.out.size)⟩
end Go.Proofs.YthjmlgbnpnfkgaaDoor.Lx
