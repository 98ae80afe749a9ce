/- Contract of dreylaw02.texts. -/
import Derived.Test.YtkpdjpplcejjiaaConst
namespace Go.Proofs.Ytkpdjpplcejjiaa
open Go.RowKit Go.ChangeShapes Go.WideShapes Go.ChangeAt

set_option maxRecDepth 100000 in
set_option maxHeartbeats 4000000 in
theorem texts_any (m : Int) (w : World) (hm : w.cell? ⟨0, 0, none⟩ = some (.int .i64 m)) : Calls Try.prog 11 #[] w fun e w' => e = .returned (.bool true) ∧ Below w.heap.size w w' := by
  have h0 : 0 < w.heap.size := by
    refine Nat.pos_of_ne_zero fun h => ?_
    have e : w.heap = #[] := Array.eq_empty_of_size_eq_zero h
    simp [World.cell?, e] at hm
  have HM := Lib.hid hm
  clear hm
  go_enter Try.func11, Try.ntmps11
  go_wp2_with fail
  refine (k_quote _).mono ?_
  rintro e w1 ⟨rfl, hb1⟩
  go_wp2_with fail
  refine (k_une1 _).mono ?_
  rintro e w2 ⟨rfl, hb2⟩
  go_wp2_with fail
  refine (k_une2 _).mono ?_
  rintro e w3 ⟨rfl, hb3⟩
  go_wp2_with fail
  refine (k_slice _).mono ?_
  rintro e w4 ⟨rfl, hb4⟩
  have s1 := hb1.size
  have s2 := hb2.size
  have s3 := hb3.size
  have s4 := hb4.size
  simp at s3 s4
  have hq4 : w4.heap[w3.heap.size]? = some (.cells #[.int .i64 20, .int .i64 2] 26 (0, 0)) := (hb4.block _ (by simp)).trans (heap_alloc_new w3 _)
  have hq3 : w4.heap[w2.heap.size]? = some (.cells #[.int .i64 0, .int .i64 0] 26 (0, 0)) := by
    refine (hb4.block _ (by simp; omega)).trans ?_
    refine (Below.heap_alloc w3 _ _ (by omega)).trans ?_
    exact (hb3.block _ (by simp)).trans (heap_alloc_new w2 _)
  have hm4 : Below w.heap.size w w4 := (((hb1.trans (hb2.mono s1)).alloc (by omega) _).trans (hb3.mono (by simp; omega))).alloc (by omega) _ |>.trans (hb4.mono (by simp; omega))
  have HQ4 := Lib.hid hq4
  have HQ3 := Lib.hid hq3
  clear hq3 hq4 hb1 hb2 hb3 hb4
  go_wp2_with fail
  refine (k_join w4.heap.size 2 _ (by simp) (by rw [Lib.cell_of_heap (heap_alloc_new w4 _)]; rfl) (by rw [Lib.cell_of_heap (heap_alloc_new w4 _)]; rfl)).mono ?_
  rintro e w5 ⟨rfl, hb5⟩
  have s5 := hb5.size
  simp at s5
  have h45 : Below w4.heap.size w4 w5 := ((Below.refl _ _).alloc (Nat.le_refl _) _).trans (hb5.mono (by simp))
  have hm5 : Below w.heap.size w w5 := hm4.trans (h45.mono (by omega))
  have hq5 : w5.heap[w3.heap.size]? = some (.cells #[.int .i64 20, .int .i64 2] 26 (0, 0)) := (h45.block _ (by omega)).trans HQ4.out
  have hq6 : w5.heap[w2.heap.size]? = some (.cells #[.int .i64 0, .int .i64 0] 26 (0, 0)) := (h45.block _ (by omega)).trans HQ3.out
  obtain ⟨c1, c2, _, _⟩ := fault_facts hq5
  obtain ⟨c3, _, _, _⟩ := fault_facts hq6
  have hz := cell_below hm5 h0 HM.out
  have HM5 := Lib.hid hz
  clear hq5 hq6 hz hb5
  go_wp2_with fail
  refine (k_find m _ HM5.out).mono ?_
  rintro e w6 ⟨rfl, rfl⟩
  clear c1 c2 c3
  go_wp2_with fail
  refine (k_lower _).mono ?_
  rintro e w6 ⟨rfl, hb6⟩
  have s6 := hb6.size
  go_wp2_with fail
  refine (k_upper _).mono ?_
  rintro e w7 ⟨rfl, hb7⟩
  have s7 := hb7.size
  go_wp2_with fail
  refine (k_strip _).mono ?_
  rintro e w8 ⟨rfl, hb8⟩
  have s8 := hb8.size
  go_wp2_with fail
  refine (k_split _).mono ?_
  rintro e w9 ⟨g9, cap9, rfl, hb9⟩
  go_wp2_with fail
  refine (k_name1 _).mono ?_
  rintro e wx ⟨rfl, rfl⟩
  go_wp2_with fail
  refine (k_name2 _).mono ?_
  rintro e wx ⟨rfl, rfl⟩
  go_wp2_with fail
  refine (k_compare _).mono ?_
  rintro e wx ⟨rfl, rfl⟩
  go_wp2_with fail
  go_ret
  exact ⟨rfl, (((hm5.trans (hb6.mono (by omega))).trans (hb7.mono (by omega))).trans (hb8.mono (by omega))).trans (hb9.mono (by omega))⟩
end Go.Proofs.Ytkpdjpplcejjiaa
