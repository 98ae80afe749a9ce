/- Contracts of package value: texts behind each other, hashes. -/
import Derived.Test.YthmeehmobcaadaaVal5
import Derived.BigQuiet
namespace Go.Proofs.Ythmeehmobcaadaa.Va
open Go.RowKit Go.ChangeShapes Go.WideShapes Go.ChangeAt

theorem bne_yes {a b : Int} (h : ¬ a = b) : (a != b) = true := by rw [bne_iff_ne]; exact h
def cat (x y : ByteArray) : ByteArray := ⟨(x.data.toList ++ y.data.toList).toArray⟩
theorem join_two (x y : ByteArray) (h : x.size + y.size ≤ 1048576) (t : TypeId) (w : World) :
    Calls Try.prog 62 #[.string ⟨#[]⟩, .slice (some ⟨w.heap.size, 0, none⟩) 2 2] (w.alloc (.cells #[.string x, .string y] t)) fun e w' => e = .returned (.tuple #[.string (cat x y), .int .i64 0]) ∧ Below w.heap.size w w' := by
  have hw : (w.alloc (.cells #[.string x, .string y] t)).heap[w.heap.size]? = some (.cells #[.string x, .string y] t (0, 0)) := heap_alloc_new w _
  have hj : jrun ([] : List UInt8) [x, y] true [] = x.data.toList ++ y.data.toList := by simp [jrun]
  refine (join_any ⟨#[]⟩ [x, y] w.heap.size 2 _ (by simp) (by simp) ?_ ?_).mono ?_
  · intro k hk
    match k, hk with
    | 0, _ => rw [cell_of_row _ _ _ _ _ _ hw]; rfl
    | 1, _ => rw [cell_of_row _ _ _ _ _ _ hw]; rfl
  · show (jrun ([] : List UInt8) [x, y] true []).length ≤ _
    rw [hj, List.length_append, size_list, size_list]; exact h
  · rintro e w' ⟨rfl, hb⟩
    refine ⟨?_, (box1 hb).2⟩
    show _ = Ending.returned (.tuple #[.string ⟨(x.data.toList ++ y.data.toList).toArray⟩, .int .i64 0])
    rw [← hj]

theorem texts_ok {k : Int} (h : ¬ k = 4) : textE k = 0 := by simp [textE, h]
set_option maxRecDepth 100000 in
theorem join_ok (k n k' n' : Int) (s s' : ByteArray) (h0 : 0 ≤ k) (h4 : k ≤ 4) (h1 : -9223372036854775808 ≤ n) (h2 : n ≤ 9223372036854775807) (h0' : 0 ≤ k') (h4' : k' ≤ 4) (h1' : -9223372036854775808 ≤ n') (h2' : n' ≤ 9223372036854775807) (hk : ¬ k = 4) (hk' : ¬ k' = 4) (hsz : (textV k n s).size + (textV k' n' s').size ≤ 1048576) (w : World) : Calls Try.prog 57 #[.agg #[.int .i64 k, .int .i64 n, .string s], .agg #[.int .i64 k', .int .i64 n', .string s']] w fun e w' => e = .returned (.tuple #[.agg #[.int .i64 3, .int .i64 0, .string (cat (textV k n s) (textV k' n' s'))], .int .i64 0]) ∧ Below w.heap.size w w' := by
  have HT := Lib.hid fun w => text_any k n s h0 h4 h1 h2 w
  have HT' := Lib.hid fun w => text_any k' n' s' h0' h4' h1' h2' w
  rw [texts_ok hk] at HT
  rw [texts_ok hk'] at HT'
  have HJ := Lib.hid fun t w => join_two (textV k n s) (textV k' n' s') hsz t w
  generalize cat (textV k n s) (textV k' n' s') = z at *
  generalize textV k n s = x at *
  generalize textV k' n' s' = y at *
  have HS := Lib.hid fun w => str_any z w
  clear h0 h4 h1 h2 h0' h4' h1' h2' hk hk' hsz
  go_enter Try.func57, Try.ntmps57
  go_wp2_with fail
  refine (HT.out _).mono ?_
  rintro e w1 ⟨rfl, hb⟩
  obtain ⟨hA, hB, hC, hbz⟩ := box3 hb
  obtain ⟨c0A, c1A, c2A, z0A, z1A, z2A⟩ := three_facts hA
  have HA := Lib.hid hA
  obtain ⟨c0B, c1B, c2B, z0B, z1B, z2B⟩ := three_facts hB
  have HB := Lib.hid hB
  obtain ⟨c0C, c1C, c2C, z0C, z1C, z2C⟩ := three_facts hC
  have HC := Lib.hid hC
  have HZ := Lib.hid hbz
  clear hb hbz hA hB hC
  go_wp2_with fail
  refine (HT'.out _).mono ?_
  rintro e w2 ⟨rfl, hb⟩
  have hA := keep HA.out hb
  have hB := keep HB.out hb
  have hC := keep HC.out hb
  have hbz := HZ.out.trans (hb.mono HZ.out.size)
  clear HA HB HC HZ
  obtain ⟨c0A, c1A, c2A, z0A, z1A, z2A⟩ := three_facts hA
  have HA := Lib.hid hA
  obtain ⟨c0B, c1B, c2B, z0B, z1B, z2B⟩ := three_facts hB
  have HB := Lib.hid hB
  obtain ⟨c0C, c1C, c2C, z0C, z1C, z2C⟩ := three_facts hC
  have HC := Lib.hid hC
  have HZ := Lib.hid hbz
  clear hb hbz hA hB hC
  go_wp2_with fail
  refine (HJ.out _ _).mono ?_
  rintro e w3 ⟨rfl, hb⟩
  have hA := keep HA.out hb
  have hB := keep HB.out hb
  have hC := keep HC.out hb
  have hbz := HZ.out.trans (hb.mono HZ.out.size)
  clear HA HB HC HZ
  obtain ⟨c0A, c1A, c2A, z0A, z1A, z2A⟩ := three_facts hA
  have HA := Lib.hid hA
  obtain ⟨c0B, c1B, c2B, z0B, z1B, z2B⟩ := three_facts hB
  have HB := Lib.hid hB
  obtain ⟨c0C, c1C, c2C, z0C, z1C, z2C⟩ := three_facts hC
  have HC := Lib.hid hC
  have HZ := Lib.hid hbz
  clear hb hbz hA hB hC
  go_wp2_with fail
  refine (HS.out _).mono ?_
  rintro e w4 ⟨rfl, hb⟩
  have hA := keep HA.out hb
  have hB := keep HB.out hb
  have hC := keep HC.out hb
  have hbz := HZ.out.trans (hb.mono HZ.out.size)
  clear HA HB HC HZ
  obtain ⟨c0A, c1A, c2A, z0A, z1A, z2A⟩ := three_facts hA
  have HA := Lib.hid hA
  obtain ⟨c0B, c1B, c2B, z0B, z1B, z2B⟩ := three_facts hB
  have HB := Lib.hid hB
  obtain ⟨c0C, c1C, c2C, z0C, z1C, z2C⟩ := three_facts hC
  have HC := Lib.hid hC
  have HZ := Lib.hid hbz
  clear hb hbz hA hB hC
  go_wp2_with fail
  (try simp only [Exit.inBlock, Exit.then])
  refine bodyPost_ret (results_cell_tmp rfl _ _ (w.heap.size + 1 + 1) 23 #[.int .i64 3, .int .i64 0, .string z] (0, 0) _ rfl (heap_three HC.out _ _ _) Try.underlying23 rfl A.infoV) ?_ ?_
  · rfl
  · exact ⟨rfl, ((HZ.out.setCell (by simp; omega) _).setCell (by simp; omega) _).setCell (by simp; omega) _⟩
set_option maxRecDepth 100000 in
theorem join_ref1 (n k' n' : Int) (s s' : ByteArray) (h1 : -9223372036854775808 ≤ n) (h2 : n ≤ 9223372036854775807) (w : World) : Calls Try.prog 57 #[.agg #[.int .i64 4, .int .i64 n, .string s], .agg #[.int .i64 k', .int .i64 n', .string s']] w fun e w' => e = .returned (.tuple #[.agg #[.int .i64 0, .int .i64 0, .string ⟨#[]⟩], .int .i64 30]) ∧ Below w.heap.size w w' := by
  have HT := Lib.hid fun w => text_any 4 n s (by omega) (by omega) h1 h2 w
  rw [show textE 4 = 30 from rfl] at HT
  have HN := Lib.hid null_any
  clear h1 h2
  generalize textV 4 n s = x at *
  go_enter Try.func57, Try.ntmps57
  go_wp2_with fail
  refine (HT.out _).mono ?_
  rintro e w1 ⟨rfl, hb⟩
  obtain ⟨hA, hB, hC, hbz⟩ := box3 hb
  obtain ⟨c0A, c1A, c2A, z0A, z1A, z2A⟩ := three_facts hA
  have HA := Lib.hid hA
  obtain ⟨c0B, c1B, c2B, z0B, z1B, z2B⟩ := three_facts hB
  have HB := Lib.hid hB
  obtain ⟨c0C, c1C, c2C, z0C, z1C, z2C⟩ := three_facts hC
  have HC := Lib.hid hC
  have HZ := Lib.hid hbz
  clear hb hbz hA hB hC
  go_wp2_with fail
  refine (HN.out _).mono ?_
  rintro e w2 ⟨rfl, hb⟩
  have hA := keep HA.out hb
  have hB := keep HB.out hb
  have hC := keep HC.out hb
  have hbz := HZ.out.trans (hb.mono HZ.out.size)
  clear HA HB HC HZ
  obtain ⟨c0A, c1A, c2A, z0A, z1A, z2A⟩ := three_facts hA
  have HA := Lib.hid hA
  obtain ⟨c0B, c1B, c2B, z0B, z1B, z2B⟩ := three_facts hB
  have HB := Lib.hid hB
  obtain ⟨c0C, c1C, c2C, z0C, z1C, z2C⟩ := three_facts hC
  have HC := Lib.hid hC
  have HZ := Lib.hid hbz
  clear hb hbz hA hB hC
  go_wp2_with fail
  (try simp only [Exit.inBlock, Exit.then])
  refine bodyPost_ret (results_cell_tmp rfl _ _ (w.heap.size + 1 + 1) 23 #[.int .i64 0, .int .i64 0, .string ⟨#[]⟩] (0, 0) _ rfl (heap_three HC.out _ _ _) Try.underlying23 rfl A.infoV) ?_ ?_
  · rfl
  · exact ⟨rfl, ((HZ.out.setCell (by simp; omega) _).setCell (by simp; omega) _).setCell (by simp; omega) _⟩
set_option maxRecDepth 100000 in
theorem join_ref2 (k n n' : Int) (s s' : ByteArray) (h0 : 0 ≤ k) (h4 : k ≤ 4) (h1 : -9223372036854775808 ≤ n) (h2 : n ≤ 9223372036854775807) (h1' : -9223372036854775808 ≤ n') (h2' : n' ≤ 9223372036854775807) (hk : ¬ k = 4) (w : World) : Calls Try.prog 57 #[.agg #[.int .i64 k, .int .i64 n, .string s], .agg #[.int .i64 4, .int .i64 n', .string s']] w fun e w' => e = .returned (.tuple #[.agg #[.int .i64 0, .int .i64 0, .string ⟨#[]⟩], .int .i64 30]) ∧ Below w.heap.size w w' := by
  have HT := Lib.hid fun w => text_any k n s h0 h4 h1 h2 w
  rw [texts_ok hk] at HT
  have HT' := Lib.hid fun w => text_any 4 n' s' (by omega) (by omega) h1' h2' w
  rw [show textE 4 = 30 from rfl] at HT'
  have HN := Lib.hid null_any
  clear h0 h4 h1 h2 h1' h2' hk
  generalize textV k n s = x at *
  generalize textV 4 n' s' = y at *
  go_enter Try.func57, Try.ntmps57
  go_wp2_with fail
  refine (HT.out _).mono ?_
  rintro e w1 ⟨rfl, hb⟩
  obtain ⟨hA, hB, hC, hbz⟩ := box3 hb
  obtain ⟨c0A, c1A, c2A, z0A, z1A, z2A⟩ := three_facts hA
  have HA := Lib.hid hA
  obtain ⟨c0B, c1B, c2B, z0B, z1B, z2B⟩ := three_facts hB
  have HB := Lib.hid hB
  obtain ⟨c0C, c1C, c2C, z0C, z1C, z2C⟩ := three_facts hC
  have HC := Lib.hid hC
  have HZ := Lib.hid hbz
  clear hb hbz hA hB hC
  go_wp2_with fail
  refine (HT'.out _).mono ?_
  rintro e w2 ⟨rfl, hb⟩
  have hA := keep HA.out hb
  have hB := keep HB.out hb
  have hC := keep HC.out hb
  have hbz := HZ.out.trans (hb.mono HZ.out.size)
  clear HA HB HC HZ
  obtain ⟨c0A, c1A, c2A, z0A, z1A, z2A⟩ := three_facts hA
  have HA := Lib.hid hA
  obtain ⟨c0B, c1B, c2B, z0B, z1B, z2B⟩ := three_facts hB
  have HB := Lib.hid hB
  obtain ⟨c0C, c1C, c2C, z0C, z1C, z2C⟩ := three_facts hC
  have HC := Lib.hid hC
  have HZ := Lib.hid hbz
  clear hb hbz hA hB hC
  go_wp2_with fail
  refine (HN.out _).mono ?_
  rintro e w3 ⟨rfl, hb⟩
  have hA := keep HA.out hb
  have hB := keep HB.out hb
  have hC := keep HC.out hb
  have hbz := HZ.out.trans (hb.mono HZ.out.size)
  clear HA HB HC HZ
  obtain ⟨c0A, c1A, c2A, z0A, z1A, z2A⟩ := three_facts hA
  have HA := Lib.hid hA
  obtain ⟨c0B, c1B, c2B, z0B, z1B, z2B⟩ := three_facts hB
  have HB := Lib.hid hB
  obtain ⟨c0C, c1C, c2C, z0C, z1C, z2C⟩ := three_facts hC
  have HC := Lib.hid hC
  have HZ := Lib.hid hbz
  clear hb hbz hA hB hC
  go_wp2_with fail
  (try simp only [Exit.inBlock, Exit.then])
  refine bodyPost_ret (results_cell_tmp rfl _ _ (w.heap.size + 1 + 1) 23 #[.int .i64 0, .int .i64 0, .string ⟨#[]⟩] (0, 0) _ rfl (heap_three HC.out _ _ _) Try.underlying23 rfl A.infoV) ?_ ?_
  · rfl
  · exact ⟨rfl, ((HZ.out.setCell (by simp; omega) _).setCell (by simp; omega) _).setCell (by simp; omega) _⟩
set_option maxRecDepth 100000 in
theorem add_ints (n n' : Int) (s s' : ByteArray) (w : World) : Calls Try.prog 27 #[.agg #[.int .i64 2, .int .i64 n, .string s], .agg #[.int .i64 2, .int .i64 n', .string s']] w fun e w' => e = .returned (.tuple #[.agg #[.int .i64 2, .int .i64 (wrap64 (n + n')), .string ⟨#[]⟩], .int .i64 0]) ∧ Below w.heap.size w w' := by
  have H2 := Lib.hid fun w => both_any 2 2 n 2 n' s s' w
  rw [show two 2 2 2 = true from rfl] at H2
  have HX := Lib.hid fun w => nadd_any n n' w
  generalize wrap64 (n + n') = z at *
  have HI := Lib.hid fun w => int_any z w
  go_enter Try.func27, Try.ntmps27
  go_wp2_with fail
  refine (H2.out _).mono ?_
  rintro e w1 ⟨rfl, hb⟩
  obtain ⟨hA, hB, hC, hbz⟩ := box3 hb
  obtain ⟨c0A, c1A, c2A, z0A, z1A, z2A⟩ := three_facts hA
  have HA := Lib.hid hA
  obtain ⟨c0B, c1B, c2B, z0B, z1B, z2B⟩ := three_facts hB
  have HB := Lib.hid hB
  obtain ⟨c0C, c1C, c2C, z0C, z1C, z2C⟩ := three_facts hC
  have HC := Lib.hid hC
  have HZ := Lib.hid hbz
  clear hb hbz hA hB hC
  go_wp2_with fail
  refine (HX.out _).mono ?_
  rintro e _ ⟨rfl, rfl⟩
  go_wp2_with fail
  refine (HI.out _).mono ?_
  rintro e w2 ⟨rfl, hb⟩
  have hA := keep HA.out hb
  have hB := keep HB.out hb
  have hC := keep HC.out hb
  have hbz := HZ.out.trans (hb.mono HZ.out.size)
  clear HA HB HC HZ
  obtain ⟨c0A, c1A, c2A, z0A, z1A, z2A⟩ := three_facts hA
  have HA := Lib.hid hA
  obtain ⟨c0B, c1B, c2B, z0B, z1B, z2B⟩ := three_facts hB
  have HB := Lib.hid hB
  obtain ⟨c0C, c1C, c2C, z0C, z1C, z2C⟩ := three_facts hC
  have HC := Lib.hid hC
  have HZ := Lib.hid hbz
  clear hb hbz hA hB hC
  go_wp2_with fail
  (try simp only [Exit.inBlock, Exit.then])
  refine bodyPost_ret (results_cell_tmp rfl _ _ (w.heap.size + 1 + 1) 23 #[.int .i64 2, .int .i64 z, .string ⟨#[]⟩] (0, 0) _ rfl (heap_three HC.out _ _ _) Try.underlying23 rfl A.infoV) ?_ ?_
  · rfl
  · exact ⟨rfl, ((HZ.out.setCell (by simp; omega) _).setCell (by simp; omega) _).setCell (by simp; omega) _⟩
set_option maxRecDepth 100000 in
theorem add_none (k n k' n' : Int) (s s' : ByteArray) (hk : two 2 k k' = false) (h3 : ¬ k = 3) (h3' : ¬ k' = 3) (w : World) : Calls Try.prog 27 #[.agg #[.int .i64 k, .int .i64 n, .string s], .agg #[.int .i64 k', .int .i64 n', .string s']] w fun e w' => e = .returned (.tuple #[.agg #[.int .i64 0, .int .i64 0, .string ⟨#[]⟩], .int .i64 30]) ∧ Below w.heap.size w w' := by
  have H2 := Lib.hid fun w => both_any 2 k n k' n' s s' w
  rw [hk] at H2
  clear hk
  have HN := Lib.hid null_any
  have e3 : (k != 3) = true := bne_yes h3
  have e3' : (k' != 3) = true := bne_yes h3'
  go_enter Try.func27, Try.ntmps27
  go_wp2_with fail
  refine (H2.out _).mono ?_
  rintro e w1 ⟨rfl, hb⟩
  obtain ⟨hA, hB, hC, hbz⟩ := box3 hb
  obtain ⟨c0A, c1A, c2A, z0A, z1A, z2A⟩ := three_facts hA
  have HA := Lib.hid hA
  obtain ⟨c0B, c1B, c2B, z0B, z1B, z2B⟩ := three_facts hB
  have HB := Lib.hid hB
  obtain ⟨c0C, c1C, c2C, z0C, z1C, z2C⟩ := three_facts hC
  have HC := Lib.hid hC
  have HZ := Lib.hid hbz
  clear hb hbz hA hB hC
  go_wp2_with fail
  refine (HN.out _).mono ?_
  rintro e w2 ⟨rfl, hb⟩
  have hA := keep HA.out hb
  have hB := keep HB.out hb
  have hC := keep HC.out hb
  have hbz := HZ.out.trans (hb.mono HZ.out.size)
  clear HA HB HC HZ
  obtain ⟨c0A, c1A, c2A, z0A, z1A, z2A⟩ := three_facts hA
  have HA := Lib.hid hA
  obtain ⟨c0B, c1B, c2B, z0B, z1B, z2B⟩ := three_facts hB
  have HB := Lib.hid hB
  obtain ⟨c0C, c1C, c2C, z0C, z1C, z2C⟩ := three_facts hC
  have HC := Lib.hid hC
  have HZ := Lib.hid hbz
  clear hb hbz hA hB hC
  go_wp2_with fail
  (try simp only [Exit.inBlock, Exit.then])
  refine bodyPost_ret (results_cell_tmp rfl _ _ (w.heap.size + 1 + 1) 23 #[.int .i64 0, .int .i64 0, .string ⟨#[]⟩] (0, 0) _ rfl (heap_three HC.out _ _ _) Try.underlying23 rfl A.infoV) ?_ ?_
  · rfl
  · exact ⟨rfl, ((HZ.out.setCell (by simp; omega) _).setCell (by simp; omega) _).setCell (by simp; omega) _⟩
set_option maxRecDepth 100000 in
theorem add_ref (k n k' n' : Int) (s s' : ByteArray) (h3 : k = 3 ∨ (¬ k = 3 ∧ k' = 3)) (HJ : ∀ w, Calls Try.prog 57 #[.agg #[.int .i64 k, .int .i64 n, .string s], .agg #[.int .i64 k', .int .i64 n', .string s']] w fun e w' => e = .returned (.tuple #[.agg #[.int .i64 0, .int .i64 0, .string ⟨#[]⟩], .int .i64 30]) ∧ Below w.heap.size w w') (w : World) : Calls Try.prog 27 #[.agg #[.int .i64 k, .int .i64 n, .string s], .agg #[.int .i64 k', .int .i64 n', .string s']] w fun e w' => e = .returned (.tuple #[.agg #[.int .i64 0, .int .i64 0, .string ⟨#[]⟩], .int .i64 30]) ∧ Below w.heap.size w w' := by
  have H2 := Lib.hid fun w => both_any 2 k n k' n' s s' w
  rw [show two 2 k k' = false by simp only [two, Bool.and_eq_false_iff, decide_eq_false_iff_not]; omega] at H2
  have HJ := Lib.hid HJ
  rcases h3 with rfl | ⟨h3, rfl⟩
  · go_enter Try.func27, Try.ntmps27
    go_wp2_with fail
    refine (H2.out _).mono ?_
    rintro e w1 ⟨rfl, hb⟩
    obtain ⟨hA, hB, hC, hbz⟩ := box3 hb
    obtain ⟨c0A, c1A, c2A, z0A, z1A, z2A⟩ := three_facts hA
    have HA := Lib.hid hA
    obtain ⟨c0B, c1B, c2B, z0B, z1B, z2B⟩ := three_facts hB
    have HB := Lib.hid hB
    obtain ⟨c0C, c1C, c2C, z0C, z1C, z2C⟩ := three_facts hC
    have HC := Lib.hid hC
    have HZ := Lib.hid hbz
    clear hb hbz hA hB hC
    go_wp2_with fail
    refine (HJ.out _).mono ?_
    rintro e w2 ⟨rfl, hb⟩
    have hA := keep HA.out hb
    have hB := keep HB.out hb
    have hC := keep HC.out hb
    have hbz := HZ.out.trans (hb.mono HZ.out.size)
    clear HA HB HC HZ
    obtain ⟨c0A, c1A, c2A, z0A, z1A, z2A⟩ := three_facts hA
    have HA := Lib.hid hA
    obtain ⟨c0B, c1B, c2B, z0B, z1B, z2B⟩ := three_facts hB
    have HB := Lib.hid hB
    obtain ⟨c0C, c1C, c2C, z0C, z1C, z2C⟩ := three_facts hC
    have HC := Lib.hid hC
    have HZ := Lib.hid hbz
    clear hb hbz hA hB hC
    go_wp2_with fail
    (try simp only [Exit.inBlock, Exit.then])
    refine bodyPost_ret (results_cell_tmp rfl _ _ (w.heap.size + 1 + 1) 23 #[.int .i64 0, .int .i64 0, .string ⟨#[]⟩] (0, 0) _ rfl (heap_three HC.out _ _ _) Try.underlying23 rfl A.infoV) ?_ ?_
    · rfl
    · exact ⟨rfl, ((HZ.out.setCell (by simp; omega) _).setCell (by simp; omega) _).setCell (by simp; omega) _⟩
  · go_enter Try.func27, Try.ntmps27
    go_wp2_with fail
    refine (H2.out _).mono ?_
    rintro e w1 ⟨rfl, hb⟩
    obtain ⟨hA, hB, hC, hbz⟩ := box3 hb
    obtain ⟨c0A, c1A, c2A, z0A, z1A, z2A⟩ := three_facts hA
    have HA := Lib.hid hA
    obtain ⟨c0B, c1B, c2B, z0B, z1B, z2B⟩ := three_facts hB
    have HB := Lib.hid hB
    obtain ⟨c0C, c1C, c2C, z0C, z1C, z2C⟩ := three_facts hC
    have HC := Lib.hid hC
    have HZ := Lib.hid hbz
    clear hb hbz hA hB hC
    go_wp2_with fail
    refine (HJ.out _).mono ?_
    rintro e w2 ⟨rfl, hb⟩
    have hA := keep HA.out hb
    have hB := keep HB.out hb
    have hC := keep HC.out hb
    have hbz := HZ.out.trans (hb.mono HZ.out.size)
    clear HA HB HC HZ
    obtain ⟨c0A, c1A, c2A, z0A, z1A, z2A⟩ := three_facts hA
    have HA := Lib.hid hA
    obtain ⟨c0B, c1B, c2B, z0B, z1B, z2B⟩ := three_facts hB
    have HB := Lib.hid hB
    obtain ⟨c0C, c1C, c2C, z0C, z1C, z2C⟩ := three_facts hC
    have HC := Lib.hid hC
    have HZ := Lib.hid hbz
    clear hb hbz hA hB hC
    go_wp2_with fail
    (try simp only [Exit.inBlock, Exit.then])
    refine bodyPost_ret (results_cell_tmp rfl _ _ (w.heap.size + 1 + 1) 23 #[.int .i64 0, .int .i64 0, .string ⟨#[]⟩] (0, 0) _ rfl (heap_three HC.out _ _ _) Try.underlying23 rfl A.infoV) ?_ ?_
    · rfl
    · exact ⟨rfl, ((HZ.out.setCell (by simp; omega) _).setCell (by simp; omega) _).setCell (by simp; omega) _⟩
set_option maxRecDepth 100000 in
theorem add_text (k n k' n' : Int) (s s' z : ByteArray) (h3 : k = 3 ∨ (¬ k = 3 ∧ k' = 3)) (HJ : ∀ w, Calls Try.prog 57 #[.agg #[.int .i64 k, .int .i64 n, .string s], .agg #[.int .i64 k', .int .i64 n', .string s']] w fun e w' => e = .returned (.tuple #[.agg #[.int .i64 3, .int .i64 0, .string z], .int .i64 0]) ∧ Below w.heap.size w w') (w : World) : Calls Try.prog 27 #[.agg #[.int .i64 k, .int .i64 n, .string s], .agg #[.int .i64 k', .int .i64 n', .string s']] w fun e w' => e = .returned (.tuple #[.agg #[.int .i64 3, .int .i64 0, .string z], .int .i64 0]) ∧ Below w.heap.size w w' := by
  have H2 := Lib.hid fun w => both_any 2 k n k' n' s s' w
  rw [show two 2 k k' = false by simp only [two, Bool.and_eq_false_iff, decide_eq_false_iff_not]; omega] at H2
  have HJ := Lib.hid HJ
  rcases h3 with rfl | ⟨h3, rfl⟩
  · go_enter Try.func27, Try.ntmps27
    go_wp2_with fail
    refine (H2.out _).mono ?_
    rintro e w1 ⟨rfl, hb⟩
    obtain ⟨hA, hB, hC, hbz⟩ := box3 hb
    obtain ⟨c0A, c1A, c2A, z0A, z1A, z2A⟩ := three_facts hA
    have HA := Lib.hid hA
    obtain ⟨c0B, c1B, c2B, z0B, z1B, z2B⟩ := three_facts hB
    have HB := Lib.hid hB
    obtain ⟨c0C, c1C, c2C, z0C, z1C, z2C⟩ := three_facts hC
    have HC := Lib.hid hC
    have HZ := Lib.hid hbz
    clear hb hbz hA hB hC
    go_wp2_with fail
    refine (HJ.out _).mono ?_
    rintro e w2 ⟨rfl, hb⟩
    have hA := keep HA.out hb
    have hB := keep HB.out hb
    have hC := keep HC.out hb
    have hbz := HZ.out.trans (hb.mono HZ.out.size)
    clear HA HB HC HZ
    obtain ⟨c0A, c1A, c2A, z0A, z1A, z2A⟩ := three_facts hA
    have HA := Lib.hid hA
    obtain ⟨c0B, c1B, c2B, z0B, z1B, z2B⟩ := three_facts hB
    have HB := Lib.hid hB
    obtain ⟨c0C, c1C, c2C, z0C, z1C, z2C⟩ := three_facts hC
    have HC := Lib.hid hC
    have HZ := Lib.hid hbz
    clear hb hbz hA hB hC
    go_wp2_with fail
    (try simp only [Exit.inBlock, Exit.then])
    refine bodyPost_ret (results_cell_tmp rfl _ _ (w.heap.size + 1 + 1) 23 #[.int .i64 3, .int .i64 0, .string z] (0, 0) _ rfl (heap_three HC.out _ _ _) Try.underlying23 rfl A.infoV) ?_ ?_
    · rfl
    · exact ⟨rfl, ((HZ.out.setCell (by simp; omega) _).setCell (by simp; omega) _).setCell (by simp; omega) _⟩
  · go_enter Try.func27, Try.ntmps27
    go_wp2_with fail
    refine (H2.out _).mono ?_
    rintro e w1 ⟨rfl, hb⟩
    obtain ⟨hA, hB, hC, hbz⟩ := box3 hb
    obtain ⟨c0A, c1A, c2A, z0A, z1A, z2A⟩ := three_facts hA
    have HA := Lib.hid hA
    obtain ⟨c0B, c1B, c2B, z0B, z1B, z2B⟩ := three_facts hB
    have HB := Lib.hid hB
    obtain ⟨c0C, c1C, c2C, z0C, z1C, z2C⟩ := three_facts hC
    have HC := Lib.hid hC
    have HZ := Lib.hid hbz
    clear hb hbz hA hB hC
    go_wp2_with fail
    refine (HJ.out _).mono ?_
    rintro e w2 ⟨rfl, hb⟩
    have hA := keep HA.out hb
    have hB := keep HB.out hb
    have hC := keep HC.out hb
    have hbz := HZ.out.trans (hb.mono HZ.out.size)
    clear HA HB HC HZ
    obtain ⟨c0A, c1A, c2A, z0A, z1A, z2A⟩ := three_facts hA
    have HA := Lib.hid hA
    obtain ⟨c0B, c1B, c2B, z0B, z1B, z2B⟩ := three_facts hB
    have HB := Lib.hid hB
    obtain ⟨c0C, c1C, c2C, z0C, z1C, z2C⟩ := three_facts hC
    have HC := Lib.hid hC
    have HZ := Lib.hid hbz
    clear hb hbz hA hB hC
    go_wp2_with fail
    (try simp only [Exit.inBlock, Exit.then])
    refine bodyPost_ret (results_cell_tmp rfl _ _ (w.heap.size + 1 + 1) 23 #[.int .i64 3, .int .i64 0, .string z] (0, 0) _ rfl (heap_three HC.out _ _ _) Try.underlying23 rfl A.infoV) ?_ ?_
    · rfl
    · exact ⟨rfl, ((HZ.out.setCell (by simp; omega) _).setCell (by simp; omega) _).setCell (by simp; omega) _⟩
theorem drewN_below {B : Nat} {w w' : World} (h : Below B w w') : ∀ n, Below B w (w'.drewN n)
  | 0 => h
  | n + 1 => (drewN_below h n).drew
theorem wrap_small {k : Int} (h0 : 0 ≤ k) (h4 : k ≤ 4) : IntKind.u64.wrap k = k := by rw [IntKind.wrap_u64]; omega
set_option maxRecDepth 100000 in
theorem hash_str (n : Int) (s : ByteArray) (hs : s.size ≤ 1048576) : ∃ h : Int, ∀ w, Calls Try.prog 16 #[.agg #[.int .i64 3, .int .i64 n, .string s]] w fun e w' => e = .returned (.int .u64 h) ∧ Below w.heap.size w w' := by
  obtain ⟨h, hh⟩ := hash_same s hs
  refine ⟨h, fun w => ?_⟩
  have HH := Lib.hid hh
  clear hh hs
  go_enter Try.func16, Try.ntmps16
  go_wp2_with fail
  refine (HH.out _).mono ?_
  rintro e _ ⟨rfl, rfl⟩
  go_wp2_with fail
  go_ret
  exact ⟨rfl, (Below.refl _ _).alloc (Nat.le_refl _) _⟩
set_option maxRecDepth 100000 in
theorem hash_num (k n : Int) (s : ByteArray) (h0 : 0 ≤ k) (h4 : k ≤ 4) (h3 : ¬ k = 3) (w : World) : Calls Try.prog 16 #[.agg #[.int .i64 k, .int .i64 n, .string s]] w fun e w' => e = .returned (.int .u64 (IntKind.u64.wrap (((Nu.hashN (Nu.U n) : Nat) : Int) + k))) ∧ Below w.heap.size w w' := by
  have HH := Lib.hid fun w => Nu.hash_any n w
  have e := beq_no' h3
  have hw := wrap_small h0 h4
  clear h3
  go_enter Try.func16, Try.ntmps16
  go_wp2_with fail
  go_quiet ((go_at_call 47; refine Calls.quiet_of_same ((HH.out _).mono fun _ _ h => ⟨h.1, h.2.symm⟩)))
  all_goals (try go_wp2)
  all_goals go_ret
  all_goals exact ⟨rfl, drewN_below ((Below.refl _ _).alloc (Nat.le_refl _) _) _⟩
end Go.Proofs.Ythmeehmobcaadaa.Va
