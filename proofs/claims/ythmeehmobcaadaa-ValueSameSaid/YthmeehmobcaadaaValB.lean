/- 'ValueSame': the walk. -/
import Derived.Test.YthmeehmobcaadaaVal9
namespace Go.Proofs.Ythmeehmobcaadaa.Va
open Go.RowKit Go.ChangeShapes Go.WideShapes Go.ChangeAt

set_option maxRecDepth 100000 in
set_option maxHeartbeats 1000000 in
theorem vs_off (k n k' n' : Int) (s s' : ByteArray) (hok : (okB k n s && okB k' n' s') = false) (w : World) : Calls Try.prog 4 #[.agg #[.int .i64 k, .int .i64 n, .string s], .agg #[.int .i64 k', .int .i64 n', .string s']] w fun e w' => e = .returned (.bool true) ∧ Below w.heap.size w w' := by
  have HR : Hid (∀ w, Calls Try.prog 14 #[.slice (some ⟨w.heap.size, 0, none⟩) 2 2] (w.alloc (.cells #[.int .i64 k, .int .i64 n, .string s, .int .i64 k', .int .i64 n', .string s'] 23)) fun e w' => e = .returned (.bool false) ∧ Below w.heap.size w w') := fun w => by have h := right_two k n k' n' s s' 23 w; rw [hok] at h; exact h
  clear hok
  go_enter Try.func4, Try.ntmps4
  go_wp2_with fail
  refine (tells_any _).mono ?_
  rintro e w1 ⟨rfl, hb⟩
  obtain ⟨hA, hB, hbz⟩ := box2 hb
  obtain ⟨c0A, c1A, c2A, z0A, z1A, z2A⟩ := three_facts hA
  have HA := Lib.hid hA
  obtain ⟨c0B, c1B, c2B, z0B, z1B, z2B⟩ := three_facts hB
  have HB := Lib.hid hB
  have HZ := Lib.hid hbz
  clear hb hbz hA hB
  go_wp2_with fail
  refine (HR.out _).mono ?_
  rintro e w2 ⟨rfl, hb⟩
  have hA := keep HA.out hb
  have hB := keep HB.out hb
  have hbz := HZ.out.trans (hb.mono HZ.out.size)
  clear HZ HA HB
  clear c0A c1A c2A z0A z1A z2A c0B c1B c2B z0B z1B z2B
  obtain ⟨c0A, c1A, c2A, z0A, z1A, z2A⟩ := three_facts hA
  have HA := Lib.hid hA
  obtain ⟨c0B, c1B, c2B, z0B, z1B, z2B⟩ := three_facts hB
  have HB := Lib.hid hB
  have HZ := Lib.hid hbz
  clear hb hbz hA hB
  go_wp2_with fail
  go_ret
  exact ⟨rfl, HZ.out⟩
set_option maxRecDepth 100000 in
set_option maxHeartbeats 1000000 in
theorem vs_yes3 (n : Int) (s : ByteArray) (hok : (okB 3 n s && okB 3 n s) = true) (h : Int) (HH : ∀ w, Calls Try.prog 16 #[.agg #[.int .i64 3, .int .i64 n, .string s]] w fun e w' => e = .returned (.int .u64 h) ∧ Below w.heap.size w w') (w : World) : Calls Try.prog 4 #[.agg #[.int .i64 3, .int .i64 n, .string s], .agg #[.int .i64 3, .int .i64 n, .string s]] w fun e w' => e = .returned (.bool true) ∧ Below w.heap.size w w' := by
  have HR : Hid (∀ w, Calls Try.prog 14 #[.slice (some ⟨w.heap.size, 0, none⟩) 2 2] (w.alloc (.cells #[.int .i64 3, .int .i64 n, .string s, .int .i64 3, .int .i64 n, .string s] 23)) fun e w' => e = .returned (.bool true) ∧ Below w.heap.size w w') := fun w => by have h := right_two 3 n 3 n s s 23 w; rw [hok] at h; exact h
  clear hok
  have HQ := Lib.hid HH
  go_enter Try.func4, Try.ntmps4
  go_wp2_with fail
  refine (tells_any _).mono ?_
  rintro e w1 ⟨rfl, hb⟩
  obtain ⟨hA, hB, hbz⟩ := box2 hb
  obtain ⟨c0A, c1A, c2A, z0A, z1A, z2A⟩ := three_facts hA
  have HA := Lib.hid hA
  obtain ⟨c0B, c1B, c2B, z0B, z1B, z2B⟩ := three_facts hB
  have HB := Lib.hid hB
  have HZ := Lib.hid hbz
  clear hb hbz hA hB
  go_wp2_with fail
  refine (HR.out _).mono ?_
  rintro e w2 ⟨rfl, hb⟩
  have hA := keep HA.out hb
  have hB := keep HB.out hb
  have hbz := HZ.out.trans (hb.mono HZ.out.size)
  clear HZ HA HB
  clear c0A c1A c2A z0A z1A z2A c0B c1B c2B z0B z1B z2B
  obtain ⟨c0A, c1A, c2A, z0A, z1A, z2A⟩ := three_facts hA
  have HA := Lib.hid hA
  obtain ⟨c0B, c1B, c2B, z0B, z1B, z2B⟩ := three_facts hB
  have HB := Lib.hid hB
  have HZ := Lib.hid hbz
  clear hb hbz hA hB
  go_wp2_with fail
  refine (same_yes _ _ _ _).mono ?_
  rintro e w3 ⟨rfl, hb⟩
  have hA := keep HA.out hb
  have hB := keep HB.out hb
  have hbz := HZ.out.trans (hb.mono HZ.out.size)
  clear HZ HA HB
  clear c0A c1A c2A z0A z1A z2A c0B c1B c2B z0B z1B z2B
  obtain ⟨c0A, c1A, c2A, z0A, z1A, z2A⟩ := three_facts hA
  have HA := Lib.hid hA
  obtain ⟨c0B, c1B, c2B, z0B, z1B, z2B⟩ := three_facts hB
  have HB := Lib.hid hB
  have HZ := Lib.hid hbz
  clear hb hbz hA hB
  go_wp2_with fail
  refine (same_yes _ _ _ _).mono ?_
  rintro e w4 ⟨rfl, hb⟩
  have hA := keep HA.out hb
  have hB := keep HB.out hb
  have hbz := HZ.out.trans (hb.mono HZ.out.size)
  clear HZ HA HB
  clear c0A c1A c2A z0A z1A z2A c0B c1B c2B z0B z1B z2B
  obtain ⟨c0A, c1A, c2A, z0A, z1A, z2A⟩ := three_facts hA
  have HA := Lib.hid hA
  obtain ⟨c0B, c1B, c2B, z0B, z1B, z2B⟩ := three_facts hB
  have HB := Lib.hid hB
  have HZ := Lib.hid hbz
  clear hb hbz hA hB
  obtain ⟨q0A, q1A, q2A⟩ := three_below HA.out
  obtain ⟨q0B, q1B, q2B⟩ := three_below HB.out
  go_wp2_with fail
  refine wp_region_quiet_below (by kernel_rfl) (by kernel_rfl) ?_
  repeat (quiet_step (first | (go_at_call 16; with_reducible refine Calls.below_of (HQ.out _))))
  refine wpQuiet_nil ?_
  intro _ hw'
  obtain ⟨pq, hw''⟩ := hw'
  subst hw''
  have hA := keep HA.out pq.h
  have hB := keep HB.out pq.h
  have hb := pq.h
  have hbz := HZ.out.trans (hb.mono HZ.out.size)
  clear HZ HA HB
  clear q0A q1A q2A q0B q1B q2B
  generalize pq.x = w5 at *
  clear c0A c1A c2A z0A z1A z2A c0B c1B c2B z0B z1B z2B
  obtain ⟨c0A, c1A, c2A, z0A, z1A, z2A⟩ := three_facts hA
  have HA := Lib.hid hA
  obtain ⟨c0B, c1B, c2B, z0B, z1B, z2B⟩ := three_facts hB
  have HB := Lib.hid hB
  have HZ := Lib.hid hbz
  clear hb hbz hA hB
  go_wp2_with fail
  go_quiet (fail)
  go_wp2_with fail
  go_ret
  exact ⟨rfl, below_drewN HZ.out _⟩
set_option maxRecDepth 100000 in
set_option maxHeartbeats 1000000 in
theorem vs_yes (k n : Int) (s : ByteArray) (hok : (okB k n s && okB k n s) = true) (h : Int) (HH : ∀ w, Calls Try.prog 16 #[.agg #[.int .i64 k, .int .i64 n, .string s]] w fun e w' => e = .returned (.int .u64 h) ∧ Below w.heap.size w w') (hk : ¬ k = 3) (w : World) : Calls Try.prog 4 #[.agg #[.int .i64 k, .int .i64 n, .string s], .agg #[.int .i64 k, .int .i64 n, .string s]] w fun e w' => e = .returned (.bool true) ∧ Below w.heap.size w w' := by
  have HR : Hid (∀ w, Calls Try.prog 14 #[.slice (some ⟨w.heap.size, 0, none⟩) 2 2] (w.alloc (.cells #[.int .i64 k, .int .i64 n, .string s, .int .i64 k, .int .i64 n, .string s] 23)) fun e w' => e = .returned (.bool true) ∧ Below w.heap.size w w') := fun w => by have h := right_two k n k n s s 23 w; rw [hok] at h; exact h
  clear hok
  have HQ := Lib.hid HH
  have e3 := beq_no' hk
  go_enter Try.func4, Try.ntmps4
  go_wp2_with fail
  refine (tells_any _).mono ?_
  rintro e w1 ⟨rfl, hb⟩
  obtain ⟨hA, hB, hbz⟩ := box2 hb
  obtain ⟨c0A, c1A, c2A, z0A, z1A, z2A⟩ := three_facts hA
  have HA := Lib.hid hA
  obtain ⟨c0B, c1B, c2B, z0B, z1B, z2B⟩ := three_facts hB
  have HB := Lib.hid hB
  have HZ := Lib.hid hbz
  clear hb hbz hA hB
  go_wp2_with fail
  refine (HR.out _).mono ?_
  rintro e w2 ⟨rfl, hb⟩
  have hA := keep HA.out hb
  have hB := keep HB.out hb
  have hbz := HZ.out.trans (hb.mono HZ.out.size)
  clear HZ HA HB
  clear c0A c1A c2A z0A z1A z2A c0B c1B c2B z0B z1B z2B
  obtain ⟨c0A, c1A, c2A, z0A, z1A, z2A⟩ := three_facts hA
  have HA := Lib.hid hA
  obtain ⟨c0B, c1B, c2B, z0B, z1B, z2B⟩ := three_facts hB
  have HB := Lib.hid hB
  have HZ := Lib.hid hbz
  clear hb hbz hA hB
  go_wp2_with fail
  refine (same_yes _ _ _ _).mono ?_
  rintro e w3 ⟨rfl, hb⟩
  have hA := keep HA.out hb
  have hB := keep HB.out hb
  have hbz := HZ.out.trans (hb.mono HZ.out.size)
  clear HZ HA HB
  clear c0A c1A c2A z0A z1A z2A c0B c1B c2B z0B z1B z2B
  obtain ⟨c0A, c1A, c2A, z0A, z1A, z2A⟩ := three_facts hA
  have HA := Lib.hid hA
  obtain ⟨c0B, c1B, c2B, z0B, z1B, z2B⟩ := three_facts hB
  have HB := Lib.hid hB
  have HZ := Lib.hid hbz
  clear hb hbz hA hB
  go_wp2_with fail
  refine (same_yes _ _ _ _).mono ?_
  rintro e w4 ⟨rfl, hb⟩
  have hA := keep HA.out hb
  have hB := keep HB.out hb
  have hbz := HZ.out.trans (hb.mono HZ.out.size)
  clear HZ HA HB
  clear c0A c1A c2A z0A z1A z2A c0B c1B c2B z0B z1B z2B
  obtain ⟨c0A, c1A, c2A, z0A, z1A, z2A⟩ := three_facts hA
  have HA := Lib.hid hA
  obtain ⟨c0B, c1B, c2B, z0B, z1B, z2B⟩ := three_facts hB
  have HB := Lib.hid hB
  have HZ := Lib.hid hbz
  clear hb hbz hA hB
  obtain ⟨q0A, q1A, q2A⟩ := three_below HA.out
  obtain ⟨q0B, q1B, q2B⟩ := three_below HB.out
  go_wp2_with fail
  refine wp_region_quiet_below (by kernel_rfl) (by kernel_rfl) ?_
  repeat (quiet_step (first | (go_at_call 16; with_reducible refine Calls.below_of (HQ.out _))))
  refine wpQuiet_nil ?_
  intro _ hw'
  obtain ⟨pq, hw''⟩ := hw'
  subst hw''
  have hA := keep HA.out pq.h
  have hB := keep HB.out pq.h
  have hb := pq.h
  have hbz := HZ.out.trans (hb.mono HZ.out.size)
  clear HZ HA HB
  clear q0A q1A q2A q0B q1B q2B
  generalize pq.x = w5 at *
  clear c0A c1A c2A z0A z1A z2A c0B c1B c2B z0B z1B z2B
  obtain ⟨c0A, c1A, c2A, z0A, z1A, z2A⟩ := three_facts hA
  have HA := Lib.hid hA
  obtain ⟨c0B, c1B, c2B, z0B, z1B, z2B⟩ := three_facts hB
  have HB := Lib.hid hB
  have HZ := Lib.hid hbz
  clear hb hbz hA hB
  go_wp2_with fail
  go_quiet (fail)
  go_wp2_with fail
  go_ret
  exact ⟨rfl, below_drewN HZ.out _⟩
set_option maxRecDepth 100000 in
set_option maxHeartbeats 1000000 in
theorem vs_no1 (k n k' n' : Int) (s s' : ByteArray) (hok : (okB k n s && okB k' n' s') = true) (hk : ¬ k = k') (w : World) : Calls Try.prog 4 #[.agg #[.int .i64 k, .int .i64 n, .string s], .agg #[.int .i64 k', .int .i64 n', .string s']] w fun e w' => e = .returned (.bool true) ∧ Below w.heap.size w w' := by
  have HR : Hid (∀ w, Calls Try.prog 14 #[.slice (some ⟨w.heap.size, 0, none⟩) 2 2] (w.alloc (.cells #[.int .i64 k, .int .i64 n, .string s, .int .i64 k', .int .i64 n', .string s'] 23)) fun e w' => e = .returned (.bool true) ∧ Below w.heap.size w w') := fun w => by have h := right_two k n k' n' s s' 23 w; rw [hok] at h; exact h
  clear hok
  have HS := Lib.hid fun w => same_no k n k' n' s s' (fun h => hk h.1) w
  have ek := beq_no' hk
  have ek' := bne_yes hk
  go_enter Try.func4, Try.ntmps4
  go_wp2_with fail
  refine (tells_any _).mono ?_
  rintro e w1 ⟨rfl, hb⟩
  obtain ⟨hA, hB, hbz⟩ := box2 hb
  obtain ⟨c0A, c1A, c2A, z0A, z1A, z2A⟩ := three_facts hA
  have HA := Lib.hid hA
  obtain ⟨c0B, c1B, c2B, z0B, z1B, z2B⟩ := three_facts hB
  have HB := Lib.hid hB
  have HZ := Lib.hid hbz
  clear hb hbz hA hB
  go_wp2_with fail
  refine (HR.out _).mono ?_
  rintro e w2 ⟨rfl, hb⟩
  have hA := keep HA.out hb
  have hB := keep HB.out hb
  have hbz := HZ.out.trans (hb.mono HZ.out.size)
  clear HZ HA HB
  clear c0A c1A c2A z0A z1A z2A c0B c1B c2B z0B z1B z2B
  obtain ⟨c0A, c1A, c2A, z0A, z1A, z2A⟩ := three_facts hA
  have HA := Lib.hid hA
  obtain ⟨c0B, c1B, c2B, z0B, z1B, z2B⟩ := three_facts hB
  have HB := Lib.hid hB
  have HZ := Lib.hid hbz
  clear hb hbz hA hB
  go_wp2_with fail
  refine (HS.out _).mono ?_
  rintro e w3 ⟨rfl, hb⟩
  have hA := keep HA.out hb
  have hB := keep HB.out hb
  have hbz := HZ.out.trans (hb.mono HZ.out.size)
  clear HZ HA HB
  clear c0A c1A c2A z0A z1A z2A c0B c1B c2B z0B z1B z2B
  obtain ⟨c0A, c1A, c2A, z0A, z1A, z2A⟩ := three_facts hA
  have HA := Lib.hid hA
  obtain ⟨c0B, c1B, c2B, z0B, z1B, z2B⟩ := three_facts hB
  have HB := Lib.hid hB
  have HZ := Lib.hid hbz
  clear hb hbz hA hB
  go_wp2_with fail
  refine (same_yes _ _ _ _).mono ?_
  rintro e w4 ⟨rfl, hb⟩
  have hA := keep HA.out hb
  have hB := keep HB.out hb
  have hbz := HZ.out.trans (hb.mono HZ.out.size)
  clear HZ HA HB
  clear c0A c1A c2A z0A z1A z2A c0B c1B c2B z0B z1B z2B
  obtain ⟨c0A, c1A, c2A, z0A, z1A, z2A⟩ := three_facts hA
  have HA := Lib.hid hA
  obtain ⟨c0B, c1B, c2B, z0B, z1B, z2B⟩ := three_facts hB
  have HB := Lib.hid hB
  have HZ := Lib.hid hbz
  clear hb hbz hA hB
  go_wp2_with fail
  go_quiet (fail)
  go_wp2_with fail
  go_quiet (fail)
  go_wp2_with fail
  go_ret
  exact ⟨rfl, below_drewN (below_drewN HZ.out _) _⟩
set_option maxRecDepth 100000 in
set_option maxHeartbeats 1000000 in
theorem vs_no3 (n : Int) (s s' : ByteArray) (hok : (okB 3 n s && okB 3 n s') = true) (hs : ¬ s = s') (w : World) : Calls Try.prog 4 #[.agg #[.int .i64 3, .int .i64 n, .string s], .agg #[.int .i64 3, .int .i64 n, .string s']] w fun e w' => e = .returned (.bool true) ∧ Below w.heap.size w w' := by
  have HR : Hid (∀ w, Calls Try.prog 14 #[.slice (some ⟨w.heap.size, 0, none⟩) 2 2] (w.alloc (.cells #[.int .i64 3, .int .i64 n, .string s, .int .i64 3, .int .i64 n, .string s'] 23)) fun e w' => e = .returned (.bool true) ∧ Below w.heap.size w w') := fun w => by have h := right_two 3 n 3 n s s' 23 w; rw [hok] at h; exact h
  clear hok
  have HS := Lib.hid fun w => same_no 3 n 3 n s s' (fun h => hs h.2.2) w
  have es : (s.toList == s'.toList) = false := by rw [beq_eq_false_iff_ne]; exact fun e => hs (list_inj e)
  clear hs
  go_enter Try.func4, Try.ntmps4
  go_wp2_with fail
  refine (tells_any _).mono ?_
  rintro e w1 ⟨rfl, hb⟩
  obtain ⟨hA, hB, hbz⟩ := box2 hb
  obtain ⟨c0A, c1A, c2A, z0A, z1A, z2A⟩ := three_facts hA
  have HA := Lib.hid hA
  obtain ⟨c0B, c1B, c2B, z0B, z1B, z2B⟩ := three_facts hB
  have HB := Lib.hid hB
  have HZ := Lib.hid hbz
  clear hb hbz hA hB
  go_wp2_with fail
  refine (HR.out _).mono ?_
  rintro e w2 ⟨rfl, hb⟩
  have hA := keep HA.out hb
  have hB := keep HB.out hb
  have hbz := HZ.out.trans (hb.mono HZ.out.size)
  clear HZ HA HB
  clear c0A c1A c2A z0A z1A z2A c0B c1B c2B z0B z1B z2B
  obtain ⟨c0A, c1A, c2A, z0A, z1A, z2A⟩ := three_facts hA
  have HA := Lib.hid hA
  obtain ⟨c0B, c1B, c2B, z0B, z1B, z2B⟩ := three_facts hB
  have HB := Lib.hid hB
  have HZ := Lib.hid hbz
  clear hb hbz hA hB
  go_wp2_with fail
  refine (HS.out _).mono ?_
  rintro e w3 ⟨rfl, hb⟩
  have hA := keep HA.out hb
  have hB := keep HB.out hb
  have hbz := HZ.out.trans (hb.mono HZ.out.size)
  clear HZ HA HB
  clear c0A c1A c2A z0A z1A z2A c0B c1B c2B z0B z1B z2B
  obtain ⟨c0A, c1A, c2A, z0A, z1A, z2A⟩ := three_facts hA
  have HA := Lib.hid hA
  obtain ⟨c0B, c1B, c2B, z0B, z1B, z2B⟩ := three_facts hB
  have HB := Lib.hid hB
  have HZ := Lib.hid hbz
  clear hb hbz hA hB
  go_wp2_with fail
  refine (same_yes _ _ _ _).mono ?_
  rintro e w4 ⟨rfl, hb⟩
  have hA := keep HA.out hb
  have hB := keep HB.out hb
  have hbz := HZ.out.trans (hb.mono HZ.out.size)
  clear HZ HA HB
  clear c0A c1A c2A z0A z1A z2A c0B c1B c2B z0B z1B z2B
  obtain ⟨c0A, c1A, c2A, z0A, z1A, z2A⟩ := three_facts hA
  have HA := Lib.hid hA
  obtain ⟨c0B, c1B, c2B, z0B, z1B, z2B⟩ := three_facts hB
  have HB := Lib.hid hB
  have HZ := Lib.hid hbz
  clear hb hbz hA hB
  go_wp2_with fail
  go_quiet (fail)
  go_wp2_with fail
  go_quiet (fail)
  go_wp2_with fail
  go_ret
  exact ⟨rfl, below_drewN (below_drewN HZ.out _) _⟩
set_option maxRecDepth 100000 in
set_option maxHeartbeats 1000000 in
theorem vs_no2 (k n n' : Int) (s : ByteArray) (hok : (okB k n s && okB k n' s) = true) (hn : ¬ n = n') (hk : ¬ k = 3) (h h' : Int) (hh : ¬ h = h') (HH : ∀ w, Calls Try.prog 16 #[.agg #[.int .i64 k, .int .i64 n, .string s]] w fun e w' => e = .returned (.int .u64 h) ∧ Below w.heap.size w w') (HH' : ∀ w, Calls Try.prog 16 #[.agg #[.int .i64 k, .int .i64 n', .string s]] w fun e w' => e = .returned (.int .u64 h') ∧ Below w.heap.size w w') (w : World) : Calls Try.prog 4 #[.agg #[.int .i64 k, .int .i64 n, .string s], .agg #[.int .i64 k, .int .i64 n', .string s]] w fun e w' => e = .returned (.bool true) ∧ Below w.heap.size w w' := by
  have HR : Hid (∀ w, Calls Try.prog 14 #[.slice (some ⟨w.heap.size, 0, none⟩) 2 2] (w.alloc (.cells #[.int .i64 k, .int .i64 n, .string s, .int .i64 k, .int .i64 n', .string s] 23)) fun e w' => e = .returned (.bool true) ∧ Below w.heap.size w w') := fun w => by have h := right_two k n k n' s s 23 w; rw [hok] at h; exact h
  clear hok
  have HS := Lib.hid fun w => same_no k n k n' s s (fun h => hn h.2.1) w
  have en := beq_no' hn
  have e3 := beq_no' hk
  have eh := bne_yes hh
  have HQ := Lib.hid HH
  have HQ' := Lib.hid HH'
  go_enter Try.func4, Try.ntmps4
  go_wp2_with fail
  refine (tells_any _).mono ?_
  rintro e w1 ⟨rfl, hb⟩
  obtain ⟨hA, hB, hbz⟩ := box2 hb
  obtain ⟨c0A, c1A, c2A, z0A, z1A, z2A⟩ := three_facts hA
  have HA := Lib.hid hA
  obtain ⟨c0B, c1B, c2B, z0B, z1B, z2B⟩ := three_facts hB
  have HB := Lib.hid hB
  have HZ := Lib.hid hbz
  clear hb hbz hA hB
  go_wp2_with fail
  refine (HR.out _).mono ?_
  rintro e w2 ⟨rfl, hb⟩
  have hA := keep HA.out hb
  have hB := keep HB.out hb
  have hbz := HZ.out.trans (hb.mono HZ.out.size)
  clear HZ HA HB
  clear c0A c1A c2A z0A z1A z2A c0B c1B c2B z0B z1B z2B
  obtain ⟨c0A, c1A, c2A, z0A, z1A, z2A⟩ := three_facts hA
  have HA := Lib.hid hA
  obtain ⟨c0B, c1B, c2B, z0B, z1B, z2B⟩ := three_facts hB
  have HB := Lib.hid hB
  have HZ := Lib.hid hbz
  clear hb hbz hA hB
  go_wp2_with fail
  refine (HS.out _).mono ?_
  rintro e w3 ⟨rfl, hb⟩
  have hA := keep HA.out hb
  have hB := keep HB.out hb
  have hbz := HZ.out.trans (hb.mono HZ.out.size)
  clear HZ HA HB
  clear c0A c1A c2A z0A z1A z2A c0B c1B c2B z0B z1B z2B
  obtain ⟨c0A, c1A, c2A, z0A, z1A, z2A⟩ := three_facts hA
  have HA := Lib.hid hA
  obtain ⟨c0B, c1B, c2B, z0B, z1B, z2B⟩ := three_facts hB
  have HB := Lib.hid hB
  have HZ := Lib.hid hbz
  clear hb hbz hA hB
  go_wp2_with fail
  refine (same_yes _ _ _ _).mono ?_
  rintro e w4 ⟨rfl, hb⟩
  have hA := keep HA.out hb
  have hB := keep HB.out hb
  have hbz := HZ.out.trans (hb.mono HZ.out.size)
  clear HZ HA HB
  clear c0A c1A c2A z0A z1A z2A c0B c1B c2B z0B z1B z2B
  obtain ⟨c0A, c1A, c2A, z0A, z1A, z2A⟩ := three_facts hA
  have HA := Lib.hid hA
  obtain ⟨c0B, c1B, c2B, z0B, z1B, z2B⟩ := three_facts hB
  have HB := Lib.hid hB
  have HZ := Lib.hid hbz
  clear hb hbz hA hB
  go_wp2_with fail
  go_quiet (fail)
  obtain ⟨w9, hw9⟩ : ∃ x, x = w4.drewN nq := ⟨_, rfl⟩
  have hb : Below w4.heap.size w4 w9 := by rw [hw9]; exact below_drewN (Below.refl _ _) _
  rw [← hw9]
  clear hw9
  have hA := keep HA.out hb
  have hB := keep HB.out hb
  have hbz := HZ.out.trans (hb.mono HZ.out.size)
  clear HZ HA HB
  clear c0A c1A c2A z0A z1A z2A c0B c1B c2B z0B z1B z2B
  obtain ⟨c0A, c1A, c2A, z0A, z1A, z2A⟩ := three_facts hA
  have HA := Lib.hid hA
  obtain ⟨c0B, c1B, c2B, z0B, z1B, z2B⟩ := three_facts hB
  have HB := Lib.hid hB
  have HZ := Lib.hid hbz
  clear hb hbz hA hB
  obtain ⟨q0A, q1A, q2A⟩ := three_below HA.out
  obtain ⟨q0B, q1B, q2B⟩ := three_below HB.out
  go_wp2_with fail
  refine wp_region_quiet_below (by kernel_rfl) (by kernel_rfl) ?_
  repeat (quiet_step (first | (go_at_call 16; with_reducible refine Calls.below_of (HQ.out _)) | (go_at_call 16; with_reducible refine Calls.below_of (HQ'.out _))))
  refine wpQuiet_nil ?_
  intro _ hw'
  obtain ⟨pq, hw''⟩ := hw'
  subst hw''
  have hA := keep HA.out pq.h
  have hB := keep HB.out pq.h
  have hb := pq.h
  have hbz := HZ.out.trans (hb.mono HZ.out.size)
  clear HZ HA HB
  clear q0A q1A q2A q0B q1B q2B
  generalize pq.x = w10 at *
  clear c0A c1A c2A z0A z1A z2A c0B c1B c2B z0B z1B z2B
  obtain ⟨c0A, c1A, c2A, z0A, z1A, z2A⟩ := three_facts hA
  have HA := Lib.hid hA
  obtain ⟨c0B, c1B, c2B, z0B, z1B, z2B⟩ := three_facts hB
  have HB := Lib.hid hB
  have HZ := Lib.hid hbz
  clear hb hbz hA hB
  go_wp2_with fail
  go_ret
  exact ⟨rfl, HZ.out⟩

theorem hash_apart {k n n' : Int} (w1 : (Lit.int .i64 n).wf = true) (w2 : (Lit.int .i64 n').wf = true) (hn : ¬ n = n') : ¬ IntKind.u64.wrap (((Nu.hashN (Nu.U n) : Nat) : Int) + k) = IntKind.u64.wrap (((Nu.hashN (Nu.U n') : Nat) : Int) + k) := by
  intro e
  have a1 := Nu.hash_lt (Nu.U n)
  have a2 := Nu.hash_lt (Nu.U n')
  rw [IntKind.wrap_u64, IntKind.wrap_u64] at e
  have e2 : Nu.hashN (Nu.U n) = Nu.hashN (Nu.U n') := by omega
  have e3 := Nu.hash_inj (Nu.U_lt n) (Nu.U_lt n') e2
  have c1 := Nu.U_cast n
  have c2 := Nu.U_cast n'
  obtain ⟨r1, r2⟩ := i64_range w1
  obtain ⟨r3, r4⟩ := i64_range w2
  omega
theorem valueSame_walk (k n : Int) (s : ByteArray) (_ : (Lit.int .i64 k).wf = true) (wn : (Lit.int .i64 n).wf = true) (_ : s.size ≤ maxLen) (k' n' : Int) (s' : ByteArray) (_ : (Lit.int .i64 k').wf = true) (wn' : (Lit.int .i64 n').wf = true) (_ : s'.size ≤ maxLen) (w : World) :
    Calls Try.prog 4 #[.agg #[.int .i64 k, .int .i64 n, .string s], .agg #[.int .i64 k', .int .i64 n', .string s']] w fun e w' => e = .returned (.bool true) ∧ Below w.heap.size w w' := by
  cases hok : okB k n s && okB k' n' s'
  · exact vs_off k n k' n' s s' hok w
  · have hok' := hok
    rw [Bool.and_eq_true] at hok'
    have R := ok_right hok'.1
    have R' := ok_right hok'.2
    by_cases hk : k = k'
    · subst hk
      by_cases h3 : k = 3
      · subst h3
        have e := R.f3 rfl
        have e' := R'.f3 rfl
        subst e; subst e'
        by_cases hs : s = s'
        · subst hs
          obtain ⟨h, hh⟩ := hash_str 0 s (by have := R.sz; omega)
          exact vs_yes3 0 s hok h hh w
        · exact vs_no3 0 s s' hok hs w
      · have e := R.em h3
        have e' := R'.em h3
        subst e; subst e'
        have hh := fun n w => hash_num k n ⟨#[]⟩ R.k0 R.k4 h3 w
        by_cases hn : n = n'
        · subst hn
          exact vs_yes k n _ hok _ (hh n) h3 w
        · exact vs_no2 k n n' _ hok hn h3 _ _ (hash_apart wn wn' hn) (hh n) (hh n') w
    · exact vs_no1 k n k' n' s s' hok hk w
end Go.Proofs.Ythmeehmobcaadaa.Va
