/- 'ValueReckons': the walk. -/
import Derived.Test.YthmeehmobcaadaaVal9
namespace Go.Proofs.Ythmeehmobcaadaa.Va
open Go.RowKit Go.ChangeShapes Go.WideShapes Go.ChangeAt

set_option maxRecDepth 100000 in
set_option maxHeartbeats 1000000 in
theorem vr_off (op k n k' n' : Int) (s s' : ByteArray) (hok : (okB k n s && okB k' n' s') = false) (w : World) : Calls Try.prog 8 #[.int .i64 op, .agg #[.int .i64 k, .int .i64 n, .string s], .agg #[.int .i64 k', .int .i64 n', .string s']] w fun e w' => e = .returned (.bool true) ∧ Below w.heap.size w w' := by
  have HR : Hid (∀ w, Calls Try.prog 14 #[.slice (some ⟨w.heap.size, 0, none⟩) 2 2] (w.alloc (.cells #[.int .i64 k, .int .i64 n, .string s, .int .i64 k', .int .i64 n', .string s'] 23)) fun e w' => e = .returned (.bool false) ∧ Below w.heap.size w w') := fun w => by have h := right_two k n k' n' s s' 23 w; rw [hok] at h; exact h
  clear hok
  go_enter Try.func8, Try.ntmps8
  go_wp2_with fail
  refine (tells_any _).mono ?_
  rintro e w1 ⟨rfl, hb⟩
  obtain ⟨hA, hB, hbz⟩ := box2 hb
  obtain ⟨c0A, c1A, c2A, z0A, z1A, z2A⟩ := three_facts hA
  have HA := Lib.hid hA
  obtain ⟨c0B, c1B, c2B, z0B, z1B, z2B⟩ := three_facts hB
  have HB := Lib.hid hB
  have HZ := Lib.hid hbz
  clear hb hbz hA hB
  go_wp2_with fail
  refine (HR.out _).mono ?_
  rintro e w2 ⟨rfl, hb⟩
  have hA := keep HA.out hb
  have hB := keep HB.out hb
  have hbz := HZ.out.trans (hb.mono HZ.out.size)
  clear HZ HA HB
  clear c0A c1A c2A z0A z1A z2A c0B c1B c2B z0B z1B z2B
  obtain ⟨c0A, c1A, c2A, z0A, z1A, z2A⟩ := three_facts hA
  have HA := Lib.hid hA
  obtain ⟨c0B, c1B, c2B, z0B, z1B, z2B⟩ := three_facts hB
  have HB := Lib.hid hB
  have HZ := Lib.hid hbz
  clear hb hbz hA hB
  go_wp2_with fail
  go_ret
  exact ⟨rfl, HZ.out⟩
set_option maxRecDepth 100000 in
set_option maxHeartbeats 1000000 in
theorem vr_low (op k n k' n' : Int) (s s' : ByteArray) (h : op < 0) (hok : (okB k n s && okB k' n' s') = true) (HD : ∀ w, Calls Try.prog 30 #[.int .i64 op, .agg #[.int .i64 k, .int .i64 n, .string s], .agg #[.int .i64 k', .int .i64 n', .string s']] w fun e w' => e = .returned (.tuple #[.agg #[.int .i64 0, .int .i64 0, .string ⟨#[]⟩], .int .i64 1]) ∧ Below w.heap.size w w') (w : World) : Calls Try.prog 8 #[.int .i64 op, .agg #[.int .i64 k, .int .i64 n, .string s], .agg #[.int .i64 k', .int .i64 n', .string s']] w fun e w' => e = .returned (.bool true) ∧ Below w.heap.size w w' := by
  have HR : Hid (∀ w, Calls Try.prog 14 #[.slice (some ⟨w.heap.size, 0, none⟩) 2 2] (w.alloc (.cells #[.int .i64 k, .int .i64 n, .string s, .int .i64 k', .int .i64 n', .string s'] 23)) fun e w' => e = .returned (.bool true) ∧ Below w.heap.size w w') := fun w => by have h := right_two k n k' n' s s' 23 w; rw [hok] at h; exact h
  clear hok
  have HD := Lib.hid HD
  go_enter Try.func8, Try.ntmps8
  go_wp2_with fail
  refine (tells_any _).mono ?_
  rintro e w1 ⟨rfl, hb⟩
  obtain ⟨hA, hB, hbz⟩ := box2 hb
  obtain ⟨c0A, c1A, c2A, z0A, z1A, z2A⟩ := three_facts hA
  have HA := Lib.hid hA
  obtain ⟨c0B, c1B, c2B, z0B, z1B, z2B⟩ := three_facts hB
  have HB := Lib.hid hB
  have HZ := Lib.hid hbz
  clear hb hbz hA hB
  go_wp2_with fail
  refine (HR.out _).mono ?_
  rintro e w2 ⟨rfl, hb⟩
  have hA := keep HA.out hb
  have hB := keep HB.out hb
  have hbz := HZ.out.trans (hb.mono HZ.out.size)
  clear HZ HA HB
  clear c0A c1A c2A z0A z1A z2A c0B c1B c2B z0B z1B z2B
  obtain ⟨c0A, c1A, c2A, z0A, z1A, z2A⟩ := three_facts hA
  have HA := Lib.hid hA
  obtain ⟨c0B, c1B, c2B, z0B, z1B, z2B⟩ := three_facts hB
  have HB := Lib.hid hB
  have HZ := Lib.hid hbz
  clear hb hbz hA hB
  go_wp2_with fail
  refine (HD.out _).mono ?_
  rintro e w3 ⟨rfl, hb⟩
  have hA := keep HA.out hb
  have hB := keep HB.out hb
  have hbz := HZ.out.trans (hb.mono HZ.out.size)
  clear HZ HA HB
  clear c0A c1A c2A z0A z1A z2A c0B c1B c2B z0B z1B z2B
  obtain ⟨c0A, c1A, c2A, z0A, z1A, z2A⟩ := three_facts hA
  have HA := Lib.hid hA
  obtain ⟨c0B, c1B, c2B, z0B, z1B, z2B⟩ := three_facts hB
  have HB := Lib.hid hB
  have HZ := Lib.hid hbz
  clear hb hbz hA hB
  have hE := (Below.refl w3.heap.size w3).alloc (Nat.le_refl _) (.cells #[.int .i64 0, .int .i64 0, .string ⟨#[]⟩] 23)
  clear c0A c1A c2A z0A z1A z2A c0B c1B c2B z0B z1B z2B
  obtain ⟨c0A, c1A, c2A, z0A, z1A, z2A⟩ := three_facts (keep HA.out hE)
  obtain ⟨c0B, c1B, c2B, z0B, z1B, z2B⟩ := three_facts (keep HB.out hE)
  have GZ := Lib.hid (HZ.out.trans (hE.mono HZ.out.size))
  clear hE
  go_wp2_with fail
  go_ret
  exact ⟨rfl, GZ.out⟩
set_option maxRecDepth 100000 in
set_option maxHeartbeats 1000000 in
theorem vr_high (op k n k' n' : Int) (s s' : ByteArray) (h : ¬ op < 0) (h9 : 10 ≤ op) (hok : (okB k n s && okB k' n' s') = true) (HD : ∀ w, Calls Try.prog 30 #[.int .i64 op, .agg #[.int .i64 k, .int .i64 n, .string s], .agg #[.int .i64 k', .int .i64 n', .string s']] w fun e w' => e = .returned (.tuple #[.agg #[.int .i64 0, .int .i64 0, .string ⟨#[]⟩], .int .i64 1]) ∧ Below w.heap.size w w') (w : World) : Calls Try.prog 8 #[.int .i64 op, .agg #[.int .i64 k, .int .i64 n, .string s], .agg #[.int .i64 k', .int .i64 n', .string s']] w fun e w' => e = .returned (.bool true) ∧ Below w.heap.size w w' := by
  have HR : Hid (∀ w, Calls Try.prog 14 #[.slice (some ⟨w.heap.size, 0, none⟩) 2 2] (w.alloc (.cells #[.int .i64 k, .int .i64 n, .string s, .int .i64 k', .int .i64 n', .string s'] 23)) fun e w' => e = .returned (.bool true) ∧ Below w.heap.size w w') := fun w => by have h := right_two k n k' n' s s' 23 w; rw [hok] at h; exact h
  clear hok
  have HD := Lib.hid HD
  go_enter Try.func8, Try.ntmps8
  go_wp2_with fail
  refine (tells_any _).mono ?_
  rintro e w1 ⟨rfl, hb⟩
  obtain ⟨hA, hB, hbz⟩ := box2 hb
  obtain ⟨c0A, c1A, c2A, z0A, z1A, z2A⟩ := three_facts hA
  have HA := Lib.hid hA
  obtain ⟨c0B, c1B, c2B, z0B, z1B, z2B⟩ := three_facts hB
  have HB := Lib.hid hB
  have HZ := Lib.hid hbz
  clear hb hbz hA hB
  go_wp2_with fail
  refine (HR.out _).mono ?_
  rintro e w2 ⟨rfl, hb⟩
  have hA := keep HA.out hb
  have hB := keep HB.out hb
  have hbz := HZ.out.trans (hb.mono HZ.out.size)
  clear HZ HA HB
  clear c0A c1A c2A z0A z1A z2A c0B c1B c2B z0B z1B z2B
  obtain ⟨c0A, c1A, c2A, z0A, z1A, z2A⟩ := three_facts hA
  have HA := Lib.hid hA
  obtain ⟨c0B, c1B, c2B, z0B, z1B, z2B⟩ := three_facts hB
  have HB := Lib.hid hB
  have HZ := Lib.hid hbz
  clear hb hbz hA hB
  go_wp2_with fail
  refine (HD.out _).mono ?_
  rintro e w3 ⟨rfl, hb⟩
  have hA := keep HA.out hb
  have hB := keep HB.out hb
  have hbz := HZ.out.trans (hb.mono HZ.out.size)
  clear HZ HA HB
  clear c0A c1A c2A z0A z1A z2A c0B c1B c2B z0B z1B z2B
  obtain ⟨c0A, c1A, c2A, z0A, z1A, z2A⟩ := three_facts hA
  have HA := Lib.hid hA
  obtain ⟨c0B, c1B, c2B, z0B, z1B, z2B⟩ := three_facts hB
  have HB := Lib.hid hB
  have HZ := Lib.hid hbz
  clear hb hbz hA hB
  have hE := (Below.refl w3.heap.size w3).alloc (Nat.le_refl _) (.cells #[.int .i64 0, .int .i64 0, .string ⟨#[]⟩] 23)
  clear c0A c1A c2A z0A z1A z2A c0B c1B c2B z0B z1B z2B
  obtain ⟨c0A, c1A, c2A, z0A, z1A, z2A⟩ := three_facts (keep HA.out hE)
  obtain ⟨c0B, c1B, c2B, z0B, z1B, z2B⟩ := three_facts (keep HB.out hE)
  have GZ := Lib.hid (HZ.out.trans (hE.mono HZ.out.size))
  clear hE
  go_wp2_with fail
  go_ret
  exact ⟨rfl, GZ.out⟩
set_option maxRecDepth 100000 in
set_option maxHeartbeats 1000000 in
theorem vr_type1 (op k n k' n' : Int) (s s' : ByteArray) (h : ¬ op < 0) (h9 : ¬ 10 ≤ op) (hk : (k != 2) = true) (hok : (okB k n s && okB k' n' s') = true) (HD : ∀ w, Calls Try.prog 30 #[.int .i64 op, .agg #[.int .i64 k, .int .i64 n, .string s], .agg #[.int .i64 k', .int .i64 n', .string s']] w fun e w' => e = .returned (.tuple #[.agg #[.int .i64 0, .int .i64 0, .string ⟨#[]⟩], .int .i64 30]) ∧ Below w.heap.size w w') (w : World) : Calls Try.prog 8 #[.int .i64 op, .agg #[.int .i64 k, .int .i64 n, .string s], .agg #[.int .i64 k', .int .i64 n', .string s']] w fun e w' => e = .returned (.bool true) ∧ Below w.heap.size w w' := by
  have HR : Hid (∀ w, Calls Try.prog 14 #[.slice (some ⟨w.heap.size, 0, none⟩) 2 2] (w.alloc (.cells #[.int .i64 k, .int .i64 n, .string s, .int .i64 k', .int .i64 n', .string s'] 23)) fun e w' => e = .returned (.bool true) ∧ Below w.heap.size w w') := fun w => by have h := right_two k n k' n' s s' 23 w; rw [hok] at h; exact h
  clear hok
  have HD := Lib.hid HD
  go_enter Try.func8, Try.ntmps8
  go_wp2_with fail
  refine (tells_any _).mono ?_
  rintro e w1 ⟨rfl, hb⟩
  obtain ⟨hA, hB, hbz⟩ := box2 hb
  obtain ⟨c0A, c1A, c2A, z0A, z1A, z2A⟩ := three_facts hA
  have HA := Lib.hid hA
  obtain ⟨c0B, c1B, c2B, z0B, z1B, z2B⟩ := three_facts hB
  have HB := Lib.hid hB
  have HZ := Lib.hid hbz
  clear hb hbz hA hB
  go_wp2_with fail
  refine (HR.out _).mono ?_
  rintro e w2 ⟨rfl, hb⟩
  have hA := keep HA.out hb
  have hB := keep HB.out hb
  have hbz := HZ.out.trans (hb.mono HZ.out.size)
  clear HZ HA HB
  clear c0A c1A c2A z0A z1A z2A c0B c1B c2B z0B z1B z2B
  obtain ⟨c0A, c1A, c2A, z0A, z1A, z2A⟩ := three_facts hA
  have HA := Lib.hid hA
  obtain ⟨c0B, c1B, c2B, z0B, z1B, z2B⟩ := three_facts hB
  have HB := Lib.hid hB
  have HZ := Lib.hid hbz
  clear hb hbz hA hB
  go_wp2_with fail
  refine (HD.out _).mono ?_
  rintro e w3 ⟨rfl, hb⟩
  have hA := keep HA.out hb
  have hB := keep HB.out hb
  have hbz := HZ.out.trans (hb.mono HZ.out.size)
  clear HZ HA HB
  clear c0A c1A c2A z0A z1A z2A c0B c1B c2B z0B z1B z2B
  obtain ⟨c0A, c1A, c2A, z0A, z1A, z2A⟩ := three_facts hA
  have HA := Lib.hid hA
  obtain ⟨c0B, c1B, c2B, z0B, z1B, z2B⟩ := three_facts hB
  have HB := Lib.hid hB
  have HZ := Lib.hid hbz
  clear hb hbz hA hB
  have hE := (Below.refl w3.heap.size w3).alloc (Nat.le_refl _) (.cells #[.int .i64 0, .int .i64 0, .string ⟨#[]⟩] 23)
  clear c0A c1A c2A z0A z1A z2A c0B c1B c2B z0B z1B z2B
  obtain ⟨c0A, c1A, c2A, z0A, z1A, z2A⟩ := three_facts (keep HA.out hE)
  obtain ⟨c0B, c1B, c2B, z0B, z1B, z2B⟩ := three_facts (keep HB.out hE)
  have GZ := Lib.hid (HZ.out.trans (hE.mono HZ.out.size))
  clear hE
  go_wp2_with fail
  go_ret
  exact ⟨rfl, GZ.out⟩
set_option maxRecDepth 100000 in
set_option maxHeartbeats 1000000 in
theorem vr_type2 (op n k' n' : Int) (s s' : ByteArray) (h : ¬ op < 0) (h9 : ¬ 10 ≤ op) (hk : (k' != 2) = true) (hok : (okB 2 n s && okB k' n' s') = true) (HD : ∀ w, Calls Try.prog 30 #[.int .i64 op, .agg #[.int .i64 2, .int .i64 n, .string s], .agg #[.int .i64 k', .int .i64 n', .string s']] w fun e w' => e = .returned (.tuple #[.agg #[.int .i64 0, .int .i64 0, .string ⟨#[]⟩], .int .i64 30]) ∧ Below w.heap.size w w') (w : World) : Calls Try.prog 8 #[.int .i64 op, .agg #[.int .i64 2, .int .i64 n, .string s], .agg #[.int .i64 k', .int .i64 n', .string s']] w fun e w' => e = .returned (.bool true) ∧ Below w.heap.size w w' := by
  have HR : Hid (∀ w, Calls Try.prog 14 #[.slice (some ⟨w.heap.size, 0, none⟩) 2 2] (w.alloc (.cells #[.int .i64 2, .int .i64 n, .string s, .int .i64 k', .int .i64 n', .string s'] 23)) fun e w' => e = .returned (.bool true) ∧ Below w.heap.size w w') := fun w => by have h := right_two 2 n k' n' s s' 23 w; rw [hok] at h; exact h
  clear hok
  have HD := Lib.hid HD
  go_enter Try.func8, Try.ntmps8
  go_wp2_with fail
  refine (tells_any _).mono ?_
  rintro e w1 ⟨rfl, hb⟩
  obtain ⟨hA, hB, hbz⟩ := box2 hb
  obtain ⟨c0A, c1A, c2A, z0A, z1A, z2A⟩ := three_facts hA
  have HA := Lib.hid hA
  obtain ⟨c0B, c1B, c2B, z0B, z1B, z2B⟩ := three_facts hB
  have HB := Lib.hid hB
  have HZ := Lib.hid hbz
  clear hb hbz hA hB
  go_wp2_with fail
  refine (HR.out _).mono ?_
  rintro e w2 ⟨rfl, hb⟩
  have hA := keep HA.out hb
  have hB := keep HB.out hb
  have hbz := HZ.out.trans (hb.mono HZ.out.size)
  clear HZ HA HB
  clear c0A c1A c2A z0A z1A z2A c0B c1B c2B z0B z1B z2B
  obtain ⟨c0A, c1A, c2A, z0A, z1A, z2A⟩ := three_facts hA
  have HA := Lib.hid hA
  obtain ⟨c0B, c1B, c2B, z0B, z1B, z2B⟩ := three_facts hB
  have HB := Lib.hid hB
  have HZ := Lib.hid hbz
  clear hb hbz hA hB
  go_wp2_with fail
  refine (HD.out _).mono ?_
  rintro e w3 ⟨rfl, hb⟩
  have hA := keep HA.out hb
  have hB := keep HB.out hb
  have hbz := HZ.out.trans (hb.mono HZ.out.size)
  clear HZ HA HB
  clear c0A c1A c2A z0A z1A z2A c0B c1B c2B z0B z1B z2B
  obtain ⟨c0A, c1A, c2A, z0A, z1A, z2A⟩ := three_facts hA
  have HA := Lib.hid hA
  obtain ⟨c0B, c1B, c2B, z0B, z1B, z2B⟩ := three_facts hB
  have HB := Lib.hid hB
  have HZ := Lib.hid hbz
  clear hb hbz hA hB
  have hE := (Below.refl w3.heap.size w3).alloc (Nat.le_refl _) (.cells #[.int .i64 0, .int .i64 0, .string ⟨#[]⟩] 23)
  clear c0A c1A c2A z0A z1A z2A c0B c1B c2B z0B z1B z2B
  obtain ⟨c0A, c1A, c2A, z0A, z1A, z2A⟩ := three_facts (keep HA.out hE)
  obtain ⟨c0B, c1B, c2B, z0B, z1B, z2B⟩ := three_facts (keep HB.out hE)
  have GZ := Lib.hid (HZ.out.trans (hE.mono HZ.out.size))
  clear hE
  go_wp2_with fail
  go_ret
  exact ⟨rfl, GZ.out⟩
theorem A.ix10_0 (w : World) (v0 v1 v2 v3 v4 v5 v6 v7 v8 v9 : Int) : (Instr.index 52 (.agg #[.int .i64 v0, .int .i64 v1, .int .i64 v2, .int .i64 v3, .int .i64 v4, .int .i64 v5, .int .i64 v6, .int .i64 v7, .int .i64 v8, .int .i64 v9]) (.int .i64 0)).run Try.prog w = .ok (.int .i64 v0) w := by
  simp [Instr.index, run_underlying Try.underlying52, asIntOf, go_sem]
theorem A.ix10_1 (w : World) (v0 v1 v2 v3 v4 v5 v6 v7 v8 v9 : Int) : (Instr.index 52 (.agg #[.int .i64 v0, .int .i64 v1, .int .i64 v2, .int .i64 v3, .int .i64 v4, .int .i64 v5, .int .i64 v6, .int .i64 v7, .int .i64 v8, .int .i64 v9]) (.int .i64 1)).run Try.prog w = .ok (.int .i64 v1) w := by
  simp [Instr.index, run_underlying Try.underlying52, asIntOf, go_sem]
theorem A.ix10_2 (w : World) (v0 v1 v2 v3 v4 v5 v6 v7 v8 v9 : Int) : (Instr.index 52 (.agg #[.int .i64 v0, .int .i64 v1, .int .i64 v2, .int .i64 v3, .int .i64 v4, .int .i64 v5, .int .i64 v6, .int .i64 v7, .int .i64 v8, .int .i64 v9]) (.int .i64 2)).run Try.prog w = .ok (.int .i64 v2) w := by
  simp [Instr.index, run_underlying Try.underlying52, asIntOf, go_sem]
theorem A.ix10_3 (w : World) (v0 v1 v2 v3 v4 v5 v6 v7 v8 v9 : Int) : (Instr.index 52 (.agg #[.int .i64 v0, .int .i64 v1, .int .i64 v2, .int .i64 v3, .int .i64 v4, .int .i64 v5, .int .i64 v6, .int .i64 v7, .int .i64 v8, .int .i64 v9]) (.int .i64 3)).run Try.prog w = .ok (.int .i64 v3) w := by
  simp [Instr.index, run_underlying Try.underlying52, asIntOf, go_sem]
theorem A.ix10_4 (w : World) (v0 v1 v2 v3 v4 v5 v6 v7 v8 v9 : Int) : (Instr.index 52 (.agg #[.int .i64 v0, .int .i64 v1, .int .i64 v2, .int .i64 v3, .int .i64 v4, .int .i64 v5, .int .i64 v6, .int .i64 v7, .int .i64 v8, .int .i64 v9]) (.int .i64 4)).run Try.prog w = .ok (.int .i64 v4) w := by
  simp [Instr.index, run_underlying Try.underlying52, asIntOf, go_sem]
theorem A.ix10_5 (w : World) (v0 v1 v2 v3 v4 v5 v6 v7 v8 v9 : Int) : (Instr.index 52 (.agg #[.int .i64 v0, .int .i64 v1, .int .i64 v2, .int .i64 v3, .int .i64 v4, .int .i64 v5, .int .i64 v6, .int .i64 v7, .int .i64 v8, .int .i64 v9]) (.int .i64 5)).run Try.prog w = .ok (.int .i64 v5) w := by
  simp [Instr.index, run_underlying Try.underlying52, asIntOf, go_sem]
theorem A.ix10_6 (w : World) (v0 v1 v2 v3 v4 v5 v6 v7 v8 v9 : Int) : (Instr.index 52 (.agg #[.int .i64 v0, .int .i64 v1, .int .i64 v2, .int .i64 v3, .int .i64 v4, .int .i64 v5, .int .i64 v6, .int .i64 v7, .int .i64 v8, .int .i64 v9]) (.int .i64 6)).run Try.prog w = .ok (.int .i64 v6) w := by
  simp [Instr.index, run_underlying Try.underlying52, asIntOf, go_sem]
theorem A.ix10_7 (w : World) (v0 v1 v2 v3 v4 v5 v6 v7 v8 v9 : Int) : (Instr.index 52 (.agg #[.int .i64 v0, .int .i64 v1, .int .i64 v2, .int .i64 v3, .int .i64 v4, .int .i64 v5, .int .i64 v6, .int .i64 v7, .int .i64 v8, .int .i64 v9]) (.int .i64 7)).run Try.prog w = .ok (.int .i64 v7) w := by
  simp [Instr.index, run_underlying Try.underlying52, asIntOf, go_sem]
theorem A.ix10_8 (w : World) (v0 v1 v2 v3 v4 v5 v6 v7 v8 v9 : Int) : (Instr.index 52 (.agg #[.int .i64 v0, .int .i64 v1, .int .i64 v2, .int .i64 v3, .int .i64 v4, .int .i64 v5, .int .i64 v6, .int .i64 v7, .int .i64 v8, .int .i64 v9]) (.int .i64 8)).run Try.prog w = .ok (.int .i64 v8) w := by
  simp [Instr.index, run_underlying Try.underlying52, asIntOf, go_sem]
theorem A.ix10_9 (w : World) (v0 v1 v2 v3 v4 v5 v6 v7 v8 v9 : Int) : (Instr.index 52 (.agg #[.int .i64 v0, .int .i64 v1, .int .i64 v2, .int .i64 v3, .int .i64 v4, .int .i64 v5, .int .i64 v6, .int .i64 v7, .int .i64 v8, .int .i64 v9]) (.int .i64 9)).run Try.prog w = .ok (.int .i64 v9) w := by
  simp [Instr.index, run_underlying Try.underlying52, asIntOf, go_sem]
set_option maxRecDepth 100000 in
set_option maxHeartbeats 2000000 in
theorem vr_op0 (n n' : Int) (s s' : ByteArray) (v0 v1 v2 v3 v4 v5 v6 v7 v8 v9 de : Int) (hok : (okB 2 n s && okB 2 n' s') = true) (HD : ∀ w, Calls Try.prog 30 #[.int .i64 0, .agg #[.int .i64 2, .int .i64 n, .string s], .agg #[.int .i64 2, .int .i64 n', .string s']] w fun e w' => e = .returned (.tuple #[.agg #[.int .i64 2, .int .i64 v0, .string ⟨#[]⟩], .int .i64 0]) ∧ Below w.heap.size w w') (HQ : ∀ w, Calls Try.prog 31 #[.int .i64 n, .int .i64 n'] w fun e w' => e = .returned (.tuple #[.int .i64 v2, .int .i64 de]) ∧ w = w') (HM : ∀ w, Calls Try.prog 32 #[.int .i64 n, .int .i64 n'] w fun e w' => e = .returned (.tuple #[.int .i64 v3, .int .i64 de]) ∧ w = w') (H0 : ∀ w, Calls Try.prog 33 #[.int .i64 n, .int .i64 n'] w fun e w' => e = .returned (.int .i64 v0) ∧ w = w') (H1 : ∀ w, Calls Try.prog 34 #[.int .i64 n, .int .i64 n'] w fun e w' => e = .returned (.int .i64 v1) ∧ w = w') (H4 : ∀ w, Calls Try.prog 35 #[.int .i64 n, .int .i64 n'] w fun e w' => e = .returned (.int .i64 v4) ∧ w = w') (H5 : ∀ w, Calls Try.prog 36 #[.int .i64 n, .int .i64 n'] w fun e w' => e = .returned (.int .i64 v5) ∧ w = w') (H6 : ∀ w, Calls Try.prog 37 #[.int .i64 n, .int .i64 n'] w fun e w' => e = .returned (.int .i64 v6) ∧ w = w') (H7 : ∀ w, Calls Try.prog 38 #[.int .i64 n, .int .i64 n'] w fun e w' => e = .returned (.int .i64 v7) ∧ w = w') (H8 : ∀ w, Calls Try.prog 39 #[.int .i64 n, .int .i64 n'] w fun e w' => e = .returned (.int .i64 v8) ∧ w = w') (H9 : ∀ w, Calls Try.prog 40 #[.int .i64 n, .int .i64 n'] w fun e w' => e = .returned (.int .i64 v9) ∧ w = w') (w : World) : Calls Try.prog 8 #[.int .i64 0, .agg #[.int .i64 2, .int .i64 n, .string s], .agg #[.int .i64 2, .int .i64 n', .string s']] w fun e w' => e = .returned (.bool true) ∧ Below w.heap.size w w' := by
  have HR : Hid (∀ w, Calls Try.prog 14 #[.slice (some ⟨w.heap.size, 0, none⟩) 2 2] (w.alloc (.cells #[.int .i64 2, .int .i64 n, .string s, .int .i64 2, .int .i64 n', .string s'] 23)) fun e w' => e = .returned (.bool true) ∧ Below w.heap.size w w') := fun w => by have h := right_two 2 n 2 n' s s' 23 w; rw [hok] at h; exact h
  clear hok
  have HD := Lib.hid HD
  have HQ := Lib.hid HQ
  have HM := Lib.hid HM
  have H0 := Lib.hid H0
  have H1 := Lib.hid H1
  have H4 := Lib.hid H4
  have H5 := Lib.hid H5
  have H6 := Lib.hid H6
  have H7 := Lib.hid H7
  have H8 := Lib.hid H8
  have H9 := Lib.hid H9
  have HI := Lib.hid fun w => int_any v0 w
  have hix := fun w => A.ix10_0 w v0 v1 v2 v3 v4 v5 v6 v7 v8 v9
  go_enter Try.func8, Try.ntmps8
  go_wp2_with fail
  refine (tells_any _).mono ?_
  rintro e w1 ⟨rfl, hb⟩
  obtain ⟨hA, hB, hbz⟩ := box2 hb
  obtain ⟨c0A, c1A, c2A, z0A, z1A, z2A⟩ := three_facts hA
  have HA := Lib.hid hA
  obtain ⟨c0B, c1B, c2B, z0B, z1B, z2B⟩ := three_facts hB
  have HB := Lib.hid hB
  have HZ := Lib.hid hbz
  clear hb hbz hA hB
  go_wp2_with fail
  refine (HR.out _).mono ?_
  rintro e w2 ⟨rfl, hb⟩
  have hA := keep HA.out hb
  have hB := keep HB.out hb
  have hbz := HZ.out.trans (hb.mono HZ.out.size)
  clear HZ HA HB
  clear c0A c1A c2A z0A z1A z2A c0B c1B c2B z0B z1B z2B
  obtain ⟨c0A, c1A, c2A, z0A, z1A, z2A⟩ := three_facts hA
  have HA := Lib.hid hA
  obtain ⟨c0B, c1B, c2B, z0B, z1B, z2B⟩ := three_facts hB
  have HB := Lib.hid hB
  have HZ := Lib.hid hbz
  clear hb hbz hA hB
  go_wp2_with fail
  refine (HD.out _).mono ?_
  rintro e w3 ⟨rfl, hb⟩
  have hA := keep HA.out hb
  have hB := keep HB.out hb
  have hbz := HZ.out.trans (hb.mono HZ.out.size)
  clear HZ HA HB
  clear c0A c1A c2A z0A z1A z2A c0B c1B c2B z0B z1B z2B
  obtain ⟨c0A, c1A, c2A, z0A, z1A, z2A⟩ := three_facts hA
  have HA := Lib.hid hA
  obtain ⟨c0B, c1B, c2B, z0B, z1B, z2B⟩ := three_facts hB
  have HB := Lib.hid hB
  have HZ := Lib.hid hbz
  clear hb hbz hA hB
  have hE := (Below.refl w3.heap.size w3).alloc (Nat.le_refl _) (.cells #[.int .i64 2, .int .i64 v0, .string ⟨#[]⟩] 23)
  clear c0A c1A c2A z0A z1A z2A c0B c1B c2B z0B z1B z2B
  have gA := keep HA.out hE
  have gB := keep HB.out hE
  have gX := heap_alloc_new w3 (.cells #[.int .i64 2, .int .i64 v0, .string ⟨#[]⟩] 23)
  obtain ⟨c0A, c1A, c2A, z0A, z1A, z2A⟩ := three_facts gA
  have GA := Lib.hid gA
  obtain ⟨c0B, c1B, c2B, z0B, z1B, z2B⟩ := three_facts gB
  have GB := Lib.hid gB
  obtain ⟨c0X, c1X, c2X, z0X, z1X, z2X⟩ := three_facts gX
  have GX := Lib.hid gX
  have GZ := Lib.hid (HZ.out.trans (hE.mono HZ.out.size))
  clear hE HZ gA gB gX HA HB
  go_wp2_with fail
  generalize w3.alloc (.cells #[.int .i64 2, .int .i64 v0, .string ⟨#[]⟩] 23) = w4 at *
  have HA := GA
  have HB := GB
  have HX := GX
  have HZ := GZ
  clear GZ GA GB GX
  go_quiet (fail)
  have hb : Below w4.heap.size w4 (w4.drewN nq) := below_drewN (Below.refl _ _) _
  generalize w4.drewN nq = w5 at *
  have hA := keep HA.out hb
  have hB := keep HB.out hb
  have hX := keep HX.out hb
  have hbz := HZ.out.trans (hb.mono HZ.out.size)
  clear HZ HA HB HX
  clear c0A c1A c2A z0A z1A z2A c0B c1B c2B z0B z1B z2B c0X c1X c2X z0X z1X z2X
  obtain ⟨c0A, c1A, c2A, z0A, z1A, z2A⟩ := three_facts hA
  have HA := Lib.hid hA
  obtain ⟨c0B, c1B, c2B, z0B, z1B, z2B⟩ := three_facts hB
  have HB := Lib.hid hB
  obtain ⟨c0X, c1X, c2X, z0X, z1X, z2X⟩ := three_facts hX
  have HX := Lib.hid hX
  have HZ := Lib.hid hbz
  clear hb hbz hA hB hX
  go_wp2_with fail
  refine (HQ.out _).mono ?_
  rintro e _ ⟨rfl, rfl⟩
  go_wp2_with fail
  refine (HM.out _).mono ?_
  rintro e _ ⟨rfl, rfl⟩
  go_wp2_with fail
  refine (H0.out _).mono ?_
  rintro e _ ⟨rfl, rfl⟩
  go_wp2_with fail
  refine (H1.out _).mono ?_
  rintro e _ ⟨rfl, rfl⟩
  go_wp2_with fail
  refine (H4.out _).mono ?_
  rintro e _ ⟨rfl, rfl⟩
  go_wp2_with fail
  refine (H5.out _).mono ?_
  rintro e _ ⟨rfl, rfl⟩
  go_wp2_with fail
  refine (H6.out _).mono ?_
  rintro e _ ⟨rfl, rfl⟩
  go_wp2_with fail
  refine (H7.out _).mono ?_
  rintro e _ ⟨rfl, rfl⟩
  go_wp2_with fail
  refine (H8.out _).mono ?_
  rintro e _ ⟨rfl, rfl⟩
  go_wp2_with fail
  refine (H9.out _).mono ?_
  rintro e _ ⟨rfl, rfl⟩
  obtain ⟨q0A, q1A, q2A⟩ := three_below HA.out
  obtain ⟨q0B, q1B, q2B⟩ := three_below HB.out
  obtain ⟨q0X, q1X, q2X⟩ := three_below HX.out
  go_wp2_with fail
  refine wp_region_quiet_below (by kernel_rfl) (by kernel_rfl) ?_
  repeat (quiet_step (first | (go_at_call 28; with_reducible refine Calls.below_of (HI.out _))))
  refine wpQuiet_nil ?_
  intro _ hw'
  obtain ⟨pq, hw''⟩ := hw'
  subst hw''
  have hA := keep HA.out pq.h
  have hB := keep HB.out pq.h
  have hX := keep HX.out pq.h
  have hb := pq.h
  have hbz := HZ.out.trans (hb.mono HZ.out.size)
  clear HZ HA HB HX
  clear q0A q1A q2A q0B q1B q2B q0X q1X q2X
  generalize pq.x = w6 at *
  clear c0A c1A c2A z0A z1A z2A c0B c1B c2B z0B z1B z2B c0X c1X c2X z0X z1X z2X
  obtain ⟨c0A, c1A, c2A, z0A, z1A, z2A⟩ := three_facts hA
  have HA := Lib.hid hA
  obtain ⟨c0B, c1B, c2B, z0B, z1B, z2B⟩ := three_facts hB
  have HB := Lib.hid hB
  obtain ⟨c0X, c1X, c2X, z0X, z1X, z2X⟩ := three_facts hX
  have HX := Lib.hid hX
  have HZ := Lib.hid hbz
  clear hb hbz hA hB hX
  go_wp2_with fail
  go_ret
  exact ⟨rfl, HZ.out⟩
set_option maxRecDepth 100000 in
set_option maxHeartbeats 2000000 in
theorem vr_op1 (n n' : Int) (s s' : ByteArray) (v0 v1 v2 v3 v4 v5 v6 v7 v8 v9 de : Int) (hok : (okB 2 n s && okB 2 n' s') = true) (HD : ∀ w, Calls Try.prog 30 #[.int .i64 1, .agg #[.int .i64 2, .int .i64 n, .string s], .agg #[.int .i64 2, .int .i64 n', .string s']] w fun e w' => e = .returned (.tuple #[.agg #[.int .i64 2, .int .i64 v1, .string ⟨#[]⟩], .int .i64 0]) ∧ Below w.heap.size w w') (HQ : ∀ w, Calls Try.prog 31 #[.int .i64 n, .int .i64 n'] w fun e w' => e = .returned (.tuple #[.int .i64 v2, .int .i64 de]) ∧ w = w') (HM : ∀ w, Calls Try.prog 32 #[.int .i64 n, .int .i64 n'] w fun e w' => e = .returned (.tuple #[.int .i64 v3, .int .i64 de]) ∧ w = w') (H0 : ∀ w, Calls Try.prog 33 #[.int .i64 n, .int .i64 n'] w fun e w' => e = .returned (.int .i64 v0) ∧ w = w') (H1 : ∀ w, Calls Try.prog 34 #[.int .i64 n, .int .i64 n'] w fun e w' => e = .returned (.int .i64 v1) ∧ w = w') (H4 : ∀ w, Calls Try.prog 35 #[.int .i64 n, .int .i64 n'] w fun e w' => e = .returned (.int .i64 v4) ∧ w = w') (H5 : ∀ w, Calls Try.prog 36 #[.int .i64 n, .int .i64 n'] w fun e w' => e = .returned (.int .i64 v5) ∧ w = w') (H6 : ∀ w, Calls Try.prog 37 #[.int .i64 n, .int .i64 n'] w fun e w' => e = .returned (.int .i64 v6) ∧ w = w') (H7 : ∀ w, Calls Try.prog 38 #[.int .i64 n, .int .i64 n'] w fun e w' => e = .returned (.int .i64 v7) ∧ w = w') (H8 : ∀ w, Calls Try.prog 39 #[.int .i64 n, .int .i64 n'] w fun e w' => e = .returned (.int .i64 v8) ∧ w = w') (H9 : ∀ w, Calls Try.prog 40 #[.int .i64 n, .int .i64 n'] w fun e w' => e = .returned (.int .i64 v9) ∧ w = w') (w : World) : Calls Try.prog 8 #[.int .i64 1, .agg #[.int .i64 2, .int .i64 n, .string s], .agg #[.int .i64 2, .int .i64 n', .string s']] w fun e w' => e = .returned (.bool true) ∧ Below w.heap.size w w' := by
  have HR : Hid (∀ w, Calls Try.prog 14 #[.slice (some ⟨w.heap.size, 0, none⟩) 2 2] (w.alloc (.cells #[.int .i64 2, .int .i64 n, .string s, .int .i64 2, .int .i64 n', .string s'] 23)) fun e w' => e = .returned (.bool true) ∧ Below w.heap.size w w') := fun w => by have h := right_two 2 n 2 n' s s' 23 w; rw [hok] at h; exact h
  clear hok
  have HD := Lib.hid HD
  have HQ := Lib.hid HQ
  have HM := Lib.hid HM
  have H0 := Lib.hid H0
  have H1 := Lib.hid H1
  have H4 := Lib.hid H4
  have H5 := Lib.hid H5
  have H6 := Lib.hid H6
  have H7 := Lib.hid H7
  have H8 := Lib.hid H8
  have H9 := Lib.hid H9
  have HI := Lib.hid fun w => int_any v1 w
  have hix := fun w => A.ix10_1 w v0 v1 v2 v3 v4 v5 v6 v7 v8 v9
  go_enter Try.func8, Try.ntmps8
  go_wp2_with fail
  refine (tells_any _).mono ?_
  rintro e w1 ⟨rfl, hb⟩
  obtain ⟨hA, hB, hbz⟩ := box2 hb
  obtain ⟨c0A, c1A, c2A, z0A, z1A, z2A⟩ := three_facts hA
  have HA := Lib.hid hA
  obtain ⟨c0B, c1B, c2B, z0B, z1B, z2B⟩ := three_facts hB
  have HB := Lib.hid hB
  have HZ := Lib.hid hbz
  clear hb hbz hA hB
  go_wp2_with fail
  refine (HR.out _).mono ?_
  rintro e w2 ⟨rfl, hb⟩
  have hA := keep HA.out hb
  have hB := keep HB.out hb
  have hbz := HZ.out.trans (hb.mono HZ.out.size)
  clear HZ HA HB
  clear c0A c1A c2A z0A z1A z2A c0B c1B c2B z0B z1B z2B
  obtain ⟨c0A, c1A, c2A, z0A, z1A, z2A⟩ := three_facts hA
  have HA := Lib.hid hA
  obtain ⟨c0B, c1B, c2B, z0B, z1B, z2B⟩ := three_facts hB
  have HB := Lib.hid hB
  have HZ := Lib.hid hbz
  clear hb hbz hA hB
  go_wp2_with fail
  refine (HD.out _).mono ?_
  rintro e w3 ⟨rfl, hb⟩
  have hA := keep HA.out hb
  have hB := keep HB.out hb
  have hbz := HZ.out.trans (hb.mono HZ.out.size)
  clear HZ HA HB
  clear c0A c1A c2A z0A z1A z2A c0B c1B c2B z0B z1B z2B
  obtain ⟨c0A, c1A, c2A, z0A, z1A, z2A⟩ := three_facts hA
  have HA := Lib.hid hA
  obtain ⟨c0B, c1B, c2B, z0B, z1B, z2B⟩ := three_facts hB
  have HB := Lib.hid hB
  have HZ := Lib.hid hbz
  clear hb hbz hA hB
  have hE := (Below.refl w3.heap.size w3).alloc (Nat.le_refl _) (.cells #[.int .i64 2, .int .i64 v1, .string ⟨#[]⟩] 23)
  clear c0A c1A c2A z0A z1A z2A c0B c1B c2B z0B z1B z2B
  have gA := keep HA.out hE
  have gB := keep HB.out hE
  have gX := heap_alloc_new w3 (.cells #[.int .i64 2, .int .i64 v1, .string ⟨#[]⟩] 23)
  obtain ⟨c0A, c1A, c2A, z0A, z1A, z2A⟩ := three_facts gA
  have GA := Lib.hid gA
  obtain ⟨c0B, c1B, c2B, z0B, z1B, z2B⟩ := three_facts gB
  have GB := Lib.hid gB
  obtain ⟨c0X, c1X, c2X, z0X, z1X, z2X⟩ := three_facts gX
  have GX := Lib.hid gX
  have GZ := Lib.hid (HZ.out.trans (hE.mono HZ.out.size))
  clear hE HZ gA gB gX HA HB
  go_wp2_with fail
  generalize w3.alloc (.cells #[.int .i64 2, .int .i64 v1, .string ⟨#[]⟩] 23) = w4 at *
  have HA := GA
  have HB := GB
  have HX := GX
  have HZ := GZ
  clear GZ GA GB GX
  go_quiet (fail)
  have hb : Below w4.heap.size w4 (w4.drewN nq) := below_drewN (Below.refl _ _) _
  generalize w4.drewN nq = w5 at *
  have hA := keep HA.out hb
  have hB := keep HB.out hb
  have hX := keep HX.out hb
  have hbz := HZ.out.trans (hb.mono HZ.out.size)
  clear HZ HA HB HX
  clear c0A c1A c2A z0A z1A z2A c0B c1B c2B z0B z1B z2B c0X c1X c2X z0X z1X z2X
  obtain ⟨c0A, c1A, c2A, z0A, z1A, z2A⟩ := three_facts hA
  have HA := Lib.hid hA
  obtain ⟨c0B, c1B, c2B, z0B, z1B, z2B⟩ := three_facts hB
  have HB := Lib.hid hB
  obtain ⟨c0X, c1X, c2X, z0X, z1X, z2X⟩ := three_facts hX
  have HX := Lib.hid hX
  have HZ := Lib.hid hbz
  clear hb hbz hA hB hX
  go_wp2_with fail
  refine (HQ.out _).mono ?_
  rintro e _ ⟨rfl, rfl⟩
  go_wp2_with fail
  refine (HM.out _).mono ?_
  rintro e _ ⟨rfl, rfl⟩
  go_wp2_with fail
  refine (H0.out _).mono ?_
  rintro e _ ⟨rfl, rfl⟩
  go_wp2_with fail
  refine (H1.out _).mono ?_
  rintro e _ ⟨rfl, rfl⟩
  go_wp2_with fail
  refine (H4.out _).mono ?_
  rintro e _ ⟨rfl, rfl⟩
  go_wp2_with fail
  refine (H5.out _).mono ?_
  rintro e _ ⟨rfl, rfl⟩
  go_wp2_with fail
  refine (H6.out _).mono ?_
  rintro e _ ⟨rfl, rfl⟩
  go_wp2_with fail
  refine (H7.out _).mono ?_
  rintro e _ ⟨rfl, rfl⟩
  go_wp2_with fail
  refine (H8.out _).mono ?_
  rintro e _ ⟨rfl, rfl⟩
  go_wp2_with fail
  refine (H9.out _).mono ?_
  rintro e _ ⟨rfl, rfl⟩
  obtain ⟨q0A, q1A, q2A⟩ := three_below HA.out
  obtain ⟨q0B, q1B, q2B⟩ := three_below HB.out
  obtain ⟨q0X, q1X, q2X⟩ := three_below HX.out
  go_wp2_with fail
  refine wp_region_quiet_below (by kernel_rfl) (by kernel_rfl) ?_
  repeat (quiet_step (first | (go_at_call 28; with_reducible refine Calls.below_of (HI.out _))))
  refine wpQuiet_nil ?_
  intro _ hw'
  obtain ⟨pq, hw''⟩ := hw'
  subst hw''
  have hA := keep HA.out pq.h
  have hB := keep HB.out pq.h
  have hX := keep HX.out pq.h
  have hb := pq.h
  have hbz := HZ.out.trans (hb.mono HZ.out.size)
  clear HZ HA HB HX
  clear q0A q1A q2A q0B q1B q2B q0X q1X q2X
  generalize pq.x = w6 at *
  clear c0A c1A c2A z0A z1A z2A c0B c1B c2B z0B z1B z2B c0X c1X c2X z0X z1X z2X
  obtain ⟨c0A, c1A, c2A, z0A, z1A, z2A⟩ := three_facts hA
  have HA := Lib.hid hA
  obtain ⟨c0B, c1B, c2B, z0B, z1B, z2B⟩ := three_facts hB
  have HB := Lib.hid hB
  obtain ⟨c0X, c1X, c2X, z0X, z1X, z2X⟩ := three_facts hX
  have HX := Lib.hid hX
  have HZ := Lib.hid hbz
  clear hb hbz hA hB hX
  go_wp2_with fail
  go_ret
  exact ⟨rfl, HZ.out⟩
set_option maxRecDepth 100000 in
set_option maxHeartbeats 2000000 in
theorem vr_op2 (n n' : Int) (s s' : ByteArray) (v0 v1 v2 v3 v4 v5 v6 v7 v8 v9 : Int) (hok : (okB 2 n s && okB 2 n' s') = true) (HD : ∀ w, Calls Try.prog 30 #[.int .i64 2, .agg #[.int .i64 2, .int .i64 n, .string s], .agg #[.int .i64 2, .int .i64 n', .string s']] w fun e w' => e = .returned (.tuple #[.agg #[.int .i64 2, .int .i64 v2, .string ⟨#[]⟩], .int .i64 0]) ∧ Below w.heap.size w w') (HQ : ∀ w, Calls Try.prog 31 #[.int .i64 n, .int .i64 n'] w fun e w' => e = .returned (.tuple #[.int .i64 v2, .int .i64 0]) ∧ w = w') (HM : ∀ w, Calls Try.prog 32 #[.int .i64 n, .int .i64 n'] w fun e w' => e = .returned (.tuple #[.int .i64 v3, .int .i64 0]) ∧ w = w') (H0 : ∀ w, Calls Try.prog 33 #[.int .i64 n, .int .i64 n'] w fun e w' => e = .returned (.int .i64 v0) ∧ w = w') (H1 : ∀ w, Calls Try.prog 34 #[.int .i64 n, .int .i64 n'] w fun e w' => e = .returned (.int .i64 v1) ∧ w = w') (H4 : ∀ w, Calls Try.prog 35 #[.int .i64 n, .int .i64 n'] w fun e w' => e = .returned (.int .i64 v4) ∧ w = w') (H5 : ∀ w, Calls Try.prog 36 #[.int .i64 n, .int .i64 n'] w fun e w' => e = .returned (.int .i64 v5) ∧ w = w') (H6 : ∀ w, Calls Try.prog 37 #[.int .i64 n, .int .i64 n'] w fun e w' => e = .returned (.int .i64 v6) ∧ w = w') (H7 : ∀ w, Calls Try.prog 38 #[.int .i64 n, .int .i64 n'] w fun e w' => e = .returned (.int .i64 v7) ∧ w = w') (H8 : ∀ w, Calls Try.prog 39 #[.int .i64 n, .int .i64 n'] w fun e w' => e = .returned (.int .i64 v8) ∧ w = w') (H9 : ∀ w, Calls Try.prog 40 #[.int .i64 n, .int .i64 n'] w fun e w' => e = .returned (.int .i64 v9) ∧ w = w') (w : World) : Calls Try.prog 8 #[.int .i64 2, .agg #[.int .i64 2, .int .i64 n, .string s], .agg #[.int .i64 2, .int .i64 n', .string s']] w fun e w' => e = .returned (.bool true) ∧ Below w.heap.size w w' := by
  have HR : Hid (∀ w, Calls Try.prog 14 #[.slice (some ⟨w.heap.size, 0, none⟩) 2 2] (w.alloc (.cells #[.int .i64 2, .int .i64 n, .string s, .int .i64 2, .int .i64 n', .string s'] 23)) fun e w' => e = .returned (.bool true) ∧ Below w.heap.size w w') := fun w => by have h := right_two 2 n 2 n' s s' 23 w; rw [hok] at h; exact h
  clear hok
  have HD := Lib.hid HD
  have HQ := Lib.hid HQ
  have HM := Lib.hid HM
  have H0 := Lib.hid H0
  have H1 := Lib.hid H1
  have H4 := Lib.hid H4
  have H5 := Lib.hid H5
  have H6 := Lib.hid H6
  have H7 := Lib.hid H7
  have H8 := Lib.hid H8
  have H9 := Lib.hid H9
  have HI := Lib.hid fun w => int_any v2 w
  have hix := fun w => A.ix10_2 w v0 v1 v2 v3 v4 v5 v6 v7 v8 v9
  go_enter Try.func8, Try.ntmps8
  go_wp2_with fail
  refine (tells_any _).mono ?_
  rintro e w1 ⟨rfl, hb⟩
  obtain ⟨hA, hB, hbz⟩ := box2 hb
  obtain ⟨c0A, c1A, c2A, z0A, z1A, z2A⟩ := three_facts hA
  have HA := Lib.hid hA
  obtain ⟨c0B, c1B, c2B, z0B, z1B, z2B⟩ := three_facts hB
  have HB := Lib.hid hB
  have HZ := Lib.hid hbz
  clear hb hbz hA hB
  go_wp2_with fail
  refine (HR.out _).mono ?_
  rintro e w2 ⟨rfl, hb⟩
  have hA := keep HA.out hb
  have hB := keep HB.out hb
  have hbz := HZ.out.trans (hb.mono HZ.out.size)
  clear HZ HA HB
  clear c0A c1A c2A z0A z1A z2A c0B c1B c2B z0B z1B z2B
  obtain ⟨c0A, c1A, c2A, z0A, z1A, z2A⟩ := three_facts hA
  have HA := Lib.hid hA
  obtain ⟨c0B, c1B, c2B, z0B, z1B, z2B⟩ := three_facts hB
  have HB := Lib.hid hB
  have HZ := Lib.hid hbz
  clear hb hbz hA hB
  go_wp2_with fail
  refine (HD.out _).mono ?_
  rintro e w3 ⟨rfl, hb⟩
  have hA := keep HA.out hb
  have hB := keep HB.out hb
  have hbz := HZ.out.trans (hb.mono HZ.out.size)
  clear HZ HA HB
  clear c0A c1A c2A z0A z1A z2A c0B c1B c2B z0B z1B z2B
  obtain ⟨c0A, c1A, c2A, z0A, z1A, z2A⟩ := three_facts hA
  have HA := Lib.hid hA
  obtain ⟨c0B, c1B, c2B, z0B, z1B, z2B⟩ := three_facts hB
  have HB := Lib.hid hB
  have HZ := Lib.hid hbz
  clear hb hbz hA hB
  have hE := (Below.refl w3.heap.size w3).alloc (Nat.le_refl _) (.cells #[.int .i64 2, .int .i64 v2, .string ⟨#[]⟩] 23)
  clear c0A c1A c2A z0A z1A z2A c0B c1B c2B z0B z1B z2B
  have gA := keep HA.out hE
  have gB := keep HB.out hE
  have gX := heap_alloc_new w3 (.cells #[.int .i64 2, .int .i64 v2, .string ⟨#[]⟩] 23)
  obtain ⟨c0A, c1A, c2A, z0A, z1A, z2A⟩ := three_facts gA
  have GA := Lib.hid gA
  obtain ⟨c0B, c1B, c2B, z0B, z1B, z2B⟩ := three_facts gB
  have GB := Lib.hid gB
  obtain ⟨c0X, c1X, c2X, z0X, z1X, z2X⟩ := three_facts gX
  have GX := Lib.hid gX
  have GZ := Lib.hid (HZ.out.trans (hE.mono HZ.out.size))
  clear hE HZ gA gB gX HA HB
  go_wp2_with fail
  generalize w3.alloc (.cells #[.int .i64 2, .int .i64 v2, .string ⟨#[]⟩] 23) = w4 at *
  have HA := GA
  have HB := GB
  have HX := GX
  have HZ := GZ
  clear GZ GA GB GX
  go_quiet (fail)
  have hb : Below w4.heap.size w4 (w4.drewN nq) := below_drewN (Below.refl _ _) _
  generalize w4.drewN nq = w5 at *
  have hA := keep HA.out hb
  have hB := keep HB.out hb
  have hX := keep HX.out hb
  have hbz := HZ.out.trans (hb.mono HZ.out.size)
  clear HZ HA HB HX
  clear c0A c1A c2A z0A z1A z2A c0B c1B c2B z0B z1B z2B c0X c1X c2X z0X z1X z2X
  obtain ⟨c0A, c1A, c2A, z0A, z1A, z2A⟩ := three_facts hA
  have HA := Lib.hid hA
  obtain ⟨c0B, c1B, c2B, z0B, z1B, z2B⟩ := three_facts hB
  have HB := Lib.hid hB
  obtain ⟨c0X, c1X, c2X, z0X, z1X, z2X⟩ := three_facts hX
  have HX := Lib.hid hX
  have HZ := Lib.hid hbz
  clear hb hbz hA hB hX
  go_wp2_with fail
  refine (HQ.out _).mono ?_
  rintro e _ ⟨rfl, rfl⟩
  go_wp2_with fail
  refine (HM.out _).mono ?_
  rintro e _ ⟨rfl, rfl⟩
  go_wp2_with fail
  refine (H0.out _).mono ?_
  rintro e _ ⟨rfl, rfl⟩
  go_wp2_with fail
  refine (H1.out _).mono ?_
  rintro e _ ⟨rfl, rfl⟩
  go_wp2_with fail
  refine (H4.out _).mono ?_
  rintro e _ ⟨rfl, rfl⟩
  go_wp2_with fail
  refine (H5.out _).mono ?_
  rintro e _ ⟨rfl, rfl⟩
  go_wp2_with fail
  refine (H6.out _).mono ?_
  rintro e _ ⟨rfl, rfl⟩
  go_wp2_with fail
  refine (H7.out _).mono ?_
  rintro e _ ⟨rfl, rfl⟩
  go_wp2_with fail
  refine (H8.out _).mono ?_
  rintro e _ ⟨rfl, rfl⟩
  go_wp2_with fail
  refine (H9.out _).mono ?_
  rintro e _ ⟨rfl, rfl⟩
  obtain ⟨q0A, q1A, q2A⟩ := three_below HA.out
  obtain ⟨q0B, q1B, q2B⟩ := three_below HB.out
  obtain ⟨q0X, q1X, q2X⟩ := three_below HX.out
  go_wp2_with fail
  refine wp_region_quiet_below (by kernel_rfl) (by kernel_rfl) ?_
  repeat (quiet_step (first | (go_at_call 28; with_reducible refine Calls.below_of (HI.out _))))
  refine wpQuiet_nil ?_
  intro _ hw'
  obtain ⟨pq, hw''⟩ := hw'
  subst hw''
  have hA := keep HA.out pq.h
  have hB := keep HB.out pq.h
  have hX := keep HX.out pq.h
  have hb := pq.h
  have hbz := HZ.out.trans (hb.mono HZ.out.size)
  clear HZ HA HB HX
  clear q0A q1A q2A q0B q1B q2B q0X q1X q2X
  generalize pq.x = w6 at *
  clear c0A c1A c2A z0A z1A z2A c0B c1B c2B z0B z1B z2B c0X c1X c2X z0X z1X z2X
  obtain ⟨c0A, c1A, c2A, z0A, z1A, z2A⟩ := three_facts hA
  have HA := Lib.hid hA
  obtain ⟨c0B, c1B, c2B, z0B, z1B, z2B⟩ := three_facts hB
  have HB := Lib.hid hB
  obtain ⟨c0X, c1X, c2X, z0X, z1X, z2X⟩ := three_facts hX
  have HX := Lib.hid hX
  have HZ := Lib.hid hbz
  clear hb hbz hA hB hX
  go_wp2_with fail
  go_ret
  exact ⟨rfl, HZ.out⟩
set_option maxRecDepth 100000 in
set_option maxHeartbeats 2000000 in
theorem vr_op2e (n n' : Int) (s s' : ByteArray) (v0 v1 v2 v3 v4 v5 v6 v7 v8 v9 : Int) (hok : (okB 2 n s && okB 2 n' s') = true) (HD : ∀ w, Calls Try.prog 30 #[.int .i64 2, .agg #[.int .i64 2, .int .i64 n, .string s], .agg #[.int .i64 2, .int .i64 n', .string s']] w fun e w' => e = .returned (.tuple #[.agg #[.int .i64 0, .int .i64 0, .string ⟨#[]⟩], .int .i64 10]) ∧ Below w.heap.size w w') (HQ : ∀ w, Calls Try.prog 31 #[.int .i64 n, .int .i64 n'] w fun e w' => e = .returned (.tuple #[.int .i64 v2, .int .i64 10]) ∧ w = w') (HM : ∀ w, Calls Try.prog 32 #[.int .i64 n, .int .i64 n'] w fun e w' => e = .returned (.tuple #[.int .i64 v3, .int .i64 10]) ∧ w = w') (H0 : ∀ w, Calls Try.prog 33 #[.int .i64 n, .int .i64 n'] w fun e w' => e = .returned (.int .i64 v0) ∧ w = w') (H1 : ∀ w, Calls Try.prog 34 #[.int .i64 n, .int .i64 n'] w fun e w' => e = .returned (.int .i64 v1) ∧ w = w') (H4 : ∀ w, Calls Try.prog 35 #[.int .i64 n, .int .i64 n'] w fun e w' => e = .returned (.int .i64 v4) ∧ w = w') (H5 : ∀ w, Calls Try.prog 36 #[.int .i64 n, .int .i64 n'] w fun e w' => e = .returned (.int .i64 v5) ∧ w = w') (H6 : ∀ w, Calls Try.prog 37 #[.int .i64 n, .int .i64 n'] w fun e w' => e = .returned (.int .i64 v6) ∧ w = w') (H7 : ∀ w, Calls Try.prog 38 #[.int .i64 n, .int .i64 n'] w fun e w' => e = .returned (.int .i64 v7) ∧ w = w') (H8 : ∀ w, Calls Try.prog 39 #[.int .i64 n, .int .i64 n'] w fun e w' => e = .returned (.int .i64 v8) ∧ w = w') (H9 : ∀ w, Calls Try.prog 40 #[.int .i64 n, .int .i64 n'] w fun e w' => e = .returned (.int .i64 v9) ∧ w = w') (w : World) : Calls Try.prog 8 #[.int .i64 2, .agg #[.int .i64 2, .int .i64 n, .string s], .agg #[.int .i64 2, .int .i64 n', .string s']] w fun e w' => e = .returned (.bool true) ∧ Below w.heap.size w w' := by
  have HR : Hid (∀ w, Calls Try.prog 14 #[.slice (some ⟨w.heap.size, 0, none⟩) 2 2] (w.alloc (.cells #[.int .i64 2, .int .i64 n, .string s, .int .i64 2, .int .i64 n', .string s'] 23)) fun e w' => e = .returned (.bool true) ∧ Below w.heap.size w w') := fun w => by have h := right_two 2 n 2 n' s s' 23 w; rw [hok] at h; exact h
  clear hok
  have HD := Lib.hid HD
  have HQ := Lib.hid HQ
  have HM := Lib.hid HM
  have H0 := Lib.hid H0
  have H1 := Lib.hid H1
  have H4 := Lib.hid H4
  have H5 := Lib.hid H5
  have H6 := Lib.hid H6
  have H7 := Lib.hid H7
  have H8 := Lib.hid H8
  have H9 := Lib.hid H9
  have HI := Lib.hid fun w => int_any v2 w
  have hix := fun w => A.ix10_2 w v0 v1 v2 v3 v4 v5 v6 v7 v8 v9
  go_enter Try.func8, Try.ntmps8
  go_wp2_with fail
  refine (tells_any _).mono ?_
  rintro e w1 ⟨rfl, hb⟩
  obtain ⟨hA, hB, hbz⟩ := box2 hb
  obtain ⟨c0A, c1A, c2A, z0A, z1A, z2A⟩ := three_facts hA
  have HA := Lib.hid hA
  obtain ⟨c0B, c1B, c2B, z0B, z1B, z2B⟩ := three_facts hB
  have HB := Lib.hid hB
  have HZ := Lib.hid hbz
  clear hb hbz hA hB
  go_wp2_with fail
  refine (HR.out _).mono ?_
  rintro e w2 ⟨rfl, hb⟩
  have hA := keep HA.out hb
  have hB := keep HB.out hb
  have hbz := HZ.out.trans (hb.mono HZ.out.size)
  clear HZ HA HB
  clear c0A c1A c2A z0A z1A z2A c0B c1B c2B z0B z1B z2B
  obtain ⟨c0A, c1A, c2A, z0A, z1A, z2A⟩ := three_facts hA
  have HA := Lib.hid hA
  obtain ⟨c0B, c1B, c2B, z0B, z1B, z2B⟩ := three_facts hB
  have HB := Lib.hid hB
  have HZ := Lib.hid hbz
  clear hb hbz hA hB
  go_wp2_with fail
  refine (HD.out _).mono ?_
  rintro e w3 ⟨rfl, hb⟩
  have hA := keep HA.out hb
  have hB := keep HB.out hb
  have hbz := HZ.out.trans (hb.mono HZ.out.size)
  clear HZ HA HB
  clear c0A c1A c2A z0A z1A z2A c0B c1B c2B z0B z1B z2B
  obtain ⟨c0A, c1A, c2A, z0A, z1A, z2A⟩ := three_facts hA
  have HA := Lib.hid hA
  obtain ⟨c0B, c1B, c2B, z0B, z1B, z2B⟩ := three_facts hB
  have HB := Lib.hid hB
  have HZ := Lib.hid hbz
  clear hb hbz hA hB
  have hE := (Below.refl w3.heap.size w3).alloc (Nat.le_refl _) (.cells #[.int .i64 0, .int .i64 0, .string ⟨#[]⟩] 23)
  clear c0A c1A c2A z0A z1A z2A c0B c1B c2B z0B z1B z2B
  have gA := keep HA.out hE
  have gB := keep HB.out hE
  have gX := heap_alloc_new w3 (.cells #[.int .i64 0, .int .i64 0, .string ⟨#[]⟩] 23)
  obtain ⟨c0A, c1A, c2A, z0A, z1A, z2A⟩ := three_facts gA
  have GA := Lib.hid gA
  obtain ⟨c0B, c1B, c2B, z0B, z1B, z2B⟩ := three_facts gB
  have GB := Lib.hid gB
  obtain ⟨c0X, c1X, c2X, z0X, z1X, z2X⟩ := three_facts gX
  have GX := Lib.hid gX
  have GZ := Lib.hid (HZ.out.trans (hE.mono HZ.out.size))
  clear hE HZ gA gB gX HA HB
  go_wp2_with fail
  generalize w3.alloc (.cells #[.int .i64 0, .int .i64 0, .string ⟨#[]⟩] 23) = w4 at *
  have HA := GA
  have HB := GB
  have HX := GX
  have HZ := GZ
  clear GZ GA GB GX
  go_quiet (fail)
  have hb : Below w4.heap.size w4 (w4.drewN nq) := below_drewN (Below.refl _ _) _
  generalize w4.drewN nq = w5 at *
  have hA := keep HA.out hb
  have hB := keep HB.out hb
  have hX := keep HX.out hb
  have hbz := HZ.out.trans (hb.mono HZ.out.size)
  clear HZ HA HB HX
  clear c0A c1A c2A z0A z1A z2A c0B c1B c2B z0B z1B z2B c0X c1X c2X z0X z1X z2X
  obtain ⟨c0A, c1A, c2A, z0A, z1A, z2A⟩ := three_facts hA
  have HA := Lib.hid hA
  obtain ⟨c0B, c1B, c2B, z0B, z1B, z2B⟩ := three_facts hB
  have HB := Lib.hid hB
  obtain ⟨c0X, c1X, c2X, z0X, z1X, z2X⟩ := three_facts hX
  have HX := Lib.hid hX
  have HZ := Lib.hid hbz
  clear hb hbz hA hB hX
  go_wp2_with fail
  refine (HQ.out _).mono ?_
  rintro e _ ⟨rfl, rfl⟩
  go_wp2_with fail
  refine (HM.out _).mono ?_
  rintro e _ ⟨rfl, rfl⟩
  go_wp2_with fail
  go_ret
  exact ⟨rfl, HZ.out⟩
set_option maxRecDepth 100000 in
set_option maxHeartbeats 2000000 in
theorem vr_op3 (n n' : Int) (s s' : ByteArray) (v0 v1 v2 v3 v4 v5 v6 v7 v8 v9 : Int) (hok : (okB 2 n s && okB 2 n' s') = true) (HD : ∀ w, Calls Try.prog 30 #[.int .i64 3, .agg #[.int .i64 2, .int .i64 n, .string s], .agg #[.int .i64 2, .int .i64 n', .string s']] w fun e w' => e = .returned (.tuple #[.agg #[.int .i64 2, .int .i64 v3, .string ⟨#[]⟩], .int .i64 0]) ∧ Below w.heap.size w w') (HQ : ∀ w, Calls Try.prog 31 #[.int .i64 n, .int .i64 n'] w fun e w' => e = .returned (.tuple #[.int .i64 v2, .int .i64 0]) ∧ w = w') (HM : ∀ w, Calls Try.prog 32 #[.int .i64 n, .int .i64 n'] w fun e w' => e = .returned (.tuple #[.int .i64 v3, .int .i64 0]) ∧ w = w') (H0 : ∀ w, Calls Try.prog 33 #[.int .i64 n, .int .i64 n'] w fun e w' => e = .returned (.int .i64 v0) ∧ w = w') (H1 : ∀ w, Calls Try.prog 34 #[.int .i64 n, .int .i64 n'] w fun e w' => e = .returned (.int .i64 v1) ∧ w = w') (H4 : ∀ w, Calls Try.prog 35 #[.int .i64 n, .int .i64 n'] w fun e w' => e = .returned (.int .i64 v4) ∧ w = w') (H5 : ∀ w, Calls Try.prog 36 #[.int .i64 n, .int .i64 n'] w fun e w' => e = .returned (.int .i64 v5) ∧ w = w') (H6 : ∀ w, Calls Try.prog 37 #[.int .i64 n, .int .i64 n'] w fun e w' => e = .returned (.int .i64 v6) ∧ w = w') (H7 : ∀ w, Calls Try.prog 38 #[.int .i64 n, .int .i64 n'] w fun e w' => e = .returned (.int .i64 v7) ∧ w = w') (H8 : ∀ w, Calls Try.prog 39 #[.int .i64 n, .int .i64 n'] w fun e w' => e = .returned (.int .i64 v8) ∧ w = w') (H9 : ∀ w, Calls Try.prog 40 #[.int .i64 n, .int .i64 n'] w fun e w' => e = .returned (.int .i64 v9) ∧ w = w') (w : World) : Calls Try.prog 8 #[.int .i64 3, .agg #[.int .i64 2, .int .i64 n, .string s], .agg #[.int .i64 2, .int .i64 n', .string s']] w fun e w' => e = .returned (.bool true) ∧ Below w.heap.size w w' := by
  have HR : Hid (∀ w, Calls Try.prog 14 #[.slice (some ⟨w.heap.size, 0, none⟩) 2 2] (w.alloc (.cells #[.int .i64 2, .int .i64 n, .string s, .int .i64 2, .int .i64 n', .string s'] 23)) fun e w' => e = .returned (.bool true) ∧ Below w.heap.size w w') := fun w => by have h := right_two 2 n 2 n' s s' 23 w; rw [hok] at h; exact h
  clear hok
  have HD := Lib.hid HD
  have HQ := Lib.hid HQ
  have HM := Lib.hid HM
  have H0 := Lib.hid H0
  have H1 := Lib.hid H1
  have H4 := Lib.hid H4
  have H5 := Lib.hid H5
  have H6 := Lib.hid H6
  have H7 := Lib.hid H7
  have H8 := Lib.hid H8
  have H9 := Lib.hid H9
  have HI := Lib.hid fun w => int_any v3 w
  have hix := fun w => A.ix10_3 w v0 v1 v2 v3 v4 v5 v6 v7 v8 v9
  go_enter Try.func8, Try.ntmps8
  go_wp2_with fail
  refine (tells_any _).mono ?_
  rintro e w1 ⟨rfl, hb⟩
  obtain ⟨hA, hB, hbz⟩ := box2 hb
  obtain ⟨c0A, c1A, c2A, z0A, z1A, z2A⟩ := three_facts hA
  have HA := Lib.hid hA
  obtain ⟨c0B, c1B, c2B, z0B, z1B, z2B⟩ := three_facts hB
  have HB := Lib.hid hB
  have HZ := Lib.hid hbz
  clear hb hbz hA hB
  go_wp2_with fail
  refine (HR.out _).mono ?_
  rintro e w2 ⟨rfl, hb⟩
  have hA := keep HA.out hb
  have hB := keep HB.out hb
  have hbz := HZ.out.trans (hb.mono HZ.out.size)
  clear HZ HA HB
  clear c0A c1A c2A z0A z1A z2A c0B c1B c2B z0B z1B z2B
  obtain ⟨c0A, c1A, c2A, z0A, z1A, z2A⟩ := three_facts hA
  have HA := Lib.hid hA
  obtain ⟨c0B, c1B, c2B, z0B, z1B, z2B⟩ := three_facts hB
  have HB := Lib.hid hB
  have HZ := Lib.hid hbz
  clear hb hbz hA hB
  go_wp2_with fail
  refine (HD.out _).mono ?_
  rintro e w3 ⟨rfl, hb⟩
  have hA := keep HA.out hb
  have hB := keep HB.out hb
  have hbz := HZ.out.trans (hb.mono HZ.out.size)
  clear HZ HA HB
  clear c0A c1A c2A z0A z1A z2A c0B c1B c2B z0B z1B z2B
  obtain ⟨c0A, c1A, c2A, z0A, z1A, z2A⟩ := three_facts hA
  have HA := Lib.hid hA
  obtain ⟨c0B, c1B, c2B, z0B, z1B, z2B⟩ := three_facts hB
  have HB := Lib.hid hB
  have HZ := Lib.hid hbz
  clear hb hbz hA hB
  have hE := (Below.refl w3.heap.size w3).alloc (Nat.le_refl _) (.cells #[.int .i64 2, .int .i64 v3, .string ⟨#[]⟩] 23)
  clear c0A c1A c2A z0A z1A z2A c0B c1B c2B z0B z1B z2B
  have gA := keep HA.out hE
  have gB := keep HB.out hE
  have gX := heap_alloc_new w3 (.cells #[.int .i64 2, .int .i64 v3, .string ⟨#[]⟩] 23)
  obtain ⟨c0A, c1A, c2A, z0A, z1A, z2A⟩ := three_facts gA
  have GA := Lib.hid gA
  obtain ⟨c0B, c1B, c2B, z0B, z1B, z2B⟩ := three_facts gB
  have GB := Lib.hid gB
  obtain ⟨c0X, c1X, c2X, z0X, z1X, z2X⟩ := three_facts gX
  have GX := Lib.hid gX
  have GZ := Lib.hid (HZ.out.trans (hE.mono HZ.out.size))
  clear hE HZ gA gB gX HA HB
  go_wp2_with fail
  generalize w3.alloc (.cells #[.int .i64 2, .int .i64 v3, .string ⟨#[]⟩] 23) = w4 at *
  have HA := GA
  have HB := GB
  have HX := GX
  have HZ := GZ
  clear GZ GA GB GX
  go_quiet (fail)
  have hb : Below w4.heap.size w4 (w4.drewN nq) := below_drewN (Below.refl _ _) _
  generalize w4.drewN nq = w5 at *
  have hA := keep HA.out hb
  have hB := keep HB.out hb
  have hX := keep HX.out hb
  have hbz := HZ.out.trans (hb.mono HZ.out.size)
  clear HZ HA HB HX
  clear c0A c1A c2A z0A z1A z2A c0B c1B c2B z0B z1B z2B c0X c1X c2X z0X z1X z2X
  obtain ⟨c0A, c1A, c2A, z0A, z1A, z2A⟩ := three_facts hA
  have HA := Lib.hid hA
  obtain ⟨c0B, c1B, c2B, z0B, z1B, z2B⟩ := three_facts hB
  have HB := Lib.hid hB
  obtain ⟨c0X, c1X, c2X, z0X, z1X, z2X⟩ := three_facts hX
  have HX := Lib.hid hX
  have HZ := Lib.hid hbz
  clear hb hbz hA hB hX
  go_wp2_with fail
  refine (HQ.out _).mono ?_
  rintro e _ ⟨rfl, rfl⟩
  go_wp2_with fail
  refine (HM.out _).mono ?_
  rintro e _ ⟨rfl, rfl⟩
  go_wp2_with fail
  refine (H0.out _).mono ?_
  rintro e _ ⟨rfl, rfl⟩
  go_wp2_with fail
  refine (H1.out _).mono ?_
  rintro e _ ⟨rfl, rfl⟩
  go_wp2_with fail
  refine (H4.out _).mono ?_
  rintro e _ ⟨rfl, rfl⟩
  go_wp2_with fail
  refine (H5.out _).mono ?_
  rintro e _ ⟨rfl, rfl⟩
  go_wp2_with fail
  refine (H6.out _).mono ?_
  rintro e _ ⟨rfl, rfl⟩
  go_wp2_with fail
  refine (H7.out _).mono ?_
  rintro e _ ⟨rfl, rfl⟩
  go_wp2_with fail
  refine (H8.out _).mono ?_
  rintro e _ ⟨rfl, rfl⟩
  go_wp2_with fail
  refine (H9.out _).mono ?_
  rintro e _ ⟨rfl, rfl⟩
  obtain ⟨q0A, q1A, q2A⟩ := three_below HA.out
  obtain ⟨q0B, q1B, q2B⟩ := three_below HB.out
  obtain ⟨q0X, q1X, q2X⟩ := three_below HX.out
  go_wp2_with fail
  refine wp_region_quiet_below (by kernel_rfl) (by kernel_rfl) ?_
  repeat (quiet_step (first | (go_at_call 28; with_reducible refine Calls.below_of (HI.out _))))
  refine wpQuiet_nil ?_
  intro _ hw'
  obtain ⟨pq, hw''⟩ := hw'
  subst hw''
  have hA := keep HA.out pq.h
  have hB := keep HB.out pq.h
  have hX := keep HX.out pq.h
  have hb := pq.h
  have hbz := HZ.out.trans (hb.mono HZ.out.size)
  clear HZ HA HB HX
  clear q0A q1A q2A q0B q1B q2B q0X q1X q2X
  generalize pq.x = w6 at *
  clear c0A c1A c2A z0A z1A z2A c0B c1B c2B z0B z1B z2B c0X c1X c2X z0X z1X z2X
  obtain ⟨c0A, c1A, c2A, z0A, z1A, z2A⟩ := three_facts hA
  have HA := Lib.hid hA
  obtain ⟨c0B, c1B, c2B, z0B, z1B, z2B⟩ := three_facts hB
  have HB := Lib.hid hB
  obtain ⟨c0X, c1X, c2X, z0X, z1X, z2X⟩ := three_facts hX
  have HX := Lib.hid hX
  have HZ := Lib.hid hbz
  clear hb hbz hA hB hX
  go_wp2_with fail
  go_ret
  exact ⟨rfl, HZ.out⟩
set_option maxRecDepth 100000 in
set_option maxHeartbeats 2000000 in
theorem vr_op3e (n n' : Int) (s s' : ByteArray) (v0 v1 v2 v3 v4 v5 v6 v7 v8 v9 : Int) (hok : (okB 2 n s && okB 2 n' s') = true) (HD : ∀ w, Calls Try.prog 30 #[.int .i64 3, .agg #[.int .i64 2, .int .i64 n, .string s], .agg #[.int .i64 2, .int .i64 n', .string s']] w fun e w' => e = .returned (.tuple #[.agg #[.int .i64 0, .int .i64 0, .string ⟨#[]⟩], .int .i64 10]) ∧ Below w.heap.size w w') (HQ : ∀ w, Calls Try.prog 31 #[.int .i64 n, .int .i64 n'] w fun e w' => e = .returned (.tuple #[.int .i64 v2, .int .i64 10]) ∧ w = w') (HM : ∀ w, Calls Try.prog 32 #[.int .i64 n, .int .i64 n'] w fun e w' => e = .returned (.tuple #[.int .i64 v3, .int .i64 10]) ∧ w = w') (H0 : ∀ w, Calls Try.prog 33 #[.int .i64 n, .int .i64 n'] w fun e w' => e = .returned (.int .i64 v0) ∧ w = w') (H1 : ∀ w, Calls Try.prog 34 #[.int .i64 n, .int .i64 n'] w fun e w' => e = .returned (.int .i64 v1) ∧ w = w') (H4 : ∀ w, Calls Try.prog 35 #[.int .i64 n, .int .i64 n'] w fun e w' => e = .returned (.int .i64 v4) ∧ w = w') (H5 : ∀ w, Calls Try.prog 36 #[.int .i64 n, .int .i64 n'] w fun e w' => e = .returned (.int .i64 v5) ∧ w = w') (H6 : ∀ w, Calls Try.prog 37 #[.int .i64 n, .int .i64 n'] w fun e w' => e = .returned (.int .i64 v6) ∧ w = w') (H7 : ∀ w, Calls Try.prog 38 #[.int .i64 n, .int .i64 n'] w fun e w' => e = .returned (.int .i64 v7) ∧ w = w') (H8 : ∀ w, Calls Try.prog 39 #[.int .i64 n, .int .i64 n'] w fun e w' => e = .returned (.int .i64 v8) ∧ w = w') (H9 : ∀ w, Calls Try.prog 40 #[.int .i64 n, .int .i64 n'] w fun e w' => e = .returned (.int .i64 v9) ∧ w = w') (w : World) : Calls Try.prog 8 #[.int .i64 3, .agg #[.int .i64 2, .int .i64 n, .string s], .agg #[.int .i64 2, .int .i64 n', .string s']] w fun e w' => e = .returned (.bool true) ∧ Below w.heap.size w w' := by
  have HR : Hid (∀ w, Calls Try.prog 14 #[.slice (some ⟨w.heap.size, 0, none⟩) 2 2] (w.alloc (.cells #[.int .i64 2, .int .i64 n, .string s, .int .i64 2, .int .i64 n', .string s'] 23)) fun e w' => e = .returned (.bool true) ∧ Below w.heap.size w w') := fun w => by have h := right_two 2 n 2 n' s s' 23 w; rw [hok] at h; exact h
  clear hok
  have HD := Lib.hid HD
  have HQ := Lib.hid HQ
  have HM := Lib.hid HM
  have H0 := Lib.hid H0
  have H1 := Lib.hid H1
  have H4 := Lib.hid H4
  have H5 := Lib.hid H5
  have H6 := Lib.hid H6
  have H7 := Lib.hid H7
  have H8 := Lib.hid H8
  have H9 := Lib.hid H9
  have HI := Lib.hid fun w => int_any v3 w
  have hix := fun w => A.ix10_3 w v0 v1 v2 v3 v4 v5 v6 v7 v8 v9
  go_enter Try.func8, Try.ntmps8
  go_wp2_with fail
  refine (tells_any _).mono ?_
  rintro e w1 ⟨rfl, hb⟩
  obtain ⟨hA, hB, hbz⟩ := box2 hb
  obtain ⟨c0A, c1A, c2A, z0A, z1A, z2A⟩ := three_facts hA
  have HA := Lib.hid hA
  obtain ⟨c0B, c1B, c2B, z0B, z1B, z2B⟩ := three_facts hB
  have HB := Lib.hid hB
  have HZ := Lib.hid hbz
  clear hb hbz hA hB
  go_wp2_with fail
  refine (HR.out _).mono ?_
  rintro e w2 ⟨rfl, hb⟩
  have hA := keep HA.out hb
  have hB := keep HB.out hb
  have hbz := HZ.out.trans (hb.mono HZ.out.size)
  clear HZ HA HB
  clear c0A c1A c2A z0A z1A z2A c0B c1B c2B z0B z1B z2B
  obtain ⟨c0A, c1A, c2A, z0A, z1A, z2A⟩ := three_facts hA
  have HA := Lib.hid hA
  obtain ⟨c0B, c1B, c2B, z0B, z1B, z2B⟩ := three_facts hB
  have HB := Lib.hid hB
  have HZ := Lib.hid hbz
  clear hb hbz hA hB
  go_wp2_with fail
  refine (HD.out _).mono ?_
  rintro e w3 ⟨rfl, hb⟩
  have hA := keep HA.out hb
  have hB := keep HB.out hb
  have hbz := HZ.out.trans (hb.mono HZ.out.size)
  clear HZ HA HB
  clear c0A c1A c2A z0A z1A z2A c0B c1B c2B z0B z1B z2B
  obtain ⟨c0A, c1A, c2A, z0A, z1A, z2A⟩ := three_facts hA
  have HA := Lib.hid hA
  obtain ⟨c0B, c1B, c2B, z0B, z1B, z2B⟩ := three_facts hB
  have HB := Lib.hid hB
  have HZ := Lib.hid hbz
  clear hb hbz hA hB
  have hE := (Below.refl w3.heap.size w3).alloc (Nat.le_refl _) (.cells #[.int .i64 0, .int .i64 0, .string ⟨#[]⟩] 23)
  clear c0A c1A c2A z0A z1A z2A c0B c1B c2B z0B z1B z2B
  have gA := keep HA.out hE
  have gB := keep HB.out hE
  have gX := heap_alloc_new w3 (.cells #[.int .i64 0, .int .i64 0, .string ⟨#[]⟩] 23)
  obtain ⟨c0A, c1A, c2A, z0A, z1A, z2A⟩ := three_facts gA
  have GA := Lib.hid gA
  obtain ⟨c0B, c1B, c2B, z0B, z1B, z2B⟩ := three_facts gB
  have GB := Lib.hid gB
  obtain ⟨c0X, c1X, c2X, z0X, z1X, z2X⟩ := three_facts gX
  have GX := Lib.hid gX
  have GZ := Lib.hid (HZ.out.trans (hE.mono HZ.out.size))
  clear hE HZ gA gB gX HA HB
  go_wp2_with fail
  generalize w3.alloc (.cells #[.int .i64 0, .int .i64 0, .string ⟨#[]⟩] 23) = w4 at *
  have HA := GA
  have HB := GB
  have HX := GX
  have HZ := GZ
  clear GZ GA GB GX
  go_quiet (fail)
  have hb : Below w4.heap.size w4 (w4.drewN nq) := below_drewN (Below.refl _ _) _
  generalize w4.drewN nq = w5 at *
  have hA := keep HA.out hb
  have hB := keep HB.out hb
  have hX := keep HX.out hb
  have hbz := HZ.out.trans (hb.mono HZ.out.size)
  clear HZ HA HB HX
  clear c0A c1A c2A z0A z1A z2A c0B c1B c2B z0B z1B z2B c0X c1X c2X z0X z1X z2X
  obtain ⟨c0A, c1A, c2A, z0A, z1A, z2A⟩ := three_facts hA
  have HA := Lib.hid hA
  obtain ⟨c0B, c1B, c2B, z0B, z1B, z2B⟩ := three_facts hB
  have HB := Lib.hid hB
  obtain ⟨c0X, c1X, c2X, z0X, z1X, z2X⟩ := three_facts hX
  have HX := Lib.hid hX
  have HZ := Lib.hid hbz
  clear hb hbz hA hB hX
  go_wp2_with fail
  refine (HQ.out _).mono ?_
  rintro e _ ⟨rfl, rfl⟩
  go_wp2_with fail
  refine (HM.out _).mono ?_
  rintro e _ ⟨rfl, rfl⟩
  go_wp2_with fail
  go_ret
  exact ⟨rfl, HZ.out⟩
set_option maxRecDepth 100000 in
set_option maxHeartbeats 2000000 in
theorem vr_op4 (n n' : Int) (s s' : ByteArray) (v0 v1 v2 v3 v4 v5 v6 v7 v8 v9 de : Int) (hok : (okB 2 n s && okB 2 n' s') = true) (HD : ∀ w, Calls Try.prog 30 #[.int .i64 4, .agg #[.int .i64 2, .int .i64 n, .string s], .agg #[.int .i64 2, .int .i64 n', .string s']] w fun e w' => e = .returned (.tuple #[.agg #[.int .i64 2, .int .i64 v4, .string ⟨#[]⟩], .int .i64 0]) ∧ Below w.heap.size w w') (HQ : ∀ w, Calls Try.prog 31 #[.int .i64 n, .int .i64 n'] w fun e w' => e = .returned (.tuple #[.int .i64 v2, .int .i64 de]) ∧ w = w') (HM : ∀ w, Calls Try.prog 32 #[.int .i64 n, .int .i64 n'] w fun e w' => e = .returned (.tuple #[.int .i64 v3, .int .i64 de]) ∧ w = w') (H0 : ∀ w, Calls Try.prog 33 #[.int .i64 n, .int .i64 n'] w fun e w' => e = .returned (.int .i64 v0) ∧ w = w') (H1 : ∀ w, Calls Try.prog 34 #[.int .i64 n, .int .i64 n'] w fun e w' => e = .returned (.int .i64 v1) ∧ w = w') (H4 : ∀ w, Calls Try.prog 35 #[.int .i64 n, .int .i64 n'] w fun e w' => e = .returned (.int .i64 v4) ∧ w = w') (H5 : ∀ w, Calls Try.prog 36 #[.int .i64 n, .int .i64 n'] w fun e w' => e = .returned (.int .i64 v5) ∧ w = w') (H6 : ∀ w, Calls Try.prog 37 #[.int .i64 n, .int .i64 n'] w fun e w' => e = .returned (.int .i64 v6) ∧ w = w') (H7 : ∀ w, Calls Try.prog 38 #[.int .i64 n, .int .i64 n'] w fun e w' => e = .returned (.int .i64 v7) ∧ w = w') (H8 : ∀ w, Calls Try.prog 39 #[.int .i64 n, .int .i64 n'] w fun e w' => e = .returned (.int .i64 v8) ∧ w = w') (H9 : ∀ w, Calls Try.prog 40 #[.int .i64 n, .int .i64 n'] w fun e w' => e = .returned (.int .i64 v9) ∧ w = w') (w : World) : Calls Try.prog 8 #[.int .i64 4, .agg #[.int .i64 2, .int .i64 n, .string s], .agg #[.int .i64 2, .int .i64 n', .string s']] w fun e w' => e = .returned (.bool true) ∧ Below w.heap.size w w' := by
  have HR : Hid (∀ w, Calls Try.prog 14 #[.slice (some ⟨w.heap.size, 0, none⟩) 2 2] (w.alloc (.cells #[.int .i64 2, .int .i64 n, .string s, .int .i64 2, .int .i64 n', .string s'] 23)) fun e w' => e = .returned (.bool true) ∧ Below w.heap.size w w') := fun w => by have h := right_two 2 n 2 n' s s' 23 w; rw [hok] at h; exact h
  clear hok
  have HD := Lib.hid HD
  have HQ := Lib.hid HQ
  have HM := Lib.hid HM
  have H0 := Lib.hid H0
  have H1 := Lib.hid H1
  have H4 := Lib.hid H4
  have H5 := Lib.hid H5
  have H6 := Lib.hid H6
  have H7 := Lib.hid H7
  have H8 := Lib.hid H8
  have H9 := Lib.hid H9
  have HI := Lib.hid fun w => int_any v4 w
  have hix := fun w => A.ix10_4 w v0 v1 v2 v3 v4 v5 v6 v7 v8 v9
  go_enter Try.func8, Try.ntmps8
  go_wp2_with fail
  refine (tells_any _).mono ?_
  rintro e w1 ⟨rfl, hb⟩
  obtain ⟨hA, hB, hbz⟩ := box2 hb
  obtain ⟨c0A, c1A, c2A, z0A, z1A, z2A⟩ := three_facts hA
  have HA := Lib.hid hA
  obtain ⟨c0B, c1B, c2B, z0B, z1B, z2B⟩ := three_facts hB
  have HB := Lib.hid hB
  have HZ := Lib.hid hbz
  clear hb hbz hA hB
  go_wp2_with fail
  refine (HR.out _).mono ?_
  rintro e w2 ⟨rfl, hb⟩
  have hA := keep HA.out hb
  have hB := keep HB.out hb
  have hbz := HZ.out.trans (hb.mono HZ.out.size)
  clear HZ HA HB
  clear c0A c1A c2A z0A z1A z2A c0B c1B c2B z0B z1B z2B
  obtain ⟨c0A, c1A, c2A, z0A, z1A, z2A⟩ := three_facts hA
  have HA := Lib.hid hA
  obtain ⟨c0B, c1B, c2B, z0B, z1B, z2B⟩ := three_facts hB
  have HB := Lib.hid hB
  have HZ := Lib.hid hbz
  clear hb hbz hA hB
  go_wp2_with fail
  refine (HD.out _).mono ?_
  rintro e w3 ⟨rfl, hb⟩
  have hA := keep HA.out hb
  have hB := keep HB.out hb
  have hbz := HZ.out.trans (hb.mono HZ.out.size)
  clear HZ HA HB
  clear c0A c1A c2A z0A z1A z2A c0B c1B c2B z0B z1B z2B
  obtain ⟨c0A, c1A, c2A, z0A, z1A, z2A⟩ := three_facts hA
  have HA := Lib.hid hA
  obtain ⟨c0B, c1B, c2B, z0B, z1B, z2B⟩ := three_facts hB
  have HB := Lib.hid hB
  have HZ := Lib.hid hbz
  clear hb hbz hA hB
  have hE := (Below.refl w3.heap.size w3).alloc (Nat.le_refl _) (.cells #[.int .i64 2, .int .i64 v4, .string ⟨#[]⟩] 23)
  clear c0A c1A c2A z0A z1A z2A c0B c1B c2B z0B z1B z2B
  have gA := keep HA.out hE
  have gB := keep HB.out hE
  have gX := heap_alloc_new w3 (.cells #[.int .i64 2, .int .i64 v4, .string ⟨#[]⟩] 23)
  obtain ⟨c0A, c1A, c2A, z0A, z1A, z2A⟩ := three_facts gA
  have GA := Lib.hid gA
  obtain ⟨c0B, c1B, c2B, z0B, z1B, z2B⟩ := three_facts gB
  have GB := Lib.hid gB
  obtain ⟨c0X, c1X, c2X, z0X, z1X, z2X⟩ := three_facts gX
  have GX := Lib.hid gX
  have GZ := Lib.hid (HZ.out.trans (hE.mono HZ.out.size))
  clear hE HZ gA gB gX HA HB
  go_wp2_with fail
  generalize w3.alloc (.cells #[.int .i64 2, .int .i64 v4, .string ⟨#[]⟩] 23) = w4 at *
  have HA := GA
  have HB := GB
  have HX := GX
  have HZ := GZ
  clear GZ GA GB GX
  go_quiet (fail)
  have hb : Below w4.heap.size w4 (w4.drewN nq) := below_drewN (Below.refl _ _) _
  generalize w4.drewN nq = w5 at *
  have hA := keep HA.out hb
  have hB := keep HB.out hb
  have hX := keep HX.out hb
  have hbz := HZ.out.trans (hb.mono HZ.out.size)
  clear HZ HA HB HX
  clear c0A c1A c2A z0A z1A z2A c0B c1B c2B z0B z1B z2B c0X c1X c2X z0X z1X z2X
  obtain ⟨c0A, c1A, c2A, z0A, z1A, z2A⟩ := three_facts hA
  have HA := Lib.hid hA
  obtain ⟨c0B, c1B, c2B, z0B, z1B, z2B⟩ := three_facts hB
  have HB := Lib.hid hB
  obtain ⟨c0X, c1X, c2X, z0X, z1X, z2X⟩ := three_facts hX
  have HX := Lib.hid hX
  have HZ := Lib.hid hbz
  clear hb hbz hA hB hX
  go_wp2_with fail
  refine (HQ.out _).mono ?_
  rintro e _ ⟨rfl, rfl⟩
  go_wp2_with fail
  refine (HM.out _).mono ?_
  rintro e _ ⟨rfl, rfl⟩
  go_wp2_with fail
  refine (H0.out _).mono ?_
  rintro e _ ⟨rfl, rfl⟩
  go_wp2_with fail
  refine (H1.out _).mono ?_
  rintro e _ ⟨rfl, rfl⟩
  go_wp2_with fail
  refine (H4.out _).mono ?_
  rintro e _ ⟨rfl, rfl⟩
  go_wp2_with fail
  refine (H5.out _).mono ?_
  rintro e _ ⟨rfl, rfl⟩
  go_wp2_with fail
  refine (H6.out _).mono ?_
  rintro e _ ⟨rfl, rfl⟩
  go_wp2_with fail
  refine (H7.out _).mono ?_
  rintro e _ ⟨rfl, rfl⟩
  go_wp2_with fail
  refine (H8.out _).mono ?_
  rintro e _ ⟨rfl, rfl⟩
  go_wp2_with fail
  refine (H9.out _).mono ?_
  rintro e _ ⟨rfl, rfl⟩
  obtain ⟨q0A, q1A, q2A⟩ := three_below HA.out
  obtain ⟨q0B, q1B, q2B⟩ := three_below HB.out
  obtain ⟨q0X, q1X, q2X⟩ := three_below HX.out
  go_wp2_with fail
  refine wp_region_quiet_below (by kernel_rfl) (by kernel_rfl) ?_
  repeat (quiet_step (first | (go_at_call 28; with_reducible refine Calls.below_of (HI.out _))))
  refine wpQuiet_nil ?_
  intro _ hw'
  obtain ⟨pq, hw''⟩ := hw'
  subst hw''
  have hA := keep HA.out pq.h
  have hB := keep HB.out pq.h
  have hX := keep HX.out pq.h
  have hb := pq.h
  have hbz := HZ.out.trans (hb.mono HZ.out.size)
  clear HZ HA HB HX
  clear q0A q1A q2A q0B q1B q2B q0X q1X q2X
  generalize pq.x = w6 at *
  clear c0A c1A c2A z0A z1A z2A c0B c1B c2B z0B z1B z2B c0X c1X c2X z0X z1X z2X
  obtain ⟨c0A, c1A, c2A, z0A, z1A, z2A⟩ := three_facts hA
  have HA := Lib.hid hA
  obtain ⟨c0B, c1B, c2B, z0B, z1B, z2B⟩ := three_facts hB
  have HB := Lib.hid hB
  obtain ⟨c0X, c1X, c2X, z0X, z1X, z2X⟩ := three_facts hX
  have HX := Lib.hid hX
  have HZ := Lib.hid hbz
  clear hb hbz hA hB hX
  go_wp2_with fail
  go_ret
  exact ⟨rfl, HZ.out⟩
set_option maxRecDepth 100000 in
set_option maxHeartbeats 2000000 in
theorem vr_op5 (n n' : Int) (s s' : ByteArray) (v0 v1 v2 v3 v4 v5 v6 v7 v8 v9 de : Int) (hok : (okB 2 n s && okB 2 n' s') = true) (HD : ∀ w, Calls Try.prog 30 #[.int .i64 5, .agg #[.int .i64 2, .int .i64 n, .string s], .agg #[.int .i64 2, .int .i64 n', .string s']] w fun e w' => e = .returned (.tuple #[.agg #[.int .i64 2, .int .i64 v5, .string ⟨#[]⟩], .int .i64 0]) ∧ Below w.heap.size w w') (HQ : ∀ w, Calls Try.prog 31 #[.int .i64 n, .int .i64 n'] w fun e w' => e = .returned (.tuple #[.int .i64 v2, .int .i64 de]) ∧ w = w') (HM : ∀ w, Calls Try.prog 32 #[.int .i64 n, .int .i64 n'] w fun e w' => e = .returned (.tuple #[.int .i64 v3, .int .i64 de]) ∧ w = w') (H0 : ∀ w, Calls Try.prog 33 #[.int .i64 n, .int .i64 n'] w fun e w' => e = .returned (.int .i64 v0) ∧ w = w') (H1 : ∀ w, Calls Try.prog 34 #[.int .i64 n, .int .i64 n'] w fun e w' => e = .returned (.int .i64 v1) ∧ w = w') (H4 : ∀ w, Calls Try.prog 35 #[.int .i64 n, .int .i64 n'] w fun e w' => e = .returned (.int .i64 v4) ∧ w = w') (H5 : ∀ w, Calls Try.prog 36 #[.int .i64 n, .int .i64 n'] w fun e w' => e = .returned (.int .i64 v5) ∧ w = w') (H6 : ∀ w, Calls Try.prog 37 #[.int .i64 n, .int .i64 n'] w fun e w' => e = .returned (.int .i64 v6) ∧ w = w') (H7 : ∀ w, Calls Try.prog 38 #[.int .i64 n, .int .i64 n'] w fun e w' => e = .returned (.int .i64 v7) ∧ w = w') (H8 : ∀ w, Calls Try.prog 39 #[.int .i64 n, .int .i64 n'] w fun e w' => e = .returned (.int .i64 v8) ∧ w = w') (H9 : ∀ w, Calls Try.prog 40 #[.int .i64 n, .int .i64 n'] w fun e w' => e = .returned (.int .i64 v9) ∧ w = w') (w : World) : Calls Try.prog 8 #[.int .i64 5, .agg #[.int .i64 2, .int .i64 n, .string s], .agg #[.int .i64 2, .int .i64 n', .string s']] w fun e w' => e = .returned (.bool true) ∧ Below w.heap.size w w' := by
  have HR : Hid (∀ w, Calls Try.prog 14 #[.slice (some ⟨w.heap.size, 0, none⟩) 2 2] (w.alloc (.cells #[.int .i64 2, .int .i64 n, .string s, .int .i64 2, .int .i64 n', .string s'] 23)) fun e w' => e = .returned (.bool true) ∧ Below w.heap.size w w') := fun w => by have h := right_two 2 n 2 n' s s' 23 w; rw [hok] at h; exact h
  clear hok
  have HD := Lib.hid HD
  have HQ := Lib.hid HQ
  have HM := Lib.hid HM
  have H0 := Lib.hid H0
  have H1 := Lib.hid H1
  have H4 := Lib.hid H4
  have H5 := Lib.hid H5
  have H6 := Lib.hid H6
  have H7 := Lib.hid H7
  have H8 := Lib.hid H8
  have H9 := Lib.hid H9
  have HI := Lib.hid fun w => int_any v5 w
  have hix := fun w => A.ix10_5 w v0 v1 v2 v3 v4 v5 v6 v7 v8 v9
  go_enter Try.func8, Try.ntmps8
  go_wp2_with fail
  refine (tells_any _).mono ?_
  rintro e w1 ⟨rfl, hb⟩
  obtain ⟨hA, hB, hbz⟩ := box2 hb
  obtain ⟨c0A, c1A, c2A, z0A, z1A, z2A⟩ := three_facts hA
  have HA := Lib.hid hA
  obtain ⟨c0B, c1B, c2B, z0B, z1B, z2B⟩ := three_facts hB
  have HB := Lib.hid hB
  have HZ := Lib.hid hbz
  clear hb hbz hA hB
  go_wp2_with fail
  refine (HR.out _).mono ?_
  rintro e w2 ⟨rfl, hb⟩
  have hA := keep HA.out hb
  have hB := keep HB.out hb
  have hbz := HZ.out.trans (hb.mono HZ.out.size)
  clear HZ HA HB
  clear c0A c1A c2A z0A z1A z2A c0B c1B c2B z0B z1B z2B
  obtain ⟨c0A, c1A, c2A, z0A, z1A, z2A⟩ := three_facts hA
  have HA := Lib.hid hA
  obtain ⟨c0B, c1B, c2B, z0B, z1B, z2B⟩ := three_facts hB
  have HB := Lib.hid hB
  have HZ := Lib.hid hbz
  clear hb hbz hA hB
  go_wp2_with fail
  refine (HD.out _).mono ?_
  rintro e w3 ⟨rfl, hb⟩
  have hA := keep HA.out hb
  have hB := keep HB.out hb
  have hbz := HZ.out.trans (hb.mono HZ.out.size)
  clear HZ HA HB
  clear c0A c1A c2A z0A z1A z2A c0B c1B c2B z0B z1B z2B
  obtain ⟨c0A, c1A, c2A, z0A, z1A, z2A⟩ := three_facts hA
  have HA := Lib.hid hA
  obtain ⟨c0B, c1B, c2B, z0B, z1B, z2B⟩ := three_facts hB
  have HB := Lib.hid hB
  have HZ := Lib.hid hbz
  clear hb hbz hA hB
  have hE := (Below.refl w3.heap.size w3).alloc (Nat.le_refl _) (.cells #[.int .i64 2, .int .i64 v5, .string ⟨#[]⟩] 23)
  clear c0A c1A c2A z0A z1A z2A c0B c1B c2B z0B z1B z2B
  have gA := keep HA.out hE
  have gB := keep HB.out hE
  have gX := heap_alloc_new w3 (.cells #[.int .i64 2, .int .i64 v5, .string ⟨#[]⟩] 23)
  obtain ⟨c0A, c1A, c2A, z0A, z1A, z2A⟩ := three_facts gA
  have GA := Lib.hid gA
  obtain ⟨c0B, c1B, c2B, z0B, z1B, z2B⟩ := three_facts gB
  have GB := Lib.hid gB
  obtain ⟨c0X, c1X, c2X, z0X, z1X, z2X⟩ := three_facts gX
  have GX := Lib.hid gX
  have GZ := Lib.hid (HZ.out.trans (hE.mono HZ.out.size))
  clear hE HZ gA gB gX HA HB
  go_wp2_with fail
  generalize w3.alloc (.cells #[.int .i64 2, .int .i64 v5, .string ⟨#[]⟩] 23) = w4 at *
  have HA := GA
  have HB := GB
  have HX := GX
  have HZ := GZ
  clear GZ GA GB GX
  go_quiet (fail)
  have hb : Below w4.heap.size w4 (w4.drewN nq) := below_drewN (Below.refl _ _) _
  generalize w4.drewN nq = w5 at *
  have hA := keep HA.out hb
  have hB := keep HB.out hb
  have hX := keep HX.out hb
  have hbz := HZ.out.trans (hb.mono HZ.out.size)
  clear HZ HA HB HX
  clear c0A c1A c2A z0A z1A z2A c0B c1B c2B z0B z1B z2B c0X c1X c2X z0X z1X z2X
  obtain ⟨c0A, c1A, c2A, z0A, z1A, z2A⟩ := three_facts hA
  have HA := Lib.hid hA
  obtain ⟨c0B, c1B, c2B, z0B, z1B, z2B⟩ := three_facts hB
  have HB := Lib.hid hB
  obtain ⟨c0X, c1X, c2X, z0X, z1X, z2X⟩ := three_facts hX
  have HX := Lib.hid hX
  have HZ := Lib.hid hbz
  clear hb hbz hA hB hX
  go_wp2_with fail
  refine (HQ.out _).mono ?_
  rintro e _ ⟨rfl, rfl⟩
  go_wp2_with fail
  refine (HM.out _).mono ?_
  rintro e _ ⟨rfl, rfl⟩
  go_wp2_with fail
  refine (H0.out _).mono ?_
  rintro e _ ⟨rfl, rfl⟩
  go_wp2_with fail
  refine (H1.out _).mono ?_
  rintro e _ ⟨rfl, rfl⟩
  go_wp2_with fail
  refine (H4.out _).mono ?_
  rintro e _ ⟨rfl, rfl⟩
  go_wp2_with fail
  refine (H5.out _).mono ?_
  rintro e _ ⟨rfl, rfl⟩
  go_wp2_with fail
  refine (H6.out _).mono ?_
  rintro e _ ⟨rfl, rfl⟩
  go_wp2_with fail
  refine (H7.out _).mono ?_
  rintro e _ ⟨rfl, rfl⟩
  go_wp2_with fail
  refine (H8.out _).mono ?_
  rintro e _ ⟨rfl, rfl⟩
  go_wp2_with fail
  refine (H9.out _).mono ?_
  rintro e _ ⟨rfl, rfl⟩
  obtain ⟨q0A, q1A, q2A⟩ := three_below HA.out
  obtain ⟨q0B, q1B, q2B⟩ := three_below HB.out
  obtain ⟨q0X, q1X, q2X⟩ := three_below HX.out
  go_wp2_with fail
  refine wp_region_quiet_below (by kernel_rfl) (by kernel_rfl) ?_
  repeat (quiet_step (first | (go_at_call 28; with_reducible refine Calls.below_of (HI.out _))))
  refine wpQuiet_nil ?_
  intro _ hw'
  obtain ⟨pq, hw''⟩ := hw'
  subst hw''
  have hA := keep HA.out pq.h
  have hB := keep HB.out pq.h
  have hX := keep HX.out pq.h
  have hb := pq.h
  have hbz := HZ.out.trans (hb.mono HZ.out.size)
  clear HZ HA HB HX
  clear q0A q1A q2A q0B q1B q2B q0X q1X q2X
  generalize pq.x = w6 at *
  clear c0A c1A c2A z0A z1A z2A c0B c1B c2B z0B z1B z2B c0X c1X c2X z0X z1X z2X
  obtain ⟨c0A, c1A, c2A, z0A, z1A, z2A⟩ := three_facts hA
  have HA := Lib.hid hA
  obtain ⟨c0B, c1B, c2B, z0B, z1B, z2B⟩ := three_facts hB
  have HB := Lib.hid hB
  obtain ⟨c0X, c1X, c2X, z0X, z1X, z2X⟩ := three_facts hX
  have HX := Lib.hid hX
  have HZ := Lib.hid hbz
  clear hb hbz hA hB hX
  go_wp2_with fail
  go_ret
  exact ⟨rfl, HZ.out⟩
set_option maxRecDepth 100000 in
set_option maxHeartbeats 2000000 in
theorem vr_op6 (n n' : Int) (s s' : ByteArray) (v0 v1 v2 v3 v4 v5 v6 v7 v8 v9 de : Int) (hok : (okB 2 n s && okB 2 n' s') = true) (HD : ∀ w, Calls Try.prog 30 #[.int .i64 6, .agg #[.int .i64 2, .int .i64 n, .string s], .agg #[.int .i64 2, .int .i64 n', .string s']] w fun e w' => e = .returned (.tuple #[.agg #[.int .i64 2, .int .i64 v6, .string ⟨#[]⟩], .int .i64 0]) ∧ Below w.heap.size w w') (HQ : ∀ w, Calls Try.prog 31 #[.int .i64 n, .int .i64 n'] w fun e w' => e = .returned (.tuple #[.int .i64 v2, .int .i64 de]) ∧ w = w') (HM : ∀ w, Calls Try.prog 32 #[.int .i64 n, .int .i64 n'] w fun e w' => e = .returned (.tuple #[.int .i64 v3, .int .i64 de]) ∧ w = w') (H0 : ∀ w, Calls Try.prog 33 #[.int .i64 n, .int .i64 n'] w fun e w' => e = .returned (.int .i64 v0) ∧ w = w') (H1 : ∀ w, Calls Try.prog 34 #[.int .i64 n, .int .i64 n'] w fun e w' => e = .returned (.int .i64 v1) ∧ w = w') (H4 : ∀ w, Calls Try.prog 35 #[.int .i64 n, .int .i64 n'] w fun e w' => e = .returned (.int .i64 v4) ∧ w = w') (H5 : ∀ w, Calls Try.prog 36 #[.int .i64 n, .int .i64 n'] w fun e w' => e = .returned (.int .i64 v5) ∧ w = w') (H6 : ∀ w, Calls Try.prog 37 #[.int .i64 n, .int .i64 n'] w fun e w' => e = .returned (.int .i64 v6) ∧ w = w') (H7 : ∀ w, Calls Try.prog 38 #[.int .i64 n, .int .i64 n'] w fun e w' => e = .returned (.int .i64 v7) ∧ w = w') (H8 : ∀ w, Calls Try.prog 39 #[.int .i64 n, .int .i64 n'] w fun e w' => e = .returned (.int .i64 v8) ∧ w = w') (H9 : ∀ w, Calls Try.prog 40 #[.int .i64 n, .int .i64 n'] w fun e w' => e = .returned (.int .i64 v9) ∧ w = w') (w : World) : Calls Try.prog 8 #[.int .i64 6, .agg #[.int .i64 2, .int .i64 n, .string s], .agg #[.int .i64 2, .int .i64 n', .string s']] w fun e w' => e = .returned (.bool true) ∧ Below w.heap.size w w' := by
  have HR : Hid (∀ w, Calls Try.prog 14 #[.slice (some ⟨w.heap.size, 0, none⟩) 2 2] (w.alloc (.cells #[.int .i64 2, .int .i64 n, .string s, .int .i64 2, .int .i64 n', .string s'] 23)) fun e w' => e = .returned (.bool true) ∧ Below w.heap.size w w') := fun w => by have h := right_two 2 n 2 n' s s' 23 w; rw [hok] at h; exact h
  clear hok
  have HD := Lib.hid HD
  have HQ := Lib.hid HQ
  have HM := Lib.hid HM
  have H0 := Lib.hid H0
  have H1 := Lib.hid H1
  have H4 := Lib.hid H4
  have H5 := Lib.hid H5
  have H6 := Lib.hid H6
  have H7 := Lib.hid H7
  have H8 := Lib.hid H8
  have H9 := Lib.hid H9
  have HI := Lib.hid fun w => int_any v6 w
  have hix := fun w => A.ix10_6 w v0 v1 v2 v3 v4 v5 v6 v7 v8 v9
  go_enter Try.func8, Try.ntmps8
  go_wp2_with fail
  refine (tells_any _).mono ?_
  rintro e w1 ⟨rfl, hb⟩
  obtain ⟨hA, hB, hbz⟩ := box2 hb
  obtain ⟨c0A, c1A, c2A, z0A, z1A, z2A⟩ := three_facts hA
  have HA := Lib.hid hA
  obtain ⟨c0B, c1B, c2B, z0B, z1B, z2B⟩ := three_facts hB
  have HB := Lib.hid hB
  have HZ := Lib.hid hbz
  clear hb hbz hA hB
  go_wp2_with fail
  refine (HR.out _).mono ?_
  rintro e w2 ⟨rfl, hb⟩
  have hA := keep HA.out hb
  have hB := keep HB.out hb
  have hbz := HZ.out.trans (hb.mono HZ.out.size)
  clear HZ HA HB
  clear c0A c1A c2A z0A z1A z2A c0B c1B c2B z0B z1B z2B
  obtain ⟨c0A, c1A, c2A, z0A, z1A, z2A⟩ := three_facts hA
  have HA := Lib.hid hA
  obtain ⟨c0B, c1B, c2B, z0B, z1B, z2B⟩ := three_facts hB
  have HB := Lib.hid hB
  have HZ := Lib.hid hbz
  clear hb hbz hA hB
  go_wp2_with fail
  refine (HD.out _).mono ?_
  rintro e w3 ⟨rfl, hb⟩
  have hA := keep HA.out hb
  have hB := keep HB.out hb
  have hbz := HZ.out.trans (hb.mono HZ.out.size)
  clear HZ HA HB
  clear c0A c1A c2A z0A z1A z2A c0B c1B c2B z0B z1B z2B
  obtain ⟨c0A, c1A, c2A, z0A, z1A, z2A⟩ := three_facts hA
  have HA := Lib.hid hA
  obtain ⟨c0B, c1B, c2B, z0B, z1B, z2B⟩ := three_facts hB
  have HB := Lib.hid hB
  have HZ := Lib.hid hbz
  clear hb hbz hA hB
  have hE := (Below.refl w3.heap.size w3).alloc (Nat.le_refl _) (.cells #[.int .i64 2, .int .i64 v6, .string ⟨#[]⟩] 23)
  clear c0A c1A c2A z0A z1A z2A c0B c1B c2B z0B z1B z2B
  have gA := keep HA.out hE
  have gB := keep HB.out hE
  have gX := heap_alloc_new w3 (.cells #[.int .i64 2, .int .i64 v6, .string ⟨#[]⟩] 23)
  obtain ⟨c0A, c1A, c2A, z0A, z1A, z2A⟩ := three_facts gA
  have GA := Lib.hid gA
  obtain ⟨c0B, c1B, c2B, z0B, z1B, z2B⟩ := three_facts gB
  have GB := Lib.hid gB
  obtain ⟨c0X, c1X, c2X, z0X, z1X, z2X⟩ := three_facts gX
  have GX := Lib.hid gX
  have GZ := Lib.hid (HZ.out.trans (hE.mono HZ.out.size))
  clear hE HZ gA gB gX HA HB
  go_wp2_with fail
  generalize w3.alloc (.cells #[.int .i64 2, .int .i64 v6, .string ⟨#[]⟩] 23) = w4 at *
  have HA := GA
  have HB := GB
  have HX := GX
  have HZ := GZ
  clear GZ GA GB GX
  go_quiet (fail)
  have hb : Below w4.heap.size w4 (w4.drewN nq) := below_drewN (Below.refl _ _) _
  generalize w4.drewN nq = w5 at *
  have hA := keep HA.out hb
  have hB := keep HB.out hb
  have hX := keep HX.out hb
  have hbz := HZ.out.trans (hb.mono HZ.out.size)
  clear HZ HA HB HX
  clear c0A c1A c2A z0A z1A z2A c0B c1B c2B z0B z1B z2B c0X c1X c2X z0X z1X z2X
  obtain ⟨c0A, c1A, c2A, z0A, z1A, z2A⟩ := three_facts hA
  have HA := Lib.hid hA
  obtain ⟨c0B, c1B, c2B, z0B, z1B, z2B⟩ := three_facts hB
  have HB := Lib.hid hB
  obtain ⟨c0X, c1X, c2X, z0X, z1X, z2X⟩ := three_facts hX
  have HX := Lib.hid hX
  have HZ := Lib.hid hbz
  clear hb hbz hA hB hX
  go_wp2_with fail
  refine (HQ.out _).mono ?_
  rintro e _ ⟨rfl, rfl⟩
  go_wp2_with fail
  refine (HM.out _).mono ?_
  rintro e _ ⟨rfl, rfl⟩
  go_wp2_with fail
  refine (H0.out _).mono ?_
  rintro e _ ⟨rfl, rfl⟩
  go_wp2_with fail
  refine (H1.out _).mono ?_
  rintro e _ ⟨rfl, rfl⟩
  go_wp2_with fail
  refine (H4.out _).mono ?_
  rintro e _ ⟨rfl, rfl⟩
  go_wp2_with fail
  refine (H5.out _).mono ?_
  rintro e _ ⟨rfl, rfl⟩
  go_wp2_with fail
  refine (H6.out _).mono ?_
  rintro e _ ⟨rfl, rfl⟩
  go_wp2_with fail
  refine (H7.out _).mono ?_
  rintro e _ ⟨rfl, rfl⟩
  go_wp2_with fail
  refine (H8.out _).mono ?_
  rintro e _ ⟨rfl, rfl⟩
  go_wp2_with fail
  refine (H9.out _).mono ?_
  rintro e _ ⟨rfl, rfl⟩
  obtain ⟨q0A, q1A, q2A⟩ := three_below HA.out
  obtain ⟨q0B, q1B, q2B⟩ := three_below HB.out
  obtain ⟨q0X, q1X, q2X⟩ := three_below HX.out
  go_wp2_with fail
  refine wp_region_quiet_below (by kernel_rfl) (by kernel_rfl) ?_
  repeat (quiet_step (first | (go_at_call 28; with_reducible refine Calls.below_of (HI.out _))))
  refine wpQuiet_nil ?_
  intro _ hw'
  obtain ⟨pq, hw''⟩ := hw'
  subst hw''
  have hA := keep HA.out pq.h
  have hB := keep HB.out pq.h
  have hX := keep HX.out pq.h
  have hb := pq.h
  have hbz := HZ.out.trans (hb.mono HZ.out.size)
  clear HZ HA HB HX
  clear q0A q1A q2A q0B q1B q2B q0X q1X q2X
  generalize pq.x = w6 at *
  clear c0A c1A c2A z0A z1A z2A c0B c1B c2B z0B z1B z2B c0X c1X c2X z0X z1X z2X
  obtain ⟨c0A, c1A, c2A, z0A, z1A, z2A⟩ := three_facts hA
  have HA := Lib.hid hA
  obtain ⟨c0B, c1B, c2B, z0B, z1B, z2B⟩ := three_facts hB
  have HB := Lib.hid hB
  obtain ⟨c0X, c1X, c2X, z0X, z1X, z2X⟩ := three_facts hX
  have HX := Lib.hid hX
  have HZ := Lib.hid hbz
  clear hb hbz hA hB hX
  go_wp2_with fail
  go_ret
  exact ⟨rfl, HZ.out⟩
set_option maxRecDepth 100000 in
set_option maxHeartbeats 2000000 in
theorem vr_op7 (n n' : Int) (s s' : ByteArray) (v0 v1 v2 v3 v4 v5 v6 v7 v8 v9 de : Int) (hok : (okB 2 n s && okB 2 n' s') = true) (HD : ∀ w, Calls Try.prog 30 #[.int .i64 7, .agg #[.int .i64 2, .int .i64 n, .string s], .agg #[.int .i64 2, .int .i64 n', .string s']] w fun e w' => e = .returned (.tuple #[.agg #[.int .i64 2, .int .i64 v7, .string ⟨#[]⟩], .int .i64 0]) ∧ Below w.heap.size w w') (HQ : ∀ w, Calls Try.prog 31 #[.int .i64 n, .int .i64 n'] w fun e w' => e = .returned (.tuple #[.int .i64 v2, .int .i64 de]) ∧ w = w') (HM : ∀ w, Calls Try.prog 32 #[.int .i64 n, .int .i64 n'] w fun e w' => e = .returned (.tuple #[.int .i64 v3, .int .i64 de]) ∧ w = w') (H0 : ∀ w, Calls Try.prog 33 #[.int .i64 n, .int .i64 n'] w fun e w' => e = .returned (.int .i64 v0) ∧ w = w') (H1 : ∀ w, Calls Try.prog 34 #[.int .i64 n, .int .i64 n'] w fun e w' => e = .returned (.int .i64 v1) ∧ w = w') (H4 : ∀ w, Calls Try.prog 35 #[.int .i64 n, .int .i64 n'] w fun e w' => e = .returned (.int .i64 v4) ∧ w = w') (H5 : ∀ w, Calls Try.prog 36 #[.int .i64 n, .int .i64 n'] w fun e w' => e = .returned (.int .i64 v5) ∧ w = w') (H6 : ∀ w, Calls Try.prog 37 #[.int .i64 n, .int .i64 n'] w fun e w' => e = .returned (.int .i64 v6) ∧ w = w') (H7 : ∀ w, Calls Try.prog 38 #[.int .i64 n, .int .i64 n'] w fun e w' => e = .returned (.int .i64 v7) ∧ w = w') (H8 : ∀ w, Calls Try.prog 39 #[.int .i64 n, .int .i64 n'] w fun e w' => e = .returned (.int .i64 v8) ∧ w = w') (H9 : ∀ w, Calls Try.prog 40 #[.int .i64 n, .int .i64 n'] w fun e w' => e = .returned (.int .i64 v9) ∧ w = w') (w : World) : Calls Try.prog 8 #[.int .i64 7, .agg #[.int .i64 2, .int .i64 n, .string s], .agg #[.int .i64 2, .int .i64 n', .string s']] w fun e w' => e = .returned (.bool true) ∧ Below w.heap.size w w' := by
  have HR : Hid (∀ w, Calls Try.prog 14 #[.slice (some ⟨w.heap.size, 0, none⟩) 2 2] (w.alloc (.cells #[.int .i64 2, .int .i64 n, .string s, .int .i64 2, .int .i64 n', .string s'] 23)) fun e w' => e = .returned (.bool true) ∧ Below w.heap.size w w') := fun w => by have h := right_two 2 n 2 n' s s' 23 w; rw [hok] at h; exact h
  clear hok
  have HD := Lib.hid HD
  have HQ := Lib.hid HQ
  have HM := Lib.hid HM
  have H0 := Lib.hid H0
  have H1 := Lib.hid H1
  have H4 := Lib.hid H4
  have H5 := Lib.hid H5
  have H6 := Lib.hid H6
  have H7 := Lib.hid H7
  have H8 := Lib.hid H8
  have H9 := Lib.hid H9
  have HI := Lib.hid fun w => int_any v7 w
  have hix := fun w => A.ix10_7 w v0 v1 v2 v3 v4 v5 v6 v7 v8 v9
  go_enter Try.func8, Try.ntmps8
  go_wp2_with fail
  refine (tells_any _).mono ?_
  rintro e w1 ⟨rfl, hb⟩
  obtain ⟨hA, hB, hbz⟩ := box2 hb
  obtain ⟨c0A, c1A, c2A, z0A, z1A, z2A⟩ := three_facts hA
  have HA := Lib.hid hA
  obtain ⟨c0B, c1B, c2B, z0B, z1B, z2B⟩ := three_facts hB
  have HB := Lib.hid hB
  have HZ := Lib.hid hbz
  clear hb hbz hA hB
  go_wp2_with fail
  refine (HR.out _).mono ?_
  rintro e w2 ⟨rfl, hb⟩
  have hA := keep HA.out hb
  have hB := keep HB.out hb
  have hbz := HZ.out.trans (hb.mono HZ.out.size)
  clear HZ HA HB
  clear c0A c1A c2A z0A z1A z2A c0B c1B c2B z0B z1B z2B
  obtain ⟨c0A, c1A, c2A, z0A, z1A, z2A⟩ := three_facts hA
  have HA := Lib.hid hA
  obtain ⟨c0B, c1B, c2B, z0B, z1B, z2B⟩ := three_facts hB
  have HB := Lib.hid hB
  have HZ := Lib.hid hbz
  clear hb hbz hA hB
  go_wp2_with fail
  refine (HD.out _).mono ?_
  rintro e w3 ⟨rfl, hb⟩
  have hA := keep HA.out hb
  have hB := keep HB.out hb
  have hbz := HZ.out.trans (hb.mono HZ.out.size)
  clear HZ HA HB
  clear c0A c1A c2A z0A z1A z2A c0B c1B c2B z0B z1B z2B
  obtain ⟨c0A, c1A, c2A, z0A, z1A, z2A⟩ := three_facts hA
  have HA := Lib.hid hA
  obtain ⟨c0B, c1B, c2B, z0B, z1B, z2B⟩ := three_facts hB
  have HB := Lib.hid hB
  have HZ := Lib.hid hbz
  clear hb hbz hA hB
  have hE := (Below.refl w3.heap.size w3).alloc (Nat.le_refl _) (.cells #[.int .i64 2, .int .i64 v7, .string ⟨#[]⟩] 23)
  clear c0A c1A c2A z0A z1A z2A c0B c1B c2B z0B z1B z2B
  have gA := keep HA.out hE
  have gB := keep HB.out hE
  have gX := heap_alloc_new w3 (.cells #[.int .i64 2, .int .i64 v7, .string ⟨#[]⟩] 23)
  obtain ⟨c0A, c1A, c2A, z0A, z1A, z2A⟩ := three_facts gA
  have GA := Lib.hid gA
  obtain ⟨c0B, c1B, c2B, z0B, z1B, z2B⟩ := three_facts gB
  have GB := Lib.hid gB
  obtain ⟨c0X, c1X, c2X, z0X, z1X, z2X⟩ := three_facts gX
  have GX := Lib.hid gX
  have GZ := Lib.hid (HZ.out.trans (hE.mono HZ.out.size))
  clear hE HZ gA gB gX HA HB
  go_wp2_with fail
  generalize w3.alloc (.cells #[.int .i64 2, .int .i64 v7, .string ⟨#[]⟩] 23) = w4 at *
  have HA := GA
  have HB := GB
  have HX := GX
  have HZ := GZ
  clear GZ GA GB GX
  go_quiet (fail)
  have hb : Below w4.heap.size w4 (w4.drewN nq) := below_drewN (Below.refl _ _) _
  generalize w4.drewN nq = w5 at *
  have hA := keep HA.out hb
  have hB := keep HB.out hb
  have hX := keep HX.out hb
  have hbz := HZ.out.trans (hb.mono HZ.out.size)
  clear HZ HA HB HX
  clear c0A c1A c2A z0A z1A z2A c0B c1B c2B z0B z1B z2B c0X c1X c2X z0X z1X z2X
  obtain ⟨c0A, c1A, c2A, z0A, z1A, z2A⟩ := three_facts hA
  have HA := Lib.hid hA
  obtain ⟨c0B, c1B, c2B, z0B, z1B, z2B⟩ := three_facts hB
  have HB := Lib.hid hB
  obtain ⟨c0X, c1X, c2X, z0X, z1X, z2X⟩ := three_facts hX
  have HX := Lib.hid hX
  have HZ := Lib.hid hbz
  clear hb hbz hA hB hX
  go_wp2_with fail
  refine (HQ.out _).mono ?_
  rintro e _ ⟨rfl, rfl⟩
  go_wp2_with fail
  refine (HM.out _).mono ?_
  rintro e _ ⟨rfl, rfl⟩
  go_wp2_with fail
  refine (H0.out _).mono ?_
  rintro e _ ⟨rfl, rfl⟩
  go_wp2_with fail
  refine (H1.out _).mono ?_
  rintro e _ ⟨rfl, rfl⟩
  go_wp2_with fail
  refine (H4.out _).mono ?_
  rintro e _ ⟨rfl, rfl⟩
  go_wp2_with fail
  refine (H5.out _).mono ?_
  rintro e _ ⟨rfl, rfl⟩
  go_wp2_with fail
  refine (H6.out _).mono ?_
  rintro e _ ⟨rfl, rfl⟩
  go_wp2_with fail
  refine (H7.out _).mono ?_
  rintro e _ ⟨rfl, rfl⟩
  go_wp2_with fail
  refine (H8.out _).mono ?_
  rintro e _ ⟨rfl, rfl⟩
  go_wp2_with fail
  refine (H9.out _).mono ?_
  rintro e _ ⟨rfl, rfl⟩
  obtain ⟨q0A, q1A, q2A⟩ := three_below HA.out
  obtain ⟨q0B, q1B, q2B⟩ := three_below HB.out
  obtain ⟨q0X, q1X, q2X⟩ := three_below HX.out
  go_wp2_with fail
  refine wp_region_quiet_below (by kernel_rfl) (by kernel_rfl) ?_
  repeat (quiet_step (first | (go_at_call 28; with_reducible refine Calls.below_of (HI.out _))))
  refine wpQuiet_nil ?_
  intro _ hw'
  obtain ⟨pq, hw''⟩ := hw'
  subst hw''
  have hA := keep HA.out pq.h
  have hB := keep HB.out pq.h
  have hX := keep HX.out pq.h
  have hb := pq.h
  have hbz := HZ.out.trans (hb.mono HZ.out.size)
  clear HZ HA HB HX
  clear q0A q1A q2A q0B q1B q2B q0X q1X q2X
  generalize pq.x = w6 at *
  clear c0A c1A c2A z0A z1A z2A c0B c1B c2B z0B z1B z2B c0X c1X c2X z0X z1X z2X
  obtain ⟨c0A, c1A, c2A, z0A, z1A, z2A⟩ := three_facts hA
  have HA := Lib.hid hA
  obtain ⟨c0B, c1B, c2B, z0B, z1B, z2B⟩ := three_facts hB
  have HB := Lib.hid hB
  obtain ⟨c0X, c1X, c2X, z0X, z1X, z2X⟩ := three_facts hX
  have HX := Lib.hid hX
  have HZ := Lib.hid hbz
  clear hb hbz hA hB hX
  go_wp2_with fail
  go_ret
  exact ⟨rfl, HZ.out⟩
set_option maxRecDepth 100000 in
set_option maxHeartbeats 2000000 in
theorem vr_op8 (n n' : Int) (s s' : ByteArray) (v0 v1 v2 v3 v4 v5 v6 v7 v8 v9 de : Int) (hok : (okB 2 n s && okB 2 n' s') = true) (HD : ∀ w, Calls Try.prog 30 #[.int .i64 8, .agg #[.int .i64 2, .int .i64 n, .string s], .agg #[.int .i64 2, .int .i64 n', .string s']] w fun e w' => e = .returned (.tuple #[.agg #[.int .i64 2, .int .i64 v8, .string ⟨#[]⟩], .int .i64 0]) ∧ Below w.heap.size w w') (HQ : ∀ w, Calls Try.prog 31 #[.int .i64 n, .int .i64 n'] w fun e w' => e = .returned (.tuple #[.int .i64 v2, .int .i64 de]) ∧ w = w') (HM : ∀ w, Calls Try.prog 32 #[.int .i64 n, .int .i64 n'] w fun e w' => e = .returned (.tuple #[.int .i64 v3, .int .i64 de]) ∧ w = w') (H0 : ∀ w, Calls Try.prog 33 #[.int .i64 n, .int .i64 n'] w fun e w' => e = .returned (.int .i64 v0) ∧ w = w') (H1 : ∀ w, Calls Try.prog 34 #[.int .i64 n, .int .i64 n'] w fun e w' => e = .returned (.int .i64 v1) ∧ w = w') (H4 : ∀ w, Calls Try.prog 35 #[.int .i64 n, .int .i64 n'] w fun e w' => e = .returned (.int .i64 v4) ∧ w = w') (H5 : ∀ w, Calls Try.prog 36 #[.int .i64 n, .int .i64 n'] w fun e w' => e = .returned (.int .i64 v5) ∧ w = w') (H6 : ∀ w, Calls Try.prog 37 #[.int .i64 n, .int .i64 n'] w fun e w' => e = .returned (.int .i64 v6) ∧ w = w') (H7 : ∀ w, Calls Try.prog 38 #[.int .i64 n, .int .i64 n'] w fun e w' => e = .returned (.int .i64 v7) ∧ w = w') (H8 : ∀ w, Calls Try.prog 39 #[.int .i64 n, .int .i64 n'] w fun e w' => e = .returned (.int .i64 v8) ∧ w = w') (H9 : ∀ w, Calls Try.prog 40 #[.int .i64 n, .int .i64 n'] w fun e w' => e = .returned (.int .i64 v9) ∧ w = w') (w : World) : Calls Try.prog 8 #[.int .i64 8, .agg #[.int .i64 2, .int .i64 n, .string s], .agg #[.int .i64 2, .int .i64 n', .string s']] w fun e w' => e = .returned (.bool true) ∧ Below w.heap.size w w' := by
  have HR : Hid (∀ w, Calls Try.prog 14 #[.slice (some ⟨w.heap.size, 0, none⟩) 2 2] (w.alloc (.cells #[.int .i64 2, .int .i64 n, .string s, .int .i64 2, .int .i64 n', .string s'] 23)) fun e w' => e = .returned (.bool true) ∧ Below w.heap.size w w') := fun w => by have h := right_two 2 n 2 n' s s' 23 w; rw [hok] at h; exact h
  clear hok
  have HD := Lib.hid HD
  have HQ := Lib.hid HQ
  have HM := Lib.hid HM
  have H0 := Lib.hid H0
  have H1 := Lib.hid H1
  have H4 := Lib.hid H4
  have H5 := Lib.hid H5
  have H6 := Lib.hid H6
  have H7 := Lib.hid H7
  have H8 := Lib.hid H8
  have H9 := Lib.hid H9
  have HI := Lib.hid fun w => int_any v8 w
  have hix := fun w => A.ix10_8 w v0 v1 v2 v3 v4 v5 v6 v7 v8 v9
  go_enter Try.func8, Try.ntmps8
  go_wp2_with fail
  refine (tells_any _).mono ?_
  rintro e w1 ⟨rfl, hb⟩
  obtain ⟨hA, hB, hbz⟩ := box2 hb
  obtain ⟨c0A, c1A, c2A, z0A, z1A, z2A⟩ := three_facts hA
  have HA := Lib.hid hA
  obtain ⟨c0B, c1B, c2B, z0B, z1B, z2B⟩ := three_facts hB
  have HB := Lib.hid hB
  have HZ := Lib.hid hbz
  clear hb hbz hA hB
  go_wp2_with fail
  refine (HR.out _).mono ?_
  rintro e w2 ⟨rfl, hb⟩
  have hA := keep HA.out hb
  have hB := keep HB.out hb
  have hbz := HZ.out.trans (hb.mono HZ.out.size)
  clear HZ HA HB
  clear c0A c1A c2A z0A z1A z2A c0B c1B c2B z0B z1B z2B
  obtain ⟨c0A, c1A, c2A, z0A, z1A, z2A⟩ := three_facts hA
  have HA := Lib.hid hA
  obtain ⟨c0B, c1B, c2B, z0B, z1B, z2B⟩ := three_facts hB
  have HB := Lib.hid hB
  have HZ := Lib.hid hbz
  clear hb hbz hA hB
  go_wp2_with fail
  refine (HD.out _).mono ?_
  rintro e w3 ⟨rfl, hb⟩
  have hA := keep HA.out hb
  have hB := keep HB.out hb
  have hbz := HZ.out.trans (hb.mono HZ.out.size)
  clear HZ HA HB
  clear c0A c1A c2A z0A z1A z2A c0B c1B c2B z0B z1B z2B
  obtain ⟨c0A, c1A, c2A, z0A, z1A, z2A⟩ := three_facts hA
  have HA := Lib.hid hA
  obtain ⟨c0B, c1B, c2B, z0B, z1B, z2B⟩ := three_facts hB
  have HB := Lib.hid hB
  have HZ := Lib.hid hbz
  clear hb hbz hA hB
  have hE := (Below.refl w3.heap.size w3).alloc (Nat.le_refl _) (.cells #[.int .i64 2, .int .i64 v8, .string ⟨#[]⟩] 23)
  clear c0A c1A c2A z0A z1A z2A c0B c1B c2B z0B z1B z2B
  have gA := keep HA.out hE
  have gB := keep HB.out hE
  have gX := heap_alloc_new w3 (.cells #[.int .i64 2, .int .i64 v8, .string ⟨#[]⟩] 23)
  obtain ⟨c0A, c1A, c2A, z0A, z1A, z2A⟩ := three_facts gA
  have GA := Lib.hid gA
  obtain ⟨c0B, c1B, c2B, z0B, z1B, z2B⟩ := three_facts gB
  have GB := Lib.hid gB
  obtain ⟨c0X, c1X, c2X, z0X, z1X, z2X⟩ := three_facts gX
  have GX := Lib.hid gX
  have GZ := Lib.hid (HZ.out.trans (hE.mono HZ.out.size))
  clear hE HZ gA gB gX HA HB
  go_wp2_with fail
  generalize w3.alloc (.cells #[.int .i64 2, .int .i64 v8, .string ⟨#[]⟩] 23) = w4 at *
  have HA := GA
  have HB := GB
  have HX := GX
  have HZ := GZ
  clear GZ GA GB GX
  go_quiet (fail)
  have hb : Below w4.heap.size w4 (w4.drewN nq) := below_drewN (Below.refl _ _) _
  generalize w4.drewN nq = w5 at *
  have hA := keep HA.out hb
  have hB := keep HB.out hb
  have hX := keep HX.out hb
  have hbz := HZ.out.trans (hb.mono HZ.out.size)
  clear HZ HA HB HX
  clear c0A c1A c2A z0A z1A z2A c0B c1B c2B z0B z1B z2B c0X c1X c2X z0X z1X z2X
  obtain ⟨c0A, c1A, c2A, z0A, z1A, z2A⟩ := three_facts hA
  have HA := Lib.hid hA
  obtain ⟨c0B, c1B, c2B, z0B, z1B, z2B⟩ := three_facts hB
  have HB := Lib.hid hB
  obtain ⟨c0X, c1X, c2X, z0X, z1X, z2X⟩ := three_facts hX
  have HX := Lib.hid hX
  have HZ := Lib.hid hbz
  clear hb hbz hA hB hX
  go_wp2_with fail
  refine (HQ.out _).mono ?_
  rintro e _ ⟨rfl, rfl⟩
  go_wp2_with fail
  refine (HM.out _).mono ?_
  rintro e _ ⟨rfl, rfl⟩
  go_wp2_with fail
  refine (H0.out _).mono ?_
  rintro e _ ⟨rfl, rfl⟩
  go_wp2_with fail
  refine (H1.out _).mono ?_
  rintro e _ ⟨rfl, rfl⟩
  go_wp2_with fail
  refine (H4.out _).mono ?_
  rintro e _ ⟨rfl, rfl⟩
  go_wp2_with fail
  refine (H5.out _).mono ?_
  rintro e _ ⟨rfl, rfl⟩
  go_wp2_with fail
  refine (H6.out _).mono ?_
  rintro e _ ⟨rfl, rfl⟩
  go_wp2_with fail
  refine (H7.out _).mono ?_
  rintro e _ ⟨rfl, rfl⟩
  go_wp2_with fail
  refine (H8.out _).mono ?_
  rintro e _ ⟨rfl, rfl⟩
  go_wp2_with fail
  refine (H9.out _).mono ?_
  rintro e _ ⟨rfl, rfl⟩
  obtain ⟨q0A, q1A, q2A⟩ := three_below HA.out
  obtain ⟨q0B, q1B, q2B⟩ := three_below HB.out
  obtain ⟨q0X, q1X, q2X⟩ := three_below HX.out
  go_wp2_with fail
  refine wp_region_quiet_below (by kernel_rfl) (by kernel_rfl) ?_
  repeat (quiet_step (first | (go_at_call 28; with_reducible refine Calls.below_of (HI.out _))))
  refine wpQuiet_nil ?_
  intro _ hw'
  obtain ⟨pq, hw''⟩ := hw'
  subst hw''
  have hA := keep HA.out pq.h
  have hB := keep HB.out pq.h
  have hX := keep HX.out pq.h
  have hb := pq.h
  have hbz := HZ.out.trans (hb.mono HZ.out.size)
  clear HZ HA HB HX
  clear q0A q1A q2A q0B q1B q2B q0X q1X q2X
  generalize pq.x = w6 at *
  clear c0A c1A c2A z0A z1A z2A c0B c1B c2B z0B z1B z2B c0X c1X c2X z0X z1X z2X
  obtain ⟨c0A, c1A, c2A, z0A, z1A, z2A⟩ := three_facts hA
  have HA := Lib.hid hA
  obtain ⟨c0B, c1B, c2B, z0B, z1B, z2B⟩ := three_facts hB
  have HB := Lib.hid hB
  obtain ⟨c0X, c1X, c2X, z0X, z1X, z2X⟩ := three_facts hX
  have HX := Lib.hid hX
  have HZ := Lib.hid hbz
  clear hb hbz hA hB hX
  go_wp2_with fail
  go_ret
  exact ⟨rfl, HZ.out⟩
set_option maxRecDepth 100000 in
set_option maxHeartbeats 2000000 in
theorem vr_op9 (n n' : Int) (s s' : ByteArray) (v0 v1 v2 v3 v4 v5 v6 v7 v8 v9 de : Int) (hok : (okB 2 n s && okB 2 n' s') = true) (HD : ∀ w, Calls Try.prog 30 #[.int .i64 9, .agg #[.int .i64 2, .int .i64 n, .string s], .agg #[.int .i64 2, .int .i64 n', .string s']] w fun e w' => e = .returned (.tuple #[.agg #[.int .i64 2, .int .i64 v9, .string ⟨#[]⟩], .int .i64 0]) ∧ Below w.heap.size w w') (HQ : ∀ w, Calls Try.prog 31 #[.int .i64 n, .int .i64 n'] w fun e w' => e = .returned (.tuple #[.int .i64 v2, .int .i64 de]) ∧ w = w') (HM : ∀ w, Calls Try.prog 32 #[.int .i64 n, .int .i64 n'] w fun e w' => e = .returned (.tuple #[.int .i64 v3, .int .i64 de]) ∧ w = w') (H0 : ∀ w, Calls Try.prog 33 #[.int .i64 n, .int .i64 n'] w fun e w' => e = .returned (.int .i64 v0) ∧ w = w') (H1 : ∀ w, Calls Try.prog 34 #[.int .i64 n, .int .i64 n'] w fun e w' => e = .returned (.int .i64 v1) ∧ w = w') (H4 : ∀ w, Calls Try.prog 35 #[.int .i64 n, .int .i64 n'] w fun e w' => e = .returned (.int .i64 v4) ∧ w = w') (H5 : ∀ w, Calls Try.prog 36 #[.int .i64 n, .int .i64 n'] w fun e w' => e = .returned (.int .i64 v5) ∧ w = w') (H6 : ∀ w, Calls Try.prog 37 #[.int .i64 n, .int .i64 n'] w fun e w' => e = .returned (.int .i64 v6) ∧ w = w') (H7 : ∀ w, Calls Try.prog 38 #[.int .i64 n, .int .i64 n'] w fun e w' => e = .returned (.int .i64 v7) ∧ w = w') (H8 : ∀ w, Calls Try.prog 39 #[.int .i64 n, .int .i64 n'] w fun e w' => e = .returned (.int .i64 v8) ∧ w = w') (H9 : ∀ w, Calls Try.prog 40 #[.int .i64 n, .int .i64 n'] w fun e w' => e = .returned (.int .i64 v9) ∧ w = w') (w : World) : Calls Try.prog 8 #[.int .i64 9, .agg #[.int .i64 2, .int .i64 n, .string s], .agg #[.int .i64 2, .int .i64 n', .string s']] w fun e w' => e = .returned (.bool true) ∧ Below w.heap.size w w' := by
  have HR : Hid (∀ w, Calls Try.prog 14 #[.slice (some ⟨w.heap.size, 0, none⟩) 2 2] (w.alloc (.cells #[.int .i64 2, .int .i64 n, .string s, .int .i64 2, .int .i64 n', .string s'] 23)) fun e w' => e = .returned (.bool true) ∧ Below w.heap.size w w') := fun w => by have h := right_two 2 n 2 n' s s' 23 w; rw [hok] at h; exact h
  clear hok
  have HD := Lib.hid HD
  have HQ := Lib.hid HQ
  have HM := Lib.hid HM
  have H0 := Lib.hid H0
  have H1 := Lib.hid H1
  have H4 := Lib.hid H4
  have H5 := Lib.hid H5
  have H6 := Lib.hid H6
  have H7 := Lib.hid H7
  have H8 := Lib.hid H8
  have H9 := Lib.hid H9
  have HI := Lib.hid fun w => int_any v9 w
  have hix := fun w => A.ix10_9 w v0 v1 v2 v3 v4 v5 v6 v7 v8 v9
  go_enter Try.func8, Try.ntmps8
  go_wp2_with fail
  refine (tells_any _).mono ?_
  rintro e w1 ⟨rfl, hb⟩
  obtain ⟨hA, hB, hbz⟩ := box2 hb
  obtain ⟨c0A, c1A, c2A, z0A, z1A, z2A⟩ := three_facts hA
  have HA := Lib.hid hA
  obtain ⟨c0B, c1B, c2B, z0B, z1B, z2B⟩ := three_facts hB
  have HB := Lib.hid hB
  have HZ := Lib.hid hbz
  clear hb hbz hA hB
  go_wp2_with fail
  refine (HR.out _).mono ?_
  rintro e w2 ⟨rfl, hb⟩
  have hA := keep HA.out hb
  have hB := keep HB.out hb
  have hbz := HZ.out.trans (hb.mono HZ.out.size)
  clear HZ HA HB
  clear c0A c1A c2A z0A z1A z2A c0B c1B c2B z0B z1B z2B
  obtain ⟨c0A, c1A, c2A, z0A, z1A, z2A⟩ := three_facts hA
  have HA := Lib.hid hA
  obtain ⟨c0B, c1B, c2B, z0B, z1B, z2B⟩ := three_facts hB
  have HB := Lib.hid hB
  have HZ := Lib.hid hbz
  clear hb hbz hA hB
  go_wp2_with fail
  refine (HD.out _).mono ?_
  rintro e w3 ⟨rfl, hb⟩
  have hA := keep HA.out hb
  have hB := keep HB.out hb
  have hbz := HZ.out.trans (hb.mono HZ.out.size)
  clear HZ HA HB
  clear c0A c1A c2A z0A z1A z2A c0B c1B c2B z0B z1B z2B
  obtain ⟨c0A, c1A, c2A, z0A, z1A, z2A⟩ := three_facts hA
  have HA := Lib.hid hA
  obtain ⟨c0B, c1B, c2B, z0B, z1B, z2B⟩ := three_facts hB
  have HB := Lib.hid hB
  have HZ := Lib.hid hbz
  clear hb hbz hA hB
  have hE := (Below.refl w3.heap.size w3).alloc (Nat.le_refl _) (.cells #[.int .i64 2, .int .i64 v9, .string ⟨#[]⟩] 23)
  clear c0A c1A c2A z0A z1A z2A c0B c1B c2B z0B z1B z2B
  have gA := keep HA.out hE
  have gB := keep HB.out hE
  have gX := heap_alloc_new w3 (.cells #[.int .i64 2, .int .i64 v9, .string ⟨#[]⟩] 23)
  obtain ⟨c0A, c1A, c2A, z0A, z1A, z2A⟩ := three_facts gA
  have GA := Lib.hid gA
  obtain ⟨c0B, c1B, c2B, z0B, z1B, z2B⟩ := three_facts gB
  have GB := Lib.hid gB
  obtain ⟨c0X, c1X, c2X, z0X, z1X, z2X⟩ := three_facts gX
  have GX := Lib.hid gX
  have GZ := Lib.hid (HZ.out.trans (hE.mono HZ.out.size))
  clear hE HZ gA gB gX HA HB
  go_wp2_with fail
  generalize w3.alloc (.cells #[.int .i64 2, .int .i64 v9, .string ⟨#[]⟩] 23) = w4 at *
  have HA := GA
  have HB := GB
  have HX := GX
  have HZ := GZ
  clear GZ GA GB GX
  go_quiet (fail)
  have hb : Below w4.heap.size w4 (w4.drewN nq) := below_drewN (Below.refl _ _) _
  generalize w4.drewN nq = w5 at *
  have hA := keep HA.out hb
  have hB := keep HB.out hb
  have hX := keep HX.out hb
  have hbz := HZ.out.trans (hb.mono HZ.out.size)
  clear HZ HA HB HX
  clear c0A c1A c2A z0A z1A z2A c0B c1B c2B z0B z1B z2B c0X c1X c2X z0X z1X z2X
  obtain ⟨c0A, c1A, c2A, z0A, z1A, z2A⟩ := three_facts hA
  have HA := Lib.hid hA
  obtain ⟨c0B, c1B, c2B, z0B, z1B, z2B⟩ := three_facts hB
  have HB := Lib.hid hB
  obtain ⟨c0X, c1X, c2X, z0X, z1X, z2X⟩ := three_facts hX
  have HX := Lib.hid hX
  have HZ := Lib.hid hbz
  clear hb hbz hA hB hX
  go_wp2_with fail
  refine (HQ.out _).mono ?_
  rintro e _ ⟨rfl, rfl⟩
  go_wp2_with fail
  refine (HM.out _).mono ?_
  rintro e _ ⟨rfl, rfl⟩
  go_wp2_with fail
  refine (H0.out _).mono ?_
  rintro e _ ⟨rfl, rfl⟩
  go_wp2_with fail
  refine (H1.out _).mono ?_
  rintro e _ ⟨rfl, rfl⟩
  go_wp2_with fail
  refine (H4.out _).mono ?_
  rintro e _ ⟨rfl, rfl⟩
  go_wp2_with fail
  refine (H5.out _).mono ?_
  rintro e _ ⟨rfl, rfl⟩
  go_wp2_with fail
  refine (H6.out _).mono ?_
  rintro e _ ⟨rfl, rfl⟩
  go_wp2_with fail
  refine (H7.out _).mono ?_
  rintro e _ ⟨rfl, rfl⟩
  go_wp2_with fail
  refine (H8.out _).mono ?_
  rintro e _ ⟨rfl, rfl⟩
  go_wp2_with fail
  refine (H9.out _).mono ?_
  rintro e _ ⟨rfl, rfl⟩
  obtain ⟨q0A, q1A, q2A⟩ := three_below HA.out
  obtain ⟨q0B, q1B, q2B⟩ := three_below HB.out
  obtain ⟨q0X, q1X, q2X⟩ := three_below HX.out
  go_wp2_with fail
  refine wp_region_quiet_below (by kernel_rfl) (by kernel_rfl) ?_
  repeat (quiet_step (first | (go_at_call 28; with_reducible refine Calls.below_of (HI.out _))))
  refine wpQuiet_nil ?_
  intro _ hw'
  obtain ⟨pq, hw''⟩ := hw'
  subst hw''
  have hA := keep HA.out pq.h
  have hB := keep HB.out pq.h
  have hX := keep HX.out pq.h
  have hb := pq.h
  have hbz := HZ.out.trans (hb.mono HZ.out.size)
  clear HZ HA HB HX
  clear q0A q1A q2A q0B q1B q2B q0X q1X q2X
  generalize pq.x = w6 at *
  clear c0A c1A c2A z0A z1A z2A c0B c1B c2B z0B z1B z2B c0X c1X c2X z0X z1X z2X
  obtain ⟨c0A, c1A, c2A, z0A, z1A, z2A⟩ := three_facts hA
  have HA := Lib.hid hA
  obtain ⟨c0B, c1B, c2B, z0B, z1B, z2B⟩ := three_facts hB
  have HB := Lib.hid hB
  obtain ⟨c0X, c1X, c2X, z0X, z1X, z2X⟩ := three_facts hX
  have HX := Lib.hid hX
  have HZ := Lib.hid hbz
  clear hb hbz hA hB hX
  go_wp2_with fail
  go_ret
  exact ⟨rfl, HZ.out⟩

theorem valueReckons_walk (op : Int) (_ : (Lit.int .i64 op).wf = true) (k n : Int) (s : ByteArray) (_ : (Lit.int .i64 k).wf = true) (_ : (Lit.int .i64 n).wf = true) (_ : s.size ≤ maxLen) (k' n' : Int) (s' : ByteArray) (_ : (Lit.int .i64 k').wf = true) (_ : (Lit.int .i64 n').wf = true) (_ : s'.size ≤ maxLen) (w : World) :
    Calls Try.prog 8 #[.int .i64 op, .agg #[.int .i64 k, .int .i64 n, .string s], .agg #[.int .i64 k', .int .i64 n', .string s']] w fun e w' => e = .returned (.bool true) ∧ Below w.heap.size w w' := by
  cases hok : okB k n s && okB k' n' s'
  · exact vr_off op k n k' n' s s' hok w
  · by_cases h : op < 0
    · exact vr_low op k n k' n' s s' h hok (fun w => rec_range op k n k' n' s s' (Or.inl h) w) w
    · by_cases h9 : 10 ≤ op
      · exact vr_high op k n k' n' s s' h h9 hok (fun w => rec_range op k n k' n' s s' (Or.inr (by omega)) w) w
      · have h0 : 0 ≤ op := by omega
        have h10 : op < 10 := by omega
        by_cases hk : k = 2
        · subst hk
          by_cases hk' : k' = 2
          · subst hk'
            have HQ := fun w => ndiv_any n n' w
            have HM := fun w => nmod_any n n' w
            have H0 := fun w => nsub_any n n' w
            have H1 := fun w => nmul_any n n' w
            have H4 := fun w => nand_any n n' w
            have H5 := fun w => nor_any n n' w
            have H6 := fun w => nxor_any n n' w
            have H7 := fun w => Nu.left_any n n' w
            have H8 := fun w => Nu.right_any n n' w
            have H9 := fun w => Nu.logical_any n n' w
            rcases ops10 h0 h10 with rfl | rfl | rfl | rfl | rfl | rfl | rfl | rfl | rfl | rfl
            · exact vr_op0 n n' s s' _ _ _ _ _ _ _ _ _ _ _ hok (fun w => by have h := rec_ok 0 n n' s s' (by omega) (by omega) (by simp [opE]) w; rw [show opN 0 n n' = wrap64 (n - n') by simp [opN]] at h; exact h) HQ HM H0 H1 H4 H5 H6 H7 H8 H9 w
            · exact vr_op1 n n' s s' _ _ _ _ _ _ _ _ _ _ _ hok (fun w => by have h := rec_ok 1 n n' s s' (by omega) (by omega) (by simp [opE]) w; rw [show opN 1 n n' = wrap64 (n * n') by simp [opN]] at h; exact h) HQ HM H0 H1 H4 H5 H6 H7 H8 H9 w
            · by_cases hz : n' = 0
              · have he : dvE n' = 10 := by simp [dvE, hz]
                rw [he] at HQ HM
                exact vr_op2e n n' s s' _ _ _ _ _ _ _ _ _ _ hok (fun w => by have h := rec_err 2 n n' s s' (by omega) (by omega) (by simp [opE, he]) w; rw [show opE 2 n' = 10 by simp [opE, he]] at h; exact h) HQ HM H0 H1 H4 H5 H6 H7 H8 H9 w
              · have he : dvE n' = 0 := by simp [dvE, hz]
                rw [he] at HQ HM
                exact vr_op2 n n' s s' _ _ _ _ _ _ _ _ _ _ hok (fun w => by have h := rec_ok 2 n n' s s' (by omega) (by omega) (by simp [opE, he]) w; rw [show opN 2 n n' = dvN n n' by simp [opN]] at h; exact h) HQ HM H0 H1 H4 H5 H6 H7 H8 H9 w
            · by_cases hz : n' = 0
              · have he : dvE n' = 10 := by simp [dvE, hz]
                rw [he] at HQ HM
                exact vr_op3e n n' s s' _ _ _ _ _ _ _ _ _ _ hok (fun w => by have h := rec_err 3 n n' s s' (by omega) (by omega) (by simp [opE, he]) w; rw [show opE 3 n' = 10 by simp [opE, he]] at h; exact h) HQ HM H0 H1 H4 H5 H6 H7 H8 H9 w
              · have he : dvE n' = 0 := by simp [dvE, hz]
                rw [he] at HQ HM
                exact vr_op3 n n' s s' _ _ _ _ _ _ _ _ _ _ hok (fun w => by have h := rec_ok 3 n n' s s' (by omega) (by omega) (by simp [opE, he]) w; rw [show opN 3 n n' = mdN n n' by simp [opN]] at h; exact h) HQ HM H0 H1 H4 H5 H6 H7 H8 H9 w
            · exact vr_op4 n n' s s' _ _ _ _ _ _ _ _ _ _ _ hok (fun w => by have h := rec_ok 4 n n' s s' (by omega) (by omega) (by simp [opE]) w; rw [show opN 4 n n' = bits .and .i64 n n' by simp [opN]] at h; exact h) HQ HM H0 H1 H4 H5 H6 H7 H8 H9 w
            · exact vr_op5 n n' s s' _ _ _ _ _ _ _ _ _ _ _ hok (fun w => by have h := rec_ok 5 n n' s s' (by omega) (by omega) (by simp [opE]) w; rw [show opN 5 n n' = bits .or .i64 n n' by simp [opN]] at h; exact h) HQ HM H0 H1 H4 H5 H6 H7 H8 H9 w
            · exact vr_op6 n n' s s' _ _ _ _ _ _ _ _ _ _ _ hok (fun w => by have h := rec_ok 6 n n' s s' (by omega) (by omega) (by simp [opE]) w; rw [show opN 6 n n' = bits .xor .i64 n n' by simp [opN]] at h; exact h) HQ HM H0 H1 H4 H5 H6 H7 H8 H9 w
            · exact vr_op7 n n' s s' _ _ _ _ _ _ _ _ _ _ _ hok (fun w => by have h := rec_ok 7 n n' s s' (by omega) (by omega) (by simp [opE]) w; rw [show opN 7 n n' = wrap64 (n * 2 ^ Nu.far n') by simp [opN]] at h; exact h) HQ HM H0 H1 H4 H5 H6 H7 H8 H9 w
            · exact vr_op8 n n' s s' _ _ _ _ _ _ _ _ _ _ _ hok (fun w => by have h := rec_ok 8 n n' s s' (by omega) (by omega) (by simp [opE]) w; rw [show opN 8 n n' = n / 2 ^ Nu.far n' by simp [opN]] at h; exact h) HQ HM H0 H1 H4 H5 H6 H7 H8 H9 w
            · exact vr_op9 n n' s s' _ _ _ _ _ _ _ _ _ _ _ hok (fun w => by have h := rec_ok 9 n n' s s' (by omega) (by omega) (by simp [opE]) w; rw [show opN 9 n n' = wrap64 (((Nu.U n / 2 ^ Nu.far n' : Nat)) : Int) by simp [opN]] at h; exact h) HQ HM H0 H1 H4 H5 H6 H7 H8 H9 w
          · exact vr_type2 op n k' n' s s' h h9 (bne_yes hk') hok (fun w => rec_type op 2 n k' n' s s' h0 h10 (by simp [two, hk']) w) w
        · exact vr_type1 op k n k' n' s s' h h9 (bne_yes hk) hok (fun w => rec_type op k n k' n' s s' h0 h10 (by simp [two, hk]) w) w
end Go.Proofs.Ythmeehmobcaadaa.Va
