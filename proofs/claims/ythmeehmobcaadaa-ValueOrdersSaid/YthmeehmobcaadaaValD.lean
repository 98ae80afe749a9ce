/- 'ValueOrders': the walk. -/
import Derived.Test.YthmeehmobcaadaaVal9
namespace Go.Proofs.Ythmeehmobcaadaa.Va
open Go.RowKit Go.ChangeShapes Go.WideShapes Go.ChangeAt

theorem cmp_range (a b : List UInt8) : Lib.compareBytes a b = -1 ∨ Lib.compareBytes a b = 0 ∨ Lib.compareBytes a b = 1 := by
  induction a generalizing b with
  | nil => cases b <;> simp [Lib.compareBytes]
  | cons x a ih =>
    cases b with
    | nil => simp [Lib.compareBytes]
    | cons y b =>
      simp only [Lib.compareBytes]
      split
      · simp
      · split
        · simp
        · exact ih b
theorem cmp_back (a b : List UInt8) : Lib.compareBytes b a = -(Lib.compareBytes a b) := by
  induction a generalizing b with
  | nil => cases b <;> simp [Lib.compareBytes]
  | cons x a ih =>
    cases b with
    | nil => simp [Lib.compareBytes]
    | cons y b =>
      have e := ih b
      simp only [Lib.compareBytes]
      repeat' split
      all_goals first
        | exact e
        | rfl
        | (exfalso; simp only [UInt8.lt_iff_toNat_lt] at *; omega)
theorem ncmp_back (a b : Int) : Nu.cmp b a = -(Nu.cmp a b) := by unfold Nu.cmp; repeat' split
                                                                 all_goals omega
set_option maxRecDepth 100000 in
set_option maxHeartbeats 1000000 in
theorem vo_off (k n k' n' : Int) (s s' : ByteArray) (hok : (okB k n s && okB k' n' s') = false) (w : World) : Calls Try.prog 6 #[.agg #[.int .i64 k, .int .i64 n, .string s], .agg #[.int .i64 k', .int .i64 n', .string s']] w fun e w' => e = .returned (.bool true) ∧ Below w.heap.size w w' := by
  have HR : Hid (∀ w, Calls Try.prog 14 #[.slice (some ⟨w.heap.size, 0, none⟩) 2 2] (w.alloc (.cells #[.int .i64 k, .int .i64 n, .string s, .int .i64 k', .int .i64 n', .string s'] 23)) fun e w' => e = .returned (.bool false) ∧ Below w.heap.size w w') := fun w => by have h := right_two k n k' n' s s' 23 w; rw [hok] at h; exact h
  clear hok
  go_enter Try.func6, Try.ntmps6
  go_wp2_with fail
  refine (tells_any _).mono ?_
  rintro e w1 ⟨rfl, hb⟩
  obtain ⟨hA, hB, hbz⟩ := box2 hb
  obtain ⟨c0A, c1A, c2A, z0A, z1A, z2A⟩ := three_facts hA
  have HA := Lib.hid hA
  obtain ⟨c0B, c1B, c2B, z0B, z1B, z2B⟩ := three_facts hB
  have HB := Lib.hid hB
  have HZ := Lib.hid hbz
  clear hb hbz hA hB
  go_wp2_with fail
  refine (HR.out _).mono ?_
  rintro e w2 ⟨rfl, hb⟩
  have hA := keep HA.out hb
  have hB := keep HB.out hb
  have hbz := HZ.out.trans (hb.mono HZ.out.size)
  clear HZ HA HB
  clear c0A c1A c2A z0A z1A z2A c0B c1B c2B z0B z1B z2B
  obtain ⟨c0A, c1A, c2A, z0A, z1A, z2A⟩ := three_facts hA
  have HA := Lib.hid hA
  obtain ⟨c0B, c1B, c2B, z0B, z1B, z2B⟩ := three_facts hB
  have HB := Lib.hid hB
  have HZ := Lib.hid hbz
  clear hb hbz hA hB
  go_wp2_with fail
  go_ret
  exact ⟨rfl, HZ.out⟩
set_option maxRecDepth 100000 in
set_option maxHeartbeats 1000000 in
theorem vo_same (k n : Int) (s : ByteArray) (hok : (okB k n s && okB k n s) = true) (H1 : ∀ w, Calls Try.prog 24 #[.agg #[.int .i64 k, .int .i64 n, .string s], .agg #[.int .i64 k, .int .i64 n, .string s]] w fun e w' => e = .returned (.tuple #[.int .i64 0, .int .i64 0]) ∧ Below w.heap.size w w') (H2 : ∀ w, Calls Try.prog 24 #[.agg #[.int .i64 k, .int .i64 n, .string s], .agg #[.int .i64 k, .int .i64 n, .string s]] w fun e w' => e = .returned (.tuple #[.int .i64 0, .int .i64 0]) ∧ Below w.heap.size w w') (w : World) : Calls Try.prog 6 #[.agg #[.int .i64 k, .int .i64 n, .string s], .agg #[.int .i64 k, .int .i64 n, .string s]] w fun e w' => e = .returned (.bool true) ∧ Below w.heap.size w w' := by
  have HR : Hid (∀ w, Calls Try.prog 14 #[.slice (some ⟨w.heap.size, 0, none⟩) 2 2] (w.alloc (.cells #[.int .i64 k, .int .i64 n, .string s, .int .i64 k, .int .i64 n, .string s] 23)) fun e w' => e = .returned (.bool true) ∧ Below w.heap.size w w') := fun w => by have h := right_two k n k n s s 23 w; rw [hok] at h; exact h
  clear hok
  have HC := Lib.hid H1
  have HD := Lib.hid H2
  go_enter Try.func6, Try.ntmps6
  go_wp2_with fail
  refine (tells_any _).mono ?_
  rintro e w1 ⟨rfl, hb⟩
  obtain ⟨hA, hB, hbz⟩ := box2 hb
  obtain ⟨c0A, c1A, c2A, z0A, z1A, z2A⟩ := three_facts hA
  have HA := Lib.hid hA
  obtain ⟨c0B, c1B, c2B, z0B, z1B, z2B⟩ := three_facts hB
  have HB := Lib.hid hB
  have HZ := Lib.hid hbz
  clear hb hbz hA hB
  go_wp2_with fail
  refine (HR.out _).mono ?_
  rintro e w2 ⟨rfl, hb⟩
  have hA := keep HA.out hb
  have hB := keep HB.out hb
  have hbz := HZ.out.trans (hb.mono HZ.out.size)
  clear HZ HA HB
  clear c0A c1A c2A z0A z1A z2A c0B c1B c2B z0B z1B z2B
  obtain ⟨c0A, c1A, c2A, z0A, z1A, z2A⟩ := three_facts hA
  have HA := Lib.hid hA
  obtain ⟨c0B, c1B, c2B, z0B, z1B, z2B⟩ := three_facts hB
  have HB := Lib.hid hB
  have HZ := Lib.hid hbz
  clear hb hbz hA hB
  go_wp2_with fail
  refine (HC.out _).mono ?_
  rintro e w3 ⟨rfl, hb⟩
  have hA := keep HA.out hb
  have hB := keep HB.out hb
  have hbz := HZ.out.trans (hb.mono HZ.out.size)
  clear HZ HA HB
  clear c0A c1A c2A z0A z1A z2A c0B c1B c2B z0B z1B z2B
  obtain ⟨c0A, c1A, c2A, z0A, z1A, z2A⟩ := three_facts hA
  have HA := Lib.hid hA
  obtain ⟨c0B, c1B, c2B, z0B, z1B, z2B⟩ := three_facts hB
  have HB := Lib.hid hB
  have HZ := Lib.hid hbz
  clear hb hbz hA hB
  go_wp2_with fail
  refine (HD.out _).mono ?_
  rintro e w4 ⟨rfl, hb⟩
  have hA := keep HA.out hb
  have hB := keep HB.out hb
  have hbz := HZ.out.trans (hb.mono HZ.out.size)
  clear HZ HA HB
  clear c0A c1A c2A z0A z1A z2A c0B c1B c2B z0B z1B z2B
  obtain ⟨c0A, c1A, c2A, z0A, z1A, z2A⟩ := three_facts hA
  have HA := Lib.hid hA
  obtain ⟨c0B, c1B, c2B, z0B, z1B, z2B⟩ := three_facts hB
  have HB := Lib.hid hB
  have HZ := Lib.hid hbz
  clear hb hbz hA hB
  go_wp2_with fail
  refine (same_yes _ _ _ _).mono ?_
  rintro e w5 ⟨rfl, hb⟩
  have hA := keep HA.out hb
  have hB := keep HB.out hb
  have hbz := HZ.out.trans (hb.mono HZ.out.size)
  clear HZ HA HB
  clear c0A c1A c2A z0A z1A z2A c0B c1B c2B z0B z1B z2B
  obtain ⟨c0A, c1A, c2A, z0A, z1A, z2A⟩ := three_facts hA
  have HA := Lib.hid hA
  obtain ⟨c0B, c1B, c2B, z0B, z1B, z2B⟩ := three_facts hB
  have HB := Lib.hid hB
  have HZ := Lib.hid hbz
  clear hb hbz hA hB
  go_wp2_with fail
  go_ret
  exact ⟨rfl, HZ.out⟩
set_option maxRecDepth 100000 in
set_option maxHeartbeats 1000000 in
theorem vo_null1 (n k' n' : Int) (s s' : ByteArray) (hs : ¬ ((0 : Int) = k' ∧ n = n' ∧ s = s')) (hok : (okB 0 n s && okB k' n' s') = true) (H1 : ∀ w, Calls Try.prog 24 #[.agg #[.int .i64 0, .int .i64 n, .string s], .agg #[.int .i64 k', .int .i64 n', .string s']] w fun e w' => e = .returned (.tuple #[.int .i64 (-1), .int .i64 0]) ∧ Below w.heap.size w w') (H2 : ∀ w, Calls Try.prog 24 #[.agg #[.int .i64 k', .int .i64 n', .string s'], .agg #[.int .i64 0, .int .i64 n, .string s]] w fun e w' => e = .returned (.tuple #[.int .i64 1, .int .i64 0]) ∧ Below w.heap.size w w') (w : World) : Calls Try.prog 6 #[.agg #[.int .i64 0, .int .i64 n, .string s], .agg #[.int .i64 k', .int .i64 n', .string s']] w fun e w' => e = .returned (.bool true) ∧ Below w.heap.size w w' := by
  have HR : Hid (∀ w, Calls Try.prog 14 #[.slice (some ⟨w.heap.size, 0, none⟩) 2 2] (w.alloc (.cells #[.int .i64 0, .int .i64 n, .string s, .int .i64 k', .int .i64 n', .string s'] 23)) fun e w' => e = .returned (.bool true) ∧ Below w.heap.size w w') := fun w => by have h := right_two 0 n k' n' s s' 23 w; rw [hok] at h; exact h
  clear hok
  have HC := Lib.hid H1
  have HD := Lib.hid H2
  have HS := Lib.hid fun w => same_no 0 n k' n' s s' hs w
  go_enter Try.func6, Try.ntmps6
  go_wp2_with fail
  refine (tells_any _).mono ?_
  rintro e w1 ⟨rfl, hb⟩
  obtain ⟨hA, hB, hbz⟩ := box2 hb
  obtain ⟨c0A, c1A, c2A, z0A, z1A, z2A⟩ := three_facts hA
  have HA := Lib.hid hA
  obtain ⟨c0B, c1B, c2B, z0B, z1B, z2B⟩ := three_facts hB
  have HB := Lib.hid hB
  have HZ := Lib.hid hbz
  clear hb hbz hA hB
  go_wp2_with fail
  refine (HR.out _).mono ?_
  rintro e w2 ⟨rfl, hb⟩
  have hA := keep HA.out hb
  have hB := keep HB.out hb
  have hbz := HZ.out.trans (hb.mono HZ.out.size)
  clear HZ HA HB
  clear c0A c1A c2A z0A z1A z2A c0B c1B c2B z0B z1B z2B
  obtain ⟨c0A, c1A, c2A, z0A, z1A, z2A⟩ := three_facts hA
  have HA := Lib.hid hA
  obtain ⟨c0B, c1B, c2B, z0B, z1B, z2B⟩ := three_facts hB
  have HB := Lib.hid hB
  have HZ := Lib.hid hbz
  clear hb hbz hA hB
  go_wp2_with fail
  refine (HC.out _).mono ?_
  rintro e w3 ⟨rfl, hb⟩
  have hA := keep HA.out hb
  have hB := keep HB.out hb
  have hbz := HZ.out.trans (hb.mono HZ.out.size)
  clear HZ HA HB
  clear c0A c1A c2A z0A z1A z2A c0B c1B c2B z0B z1B z2B
  obtain ⟨c0A, c1A, c2A, z0A, z1A, z2A⟩ := three_facts hA
  have HA := Lib.hid hA
  obtain ⟨c0B, c1B, c2B, z0B, z1B, z2B⟩ := three_facts hB
  have HB := Lib.hid hB
  have HZ := Lib.hid hbz
  clear hb hbz hA hB
  go_wp2_with fail
  refine (HD.out _).mono ?_
  rintro e w4 ⟨rfl, hb⟩
  have hA := keep HA.out hb
  have hB := keep HB.out hb
  have hbz := HZ.out.trans (hb.mono HZ.out.size)
  clear HZ HA HB
  clear c0A c1A c2A z0A z1A z2A c0B c1B c2B z0B z1B z2B
  obtain ⟨c0A, c1A, c2A, z0A, z1A, z2A⟩ := three_facts hA
  have HA := Lib.hid hA
  obtain ⟨c0B, c1B, c2B, z0B, z1B, z2B⟩ := three_facts hB
  have HB := Lib.hid hB
  have HZ := Lib.hid hbz
  clear hb hbz hA hB
  go_wp2_with fail
  refine (HS.out _).mono ?_
  rintro e w5 ⟨rfl, hb⟩
  have hA := keep HA.out hb
  have hB := keep HB.out hb
  have hbz := HZ.out.trans (hb.mono HZ.out.size)
  clear HZ HA HB
  clear c0A c1A c2A z0A z1A z2A c0B c1B c2B z0B z1B z2B
  obtain ⟨c0A, c1A, c2A, z0A, z1A, z2A⟩ := three_facts hA
  have HA := Lib.hid hA
  obtain ⟨c0B, c1B, c2B, z0B, z1B, z2B⟩ := three_facts hB
  have HB := Lib.hid hB
  have HZ := Lib.hid hbz
  clear hb hbz hA hB
  go_wp2_with fail
  go_ret
  exact ⟨rfl, HZ.out⟩
set_option maxRecDepth 100000 in
set_option maxHeartbeats 1000000 in
theorem vo_null2 (k n n' : Int) (s s' : ByteArray) (hs : ¬ (k = 0 ∧ n = n' ∧ s = s')) (h0 : ¬ k = 0) (hok : (okB k n s && okB 0 n' s') = true) (H1 : ∀ w, Calls Try.prog 24 #[.agg #[.int .i64 k, .int .i64 n, .string s], .agg #[.int .i64 0, .int .i64 n', .string s']] w fun e w' => e = .returned (.tuple #[.int .i64 1, .int .i64 0]) ∧ Below w.heap.size w w') (H2 : ∀ w, Calls Try.prog 24 #[.agg #[.int .i64 0, .int .i64 n', .string s'], .agg #[.int .i64 k, .int .i64 n, .string s]] w fun e w' => e = .returned (.tuple #[.int .i64 (-1), .int .i64 0]) ∧ Below w.heap.size w w') (w : World) : Calls Try.prog 6 #[.agg #[.int .i64 k, .int .i64 n, .string s], .agg #[.int .i64 0, .int .i64 n', .string s']] w fun e w' => e = .returned (.bool true) ∧ Below w.heap.size w w' := by
  have HR : Hid (∀ w, Calls Try.prog 14 #[.slice (some ⟨w.heap.size, 0, none⟩) 2 2] (w.alloc (.cells #[.int .i64 k, .int .i64 n, .string s, .int .i64 0, .int .i64 n', .string s'] 23)) fun e w' => e = .returned (.bool true) ∧ Below w.heap.size w w') := fun w => by have h := right_two k n 0 n' s s' 23 w; rw [hok] at h; exact h
  clear hok
  have HC := Lib.hid H1
  have HD := Lib.hid H2
  have HS := Lib.hid fun w => same_no k n 0 n' s s' hs w
  have e0 := beq_no' h0
  go_enter Try.func6, Try.ntmps6
  go_wp2_with fail
  refine (tells_any _).mono ?_
  rintro e w1 ⟨rfl, hb⟩
  obtain ⟨hA, hB, hbz⟩ := box2 hb
  obtain ⟨c0A, c1A, c2A, z0A, z1A, z2A⟩ := three_facts hA
  have HA := Lib.hid hA
  obtain ⟨c0B, c1B, c2B, z0B, z1B, z2B⟩ := three_facts hB
  have HB := Lib.hid hB
  have HZ := Lib.hid hbz
  clear hb hbz hA hB
  go_wp2_with fail
  refine (HR.out _).mono ?_
  rintro e w2 ⟨rfl, hb⟩
  have hA := keep HA.out hb
  have hB := keep HB.out hb
  have hbz := HZ.out.trans (hb.mono HZ.out.size)
  clear HZ HA HB
  clear c0A c1A c2A z0A z1A z2A c0B c1B c2B z0B z1B z2B
  obtain ⟨c0A, c1A, c2A, z0A, z1A, z2A⟩ := three_facts hA
  have HA := Lib.hid hA
  obtain ⟨c0B, c1B, c2B, z0B, z1B, z2B⟩ := three_facts hB
  have HB := Lib.hid hB
  have HZ := Lib.hid hbz
  clear hb hbz hA hB
  go_wp2_with fail
  refine (HC.out _).mono ?_
  rintro e w3 ⟨rfl, hb⟩
  have hA := keep HA.out hb
  have hB := keep HB.out hb
  have hbz := HZ.out.trans (hb.mono HZ.out.size)
  clear HZ HA HB
  clear c0A c1A c2A z0A z1A z2A c0B c1B c2B z0B z1B z2B
  obtain ⟨c0A, c1A, c2A, z0A, z1A, z2A⟩ := three_facts hA
  have HA := Lib.hid hA
  obtain ⟨c0B, c1B, c2B, z0B, z1B, z2B⟩ := three_facts hB
  have HB := Lib.hid hB
  have HZ := Lib.hid hbz
  clear hb hbz hA hB
  go_wp2_with fail
  refine (HD.out _).mono ?_
  rintro e w4 ⟨rfl, hb⟩
  have hA := keep HA.out hb
  have hB := keep HB.out hb
  have hbz := HZ.out.trans (hb.mono HZ.out.size)
  clear HZ HA HB
  clear c0A c1A c2A z0A z1A z2A c0B c1B c2B z0B z1B z2B
  obtain ⟨c0A, c1A, c2A, z0A, z1A, z2A⟩ := three_facts hA
  have HA := Lib.hid hA
  obtain ⟨c0B, c1B, c2B, z0B, z1B, z2B⟩ := three_facts hB
  have HB := Lib.hid hB
  have HZ := Lib.hid hbz
  clear hb hbz hA hB
  go_wp2_with fail
  refine (HS.out _).mono ?_
  rintro e w5 ⟨rfl, hb⟩
  have hA := keep HA.out hb
  have hB := keep HB.out hb
  have hbz := HZ.out.trans (hb.mono HZ.out.size)
  clear HZ HA HB
  clear c0A c1A c2A z0A z1A z2A c0B c1B c2B z0B z1B z2B
  obtain ⟨c0A, c1A, c2A, z0A, z1A, z2A⟩ := three_facts hA
  have HA := Lib.hid hA
  obtain ⟨c0B, c1B, c2B, z0B, z1B, z2B⟩ := three_facts hB
  have HB := Lib.hid hB
  have HZ := Lib.hid hbz
  clear hb hbz hA hB
  go_wp2_with fail
  go_ret
  exact ⟨rfl, HZ.out⟩
set_option maxRecDepth 100000 in
set_option maxHeartbeats 1000000 in
theorem vo_diff (k n k' n' : Int) (s s' : ByteArray) (hs : ¬ (k = k' ∧ n = n' ∧ s = s')) (h0 : ¬ k = 0) (h0' : ¬ k' = 0) (hk : ¬ k = k') (hok : (okB k n s && okB k' n' s') = true) (H1 : ∀ w, Calls Try.prog 24 #[.agg #[.int .i64 k, .int .i64 n, .string s], .agg #[.int .i64 k', .int .i64 n', .string s']] w fun e w' => e = .returned (.tuple #[.int .i64 0, .int .i64 30]) ∧ Below w.heap.size w w') (H2 : ∀ w, Calls Try.prog 24 #[.agg #[.int .i64 k', .int .i64 n', .string s'], .agg #[.int .i64 k, .int .i64 n, .string s]] w fun e w' => e = .returned (.tuple #[.int .i64 0, .int .i64 30]) ∧ Below w.heap.size w w') (w : World) : Calls Try.prog 6 #[.agg #[.int .i64 k, .int .i64 n, .string s], .agg #[.int .i64 k', .int .i64 n', .string s']] w fun e w' => e = .returned (.bool true) ∧ Below w.heap.size w w' := by
  have HR : Hid (∀ w, Calls Try.prog 14 #[.slice (some ⟨w.heap.size, 0, none⟩) 2 2] (w.alloc (.cells #[.int .i64 k, .int .i64 n, .string s, .int .i64 k', .int .i64 n', .string s'] 23)) fun e w' => e = .returned (.bool true) ∧ Below w.heap.size w w') := fun w => by have h := right_two k n k' n' s s' 23 w; rw [hok] at h; exact h
  clear hok
  have HC := Lib.hid H1
  have HD := Lib.hid H2
  have HS := Lib.hid fun w => same_no k n k' n' s s' hs w
  have e0 := beq_no' h0
  have e0' := beq_no' h0'
  have ek := bne_yes hk
  go_enter Try.func6, Try.ntmps6
  go_wp2_with fail
  refine (tells_any _).mono ?_
  rintro e w1 ⟨rfl, hb⟩
  obtain ⟨hA, hB, hbz⟩ := box2 hb
  obtain ⟨c0A, c1A, c2A, z0A, z1A, z2A⟩ := three_facts hA
  have HA := Lib.hid hA
  obtain ⟨c0B, c1B, c2B, z0B, z1B, z2B⟩ := three_facts hB
  have HB := Lib.hid hB
  have HZ := Lib.hid hbz
  clear hb hbz hA hB
  go_wp2_with fail
  refine (HR.out _).mono ?_
  rintro e w2 ⟨rfl, hb⟩
  have hA := keep HA.out hb
  have hB := keep HB.out hb
  have hbz := HZ.out.trans (hb.mono HZ.out.size)
  clear HZ HA HB
  clear c0A c1A c2A z0A z1A z2A c0B c1B c2B z0B z1B z2B
  obtain ⟨c0A, c1A, c2A, z0A, z1A, z2A⟩ := three_facts hA
  have HA := Lib.hid hA
  obtain ⟨c0B, c1B, c2B, z0B, z1B, z2B⟩ := three_facts hB
  have HB := Lib.hid hB
  have HZ := Lib.hid hbz
  clear hb hbz hA hB
  go_wp2_with fail
  refine (HC.out _).mono ?_
  rintro e w3 ⟨rfl, hb⟩
  have hA := keep HA.out hb
  have hB := keep HB.out hb
  have hbz := HZ.out.trans (hb.mono HZ.out.size)
  clear HZ HA HB
  clear c0A c1A c2A z0A z1A z2A c0B c1B c2B z0B z1B z2B
  obtain ⟨c0A, c1A, c2A, z0A, z1A, z2A⟩ := three_facts hA
  have HA := Lib.hid hA
  obtain ⟨c0B, c1B, c2B, z0B, z1B, z2B⟩ := three_facts hB
  have HB := Lib.hid hB
  have HZ := Lib.hid hbz
  clear hb hbz hA hB
  go_wp2_with fail
  refine (HD.out _).mono ?_
  rintro e w4 ⟨rfl, hb⟩
  have hA := keep HA.out hb
  have hB := keep HB.out hb
  have hbz := HZ.out.trans (hb.mono HZ.out.size)
  clear HZ HA HB
  clear c0A c1A c2A z0A z1A z2A c0B c1B c2B z0B z1B z2B
  obtain ⟨c0A, c1A, c2A, z0A, z1A, z2A⟩ := three_facts hA
  have HA := Lib.hid hA
  obtain ⟨c0B, c1B, c2B, z0B, z1B, z2B⟩ := three_facts hB
  have HB := Lib.hid hB
  have HZ := Lib.hid hbz
  clear hb hbz hA hB
  go_wp2_with fail
  refine (HS.out _).mono ?_
  rintro e w5 ⟨rfl, hb⟩
  have hA := keep HA.out hb
  have hB := keep HB.out hb
  have hbz := HZ.out.trans (hb.mono HZ.out.size)
  clear HZ HA HB
  clear c0A c1A c2A z0A z1A z2A c0B c1B c2B z0B z1B z2B
  obtain ⟨c0A, c1A, c2A, z0A, z1A, z2A⟩ := three_facts hA
  have HA := Lib.hid hA
  obtain ⟨c0B, c1B, c2B, z0B, z1B, z2B⟩ := three_facts hB
  have HB := Lib.hid hB
  have HZ := Lib.hid hbz
  clear hb hbz hA hB
  go_wp2_with fail
  go_ret
  exact ⟨rfl, HZ.out⟩
set_option maxRecDepth 100000 in
set_option maxHeartbeats 1000000 in
theorem vo_ref (n n' : Int) (s s' : ByteArray) (hs : ¬ ((4 : Int) = 4 ∧ n = n' ∧ s = s')) (hok : (okB 4 n s && okB 4 n' s') = true) (H1 : ∀ w, Calls Try.prog 24 #[.agg #[.int .i64 4, .int .i64 n, .string s], .agg #[.int .i64 4, .int .i64 n', .string s']] w fun e w' => e = .returned (.tuple #[.int .i64 0, .int .i64 30]) ∧ Below w.heap.size w w') (H2 : ∀ w, Calls Try.prog 24 #[.agg #[.int .i64 4, .int .i64 n', .string s'], .agg #[.int .i64 4, .int .i64 n, .string s]] w fun e w' => e = .returned (.tuple #[.int .i64 0, .int .i64 30]) ∧ Below w.heap.size w w') (w : World) : Calls Try.prog 6 #[.agg #[.int .i64 4, .int .i64 n, .string s], .agg #[.int .i64 4, .int .i64 n', .string s']] w fun e w' => e = .returned (.bool true) ∧ Below w.heap.size w w' := by
  have HR : Hid (∀ w, Calls Try.prog 14 #[.slice (some ⟨w.heap.size, 0, none⟩) 2 2] (w.alloc (.cells #[.int .i64 4, .int .i64 n, .string s, .int .i64 4, .int .i64 n', .string s'] 23)) fun e w' => e = .returned (.bool true) ∧ Below w.heap.size w w') := fun w => by have h := right_two 4 n 4 n' s s' 23 w; rw [hok] at h; exact h
  clear hok
  have HC := Lib.hid H1
  have HD := Lib.hid H2
  have HS := Lib.hid fun w => same_no 4 n 4 n' s s' hs w
  go_enter Try.func6, Try.ntmps6
  go_wp2_with fail
  refine (tells_any _).mono ?_
  rintro e w1 ⟨rfl, hb⟩
  obtain ⟨hA, hB, hbz⟩ := box2 hb
  obtain ⟨c0A, c1A, c2A, z0A, z1A, z2A⟩ := three_facts hA
  have HA := Lib.hid hA
  obtain ⟨c0B, c1B, c2B, z0B, z1B, z2B⟩ := three_facts hB
  have HB := Lib.hid hB
  have HZ := Lib.hid hbz
  clear hb hbz hA hB
  go_wp2_with fail
  refine (HR.out _).mono ?_
  rintro e w2 ⟨rfl, hb⟩
  have hA := keep HA.out hb
  have hB := keep HB.out hb
  have hbz := HZ.out.trans (hb.mono HZ.out.size)
  clear HZ HA HB
  clear c0A c1A c2A z0A z1A z2A c0B c1B c2B z0B z1B z2B
  obtain ⟨c0A, c1A, c2A, z0A, z1A, z2A⟩ := three_facts hA
  have HA := Lib.hid hA
  obtain ⟨c0B, c1B, c2B, z0B, z1B, z2B⟩ := three_facts hB
  have HB := Lib.hid hB
  have HZ := Lib.hid hbz
  clear hb hbz hA hB
  go_wp2_with fail
  refine (HC.out _).mono ?_
  rintro e w3 ⟨rfl, hb⟩
  have hA := keep HA.out hb
  have hB := keep HB.out hb
  have hbz := HZ.out.trans (hb.mono HZ.out.size)
  clear HZ HA HB
  clear c0A c1A c2A z0A z1A z2A c0B c1B c2B z0B z1B z2B
  obtain ⟨c0A, c1A, c2A, z0A, z1A, z2A⟩ := three_facts hA
  have HA := Lib.hid hA
  obtain ⟨c0B, c1B, c2B, z0B, z1B, z2B⟩ := three_facts hB
  have HB := Lib.hid hB
  have HZ := Lib.hid hbz
  clear hb hbz hA hB
  go_wp2_with fail
  refine (HD.out _).mono ?_
  rintro e w4 ⟨rfl, hb⟩
  have hA := keep HA.out hb
  have hB := keep HB.out hb
  have hbz := HZ.out.trans (hb.mono HZ.out.size)
  clear HZ HA HB
  clear c0A c1A c2A z0A z1A z2A c0B c1B c2B z0B z1B z2B
  obtain ⟨c0A, c1A, c2A, z0A, z1A, z2A⟩ := three_facts hA
  have HA := Lib.hid hA
  obtain ⟨c0B, c1B, c2B, z0B, z1B, z2B⟩ := three_facts hB
  have HB := Lib.hid hB
  have HZ := Lib.hid hbz
  clear hb hbz hA hB
  go_wp2_with fail
  refine (HS.out _).mono ?_
  rintro e w5 ⟨rfl, hb⟩
  have hA := keep HA.out hb
  have hB := keep HB.out hb
  have hbz := HZ.out.trans (hb.mono HZ.out.size)
  clear HZ HA HB
  clear c0A c1A c2A z0A z1A z2A c0B c1B c2B z0B z1B z2B
  obtain ⟨c0A, c1A, c2A, z0A, z1A, z2A⟩ := three_facts hA
  have HA := Lib.hid hA
  obtain ⟨c0B, c1B, c2B, z0B, z1B, z2B⟩ := three_facts hB
  have HB := Lib.hid hB
  have HZ := Lib.hid hbz
  clear hb hbz hA hB
  go_wp2_with fail
  go_ret
  exact ⟨rfl, HZ.out⟩
set_option maxRecDepth 100000 in
set_option maxHeartbeats 1000000 in
theorem vo_str (n n' : Int) (s s' : ByteArray) (hs : ¬ ((3 : Int) = 3 ∧ n = n' ∧ s = s')) (c : Int) (hw : wrap64 c = c) (HK : ∀ w, Calls Try.prog 25 #[.string s, .string s'] w fun e w' => e = .returned (.int .i64 c) ∧ w = w') (hok : (okB 3 n s && okB 3 n' s') = true) (H1 : ∀ w, Calls Try.prog 24 #[.agg #[.int .i64 3, .int .i64 n, .string s], .agg #[.int .i64 3, .int .i64 n', .string s']] w fun e w' => e = .returned (.tuple #[.int .i64 c, .int .i64 0]) ∧ Below w.heap.size w w') (H2 : ∀ w, Calls Try.prog 24 #[.agg #[.int .i64 3, .int .i64 n', .string s'], .agg #[.int .i64 3, .int .i64 n, .string s]] w fun e w' => e = .returned (.tuple #[.int .i64 (-c), .int .i64 0]) ∧ Below w.heap.size w w') (w : World) : Calls Try.prog 6 #[.agg #[.int .i64 3, .int .i64 n, .string s], .agg #[.int .i64 3, .int .i64 n', .string s']] w fun e w' => e = .returned (.bool true) ∧ Below w.heap.size w w' := by
  have HR : Hid (∀ w, Calls Try.prog 14 #[.slice (some ⟨w.heap.size, 0, none⟩) 2 2] (w.alloc (.cells #[.int .i64 3, .int .i64 n, .string s, .int .i64 3, .int .i64 n', .string s'] 23)) fun e w' => e = .returned (.bool true) ∧ Below w.heap.size w w') := fun w => by have h := right_two 3 n 3 n' s s' 23 w; rw [hok] at h; exact h
  clear hok
  have HC := Lib.hid H1
  have HD := Lib.hid H2
  have HS := Lib.hid fun w => same_no 3 n 3 n' s s' hs w
  have HX := Lib.hid HK
  go_enter Try.func6, Try.ntmps6
  go_wp2_with fail
  refine (tells_any _).mono ?_
  rintro e w1 ⟨rfl, hb⟩
  obtain ⟨hA, hB, hbz⟩ := box2 hb
  obtain ⟨c0A, c1A, c2A, z0A, z1A, z2A⟩ := three_facts hA
  have HA := Lib.hid hA
  obtain ⟨c0B, c1B, c2B, z0B, z1B, z2B⟩ := three_facts hB
  have HB := Lib.hid hB
  have HZ := Lib.hid hbz
  clear hb hbz hA hB
  go_wp2_with fail
  refine (HR.out _).mono ?_
  rintro e w2 ⟨rfl, hb⟩
  have hA := keep HA.out hb
  have hB := keep HB.out hb
  have hbz := HZ.out.trans (hb.mono HZ.out.size)
  clear HZ HA HB
  clear c0A c1A c2A z0A z1A z2A c0B c1B c2B z0B z1B z2B
  obtain ⟨c0A, c1A, c2A, z0A, z1A, z2A⟩ := three_facts hA
  have HA := Lib.hid hA
  obtain ⟨c0B, c1B, c2B, z0B, z1B, z2B⟩ := three_facts hB
  have HB := Lib.hid hB
  have HZ := Lib.hid hbz
  clear hb hbz hA hB
  go_wp2_with fail
  refine (HC.out _).mono ?_
  rintro e w3 ⟨rfl, hb⟩
  have hA := keep HA.out hb
  have hB := keep HB.out hb
  have hbz := HZ.out.trans (hb.mono HZ.out.size)
  clear HZ HA HB
  clear c0A c1A c2A z0A z1A z2A c0B c1B c2B z0B z1B z2B
  obtain ⟨c0A, c1A, c2A, z0A, z1A, z2A⟩ := three_facts hA
  have HA := Lib.hid hA
  obtain ⟨c0B, c1B, c2B, z0B, z1B, z2B⟩ := three_facts hB
  have HB := Lib.hid hB
  have HZ := Lib.hid hbz
  clear hb hbz hA hB
  go_wp2_with fail
  refine (HD.out _).mono ?_
  rintro e w4 ⟨rfl, hb⟩
  have hA := keep HA.out hb
  have hB := keep HB.out hb
  have hbz := HZ.out.trans (hb.mono HZ.out.size)
  clear HZ HA HB
  clear c0A c1A c2A z0A z1A z2A c0B c1B c2B z0B z1B z2B
  obtain ⟨c0A, c1A, c2A, z0A, z1A, z2A⟩ := three_facts hA
  have HA := Lib.hid hA
  obtain ⟨c0B, c1B, c2B, z0B, z1B, z2B⟩ := three_facts hB
  have HB := Lib.hid hB
  have HZ := Lib.hid hbz
  clear hb hbz hA hB
  go_wp2_with fail
  refine (HS.out _).mono ?_
  rintro e w5 ⟨rfl, hb⟩
  have hA := keep HA.out hb
  have hB := keep HB.out hb
  have hbz := HZ.out.trans (hb.mono HZ.out.size)
  clear HZ HA HB
  clear c0A c1A c2A z0A z1A z2A c0B c1B c2B z0B z1B z2B
  obtain ⟨c0A, c1A, c2A, z0A, z1A, z2A⟩ := three_facts hA
  have HA := Lib.hid hA
  obtain ⟨c0B, c1B, c2B, z0B, z1B, z2B⟩ := three_facts hB
  have HB := Lib.hid hB
  have HZ := Lib.hid hbz
  clear hb hbz hA hB
  go_wp2_with fail
  refine (HX.out _).mono ?_
  rintro e _ ⟨rfl, rfl⟩
  go_wp2_with fail
  go_ret
  exact ⟨rfl, HZ.out⟩
set_option maxRecDepth 100000 in
set_option maxHeartbeats 1000000 in
theorem vo_num (k n n' : Int) (s s' : ByteArray) (hs : ¬ (k = k ∧ n = n' ∧ s = s')) (h0 : ¬ k = 0) (h3 : ¬ k = 3) (h4 : ¬ k = 4) (c : Int) (hw : wrap64 c = c) (HK : ∀ w, Calls Try.prog 26 #[.int .i64 n, .int .i64 n'] w fun e w' => e = .returned (.int .i64 c) ∧ w = w') (hok : (okB k n s && okB k n' s') = true) (H1 : ∀ w, Calls Try.prog 24 #[.agg #[.int .i64 k, .int .i64 n, .string s], .agg #[.int .i64 k, .int .i64 n', .string s']] w fun e w' => e = .returned (.tuple #[.int .i64 c, .int .i64 0]) ∧ Below w.heap.size w w') (H2 : ∀ w, Calls Try.prog 24 #[.agg #[.int .i64 k, .int .i64 n', .string s'], .agg #[.int .i64 k, .int .i64 n, .string s]] w fun e w' => e = .returned (.tuple #[.int .i64 (-c), .int .i64 0]) ∧ Below w.heap.size w w') (w : World) : Calls Try.prog 6 #[.agg #[.int .i64 k, .int .i64 n, .string s], .agg #[.int .i64 k, .int .i64 n', .string s']] w fun e w' => e = .returned (.bool true) ∧ Below w.heap.size w w' := by
  have HR : Hid (∀ w, Calls Try.prog 14 #[.slice (some ⟨w.heap.size, 0, none⟩) 2 2] (w.alloc (.cells #[.int .i64 k, .int .i64 n, .string s, .int .i64 k, .int .i64 n', .string s'] 23)) fun e w' => e = .returned (.bool true) ∧ Below w.heap.size w w') := fun w => by have h := right_two k n k n' s s' 23 w; rw [hok] at h; exact h
  clear hok
  have HC := Lib.hid H1
  have HD := Lib.hid H2
  have HS := Lib.hid fun w => same_no k n k n' s s' hs w
  have HX := Lib.hid HK
  have e0 := beq_no' h0
  have e3 := beq_no' h3
  have e4 := beq_no' h4
  go_enter Try.func6, Try.ntmps6
  go_wp2_with fail
  refine (tells_any _).mono ?_
  rintro e w1 ⟨rfl, hb⟩
  obtain ⟨hA, hB, hbz⟩ := box2 hb
  obtain ⟨c0A, c1A, c2A, z0A, z1A, z2A⟩ := three_facts hA
  have HA := Lib.hid hA
  obtain ⟨c0B, c1B, c2B, z0B, z1B, z2B⟩ := three_facts hB
  have HB := Lib.hid hB
  have HZ := Lib.hid hbz
  clear hb hbz hA hB
  go_wp2_with fail
  refine (HR.out _).mono ?_
  rintro e w2 ⟨rfl, hb⟩
  have hA := keep HA.out hb
  have hB := keep HB.out hb
  have hbz := HZ.out.trans (hb.mono HZ.out.size)
  clear HZ HA HB
  clear c0A c1A c2A z0A z1A z2A c0B c1B c2B z0B z1B z2B
  obtain ⟨c0A, c1A, c2A, z0A, z1A, z2A⟩ := three_facts hA
  have HA := Lib.hid hA
  obtain ⟨c0B, c1B, c2B, z0B, z1B, z2B⟩ := three_facts hB
  have HB := Lib.hid hB
  have HZ := Lib.hid hbz
  clear hb hbz hA hB
  go_wp2_with fail
  refine (HC.out _).mono ?_
  rintro e w3 ⟨rfl, hb⟩
  have hA := keep HA.out hb
  have hB := keep HB.out hb
  have hbz := HZ.out.trans (hb.mono HZ.out.size)
  clear HZ HA HB
  clear c0A c1A c2A z0A z1A z2A c0B c1B c2B z0B z1B z2B
  obtain ⟨c0A, c1A, c2A, z0A, z1A, z2A⟩ := three_facts hA
  have HA := Lib.hid hA
  obtain ⟨c0B, c1B, c2B, z0B, z1B, z2B⟩ := three_facts hB
  have HB := Lib.hid hB
  have HZ := Lib.hid hbz
  clear hb hbz hA hB
  go_wp2_with fail
  refine (HD.out _).mono ?_
  rintro e w4 ⟨rfl, hb⟩
  have hA := keep HA.out hb
  have hB := keep HB.out hb
  have hbz := HZ.out.trans (hb.mono HZ.out.size)
  clear HZ HA HB
  clear c0A c1A c2A z0A z1A z2A c0B c1B c2B z0B z1B z2B
  obtain ⟨c0A, c1A, c2A, z0A, z1A, z2A⟩ := three_facts hA
  have HA := Lib.hid hA
  obtain ⟨c0B, c1B, c2B, z0B, z1B, z2B⟩ := three_facts hB
  have HB := Lib.hid hB
  have HZ := Lib.hid hbz
  clear hb hbz hA hB
  go_wp2_with fail
  refine (HS.out _).mono ?_
  rintro e w5 ⟨rfl, hb⟩
  have hA := keep HA.out hb
  have hB := keep HB.out hb
  have hbz := HZ.out.trans (hb.mono HZ.out.size)
  clear HZ HA HB
  clear c0A c1A c2A z0A z1A z2A c0B c1B c2B z0B z1B z2B
  obtain ⟨c0A, c1A, c2A, z0A, z1A, z2A⟩ := three_facts hA
  have HA := Lib.hid hA
  obtain ⟨c0B, c1B, c2B, z0B, z1B, z2B⟩ := three_facts hB
  have HB := Lib.hid hB
  have HZ := Lib.hid hbz
  clear hb hbz hA hB
  go_wp2_with fail
  refine (HX.out _).mono ?_
  rintro e _ ⟨rfl, rfl⟩
  go_wp2_with fail
  go_ret
  exact ⟨rfl, HZ.out⟩

theorem valueOrders_walk (k n : Int) (s : ByteArray) (_ : (Lit.int .i64 k).wf = true) (_ : (Lit.int .i64 n).wf = true) (_ : s.size ≤ maxLen) (k' n' : Int) (s' : ByteArray) (_ : (Lit.int .i64 k').wf = true) (_ : (Lit.int .i64 n').wf = true) (_ : s'.size ≤ maxLen) (w : World) :
    Calls Try.prog 6 #[.agg #[.int .i64 k, .int .i64 n, .string s], .agg #[.int .i64 k', .int .i64 n', .string s']] w fun e w' => e = .returned (.bool true) ∧ Below w.heap.size w w' := by
  cases hok : okB k n s && okB k' n' s'
  · exact vo_off k n k' n' s s' hok w
  · have hok' := hok
    rw [Bool.and_eq_true] at hok'
    have R := ok_right hok'.1
    have R' := ok_right hok'.2
    have k0 := R.k0
    have k4 := R.k4
    have k0' := R'.k0
    have k4' := R'.k4
    have HC := fun w => compare_any k n k' n' s s' w
    have HD := fun w => compare_any k' n' k n s' s w
    by_cases hs : k = k' ∧ n = n' ∧ s = s'
    · obtain ⟨rfl, rfl, rfl⟩ := hs
      have ha : alike k n k n s s = true := by simp [alike]
      rw [show cmpV k n k n s s = 0 by simp [cmpV, ha], show cmpE k n k n s s = 0 by simp [cmpE, ha]] at HC
      exact vo_same k n s hok HC HC w
    · have ha : alike k n k' n' s s' = false := by simp only [alike, decide_eq_false_iff_not]; exact hs
      have ha' : alike k' n' k n s' s = false := by simp only [alike, decide_eq_false_iff_not]; rintro ⟨rfl, rfl, rfl⟩; exact hs ⟨rfl, rfl, rfl⟩
      by_cases h0 : k = 0
      · subst h0
        have h0' : ¬ k' = 0 := by
          rintro rfl
          exact hs ⟨rfl, by rw [R.f0 rfl, R'.f0 rfl], by rw [R.em (by omega), R'.em (by omega)]⟩
        rw [show cmpV 0 n k' n' s s' = -1 by simp [cmpV, ha], show cmpE 0 n k' n' s s' = 0 by simp [cmpE]] at HC
        rw [show cmpV k' n' 0 n s' s = 1 by simp [cmpV, ha', h0'], show cmpE k' n' 0 n s' s = 0 by simp [cmpE]] at HD
        exact vo_null1 n k' n' s s' hs hok HC HD w
      · by_cases h0' : k' = 0
        · subst h0'
          rw [show cmpV k n 0 n' s s' = 1 by simp [cmpV, ha, h0], show cmpE k n 0 n' s s' = 0 by simp [cmpE]] at HC
          rw [show cmpV 0 n' k n s' s = -1 by simp [cmpV, ha'], show cmpE 0 n' k n s' s = 0 by simp [cmpE]] at HD
          exact vo_null2 k n n' s s' hs h0 hok HC HD w
        · by_cases hk : k = k'
          · subst hk
            by_cases h4 : k = 4
            · subst h4
              rw [show cmpV 4 n 4 n' s s' = 0 by simp [cmpV, ha], show cmpE 4 n 4 n' s s' = 30 by simp [cmpE, ha]] at HC
              rw [show cmpV 4 n' 4 n s' s = 0 by simp [cmpV, ha'], show cmpE 4 n' 4 n s' s = 30 by simp [cmpE, ha']] at HD
              exact vo_ref n n' s s' hs hok HC HD w
            · by_cases h3 : k = 3
              · subst h3
                rw [show cmpV 3 n 3 n' s s' = Lib.compareBytes s.data.toList s'.data.toList by simp [cmpV, ha], show cmpE 3 n 3 n' s s' = 0 by simp [cmpE]] at HC
                rw [show cmpV 3 n' 3 n s' s = -(Lib.compareBytes s.data.toList s'.data.toList) by simp [cmpV, ha', cmp_back s.data.toList s'.data.toList], show cmpE 3 n' 3 n s' s = 0 by simp [cmpE]] at HD
                refine vo_str n n' s s' hs _ ?_ (fun w => Go.Proofs.Ythmeehmobcaadaa.compare_any s s' w) hok HC HD w
                have := cmp_range s.data.toList s'.data.toList
                unfold wrap64; omega
              · have hk2 : k = 1 ∨ k = 2 := by omega
                rw [show cmpV k n k n' s s' = Nu.cmp n n' by simp [cmpV, ha, h0, hk2], show cmpE k n k n' s s' = 0 by simp only [cmpE]; rw [if_pos (Or.inr (Or.inr (Or.inr ⟨by simp, by omega⟩)))]] at HC
                rw [show cmpV k n' k n s' s = -(Nu.cmp n n') by simp [cmpV, ha', h0, hk2, ncmp_back n n'], show cmpE k n' k n s' s = 0 by simp only [cmpE]; rw [if_pos (Or.inr (Or.inr (Or.inr ⟨by simp, by omega⟩)))]] at HD
                refine vo_num k n n' s s' hs h0 h3 h4 _ ?_ (fun w => Nu.compare_any n n' w) hok HC HD w
                unfold Nu.cmp wrap64; repeat' split
                all_goals omega
          · rw [show cmpV k n k' n' s s' = 0 by simp only [cmpV]; rw [if_neg (by rw [ha]; simp), if_neg h0, if_neg h0', if_neg (by omega), if_neg (by omega)], show cmpE k n k' n' s s' = 30 by simp only [cmpE]; rw [if_neg (by rw [ha]; simp; omega)]] at HC
            rw [show cmpV k' n' k n s' s = 0 by simp only [cmpV]; rw [if_neg (by rw [ha']; simp), if_neg h0', if_neg h0, if_neg (by omega), if_neg (by omega)], show cmpE k' n' k n s' s = 30 by simp only [cmpE]; rw [if_neg (by rw [ha']; simp; omega)]] at HD
            exact vo_diff k n k' n' s s' hs h0 h0' hk hok HC HD w
end Go.Proofs.Ythmeehmobcaadaa.Va
