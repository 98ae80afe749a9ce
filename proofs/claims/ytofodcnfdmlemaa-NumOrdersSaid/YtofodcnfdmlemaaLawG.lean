/- The walk of dreylaw01.NumOrders. -/
import Derived.Test.YtofodcnfdmlemaaLawB
namespace Go.Proofs.Ytofodcnfdmlemaa
open Go.RowKit Go.ChangeShapes Go.WideShapes Go.ChangeAt

theorem bitLen_facts (x : Nat) (h : x ≤ 9223372036854775808) : Lib.bitLen x ≤ 64 ∧ (Lib.bitLen x = 64 ↔ x = 9223372036854775808) ∧ (Lib.bitLen x = 0 ↔ x = 0) := by
  by_cases h0 : x = 0
  · subst h0
    have : Lib.bitLen 0 = 0 := Lib.bitLenAux_zero 64
    omega
  · obtain ⟨h1, h2, h3⟩ := Lib.bitLenAux_bounds 64 x (by have : (2 : Nat) ^ 64 = 18446744073709551616 := by decide
                                                         omega) h0
    change 1 ≤ Lib.bitLen x at h1
    change 2 ^ (Lib.bitLen x - 1) ≤ x at h2
    change x < 2 ^ Lib.bitLen x at h3
    have p63 : (2 : Nat) ^ 63 = 9223372036854775808 := by decide
    have hle : Lib.bitLen x ≤ 64 := by
      rcases Nat.lt_or_ge 64 (Lib.bitLen x) with h4 | h4
      · have : 2 ^ 64 ≤ 2 ^ (Lib.bitLen x - 1) := Nat.pow_le_pow_right (by omega) (by omega)
        have : (2 : Nat) ^ 64 = 18446744073709551616 := by decide
        omega
      · exact h4
    refine ⟨hle, ⟨fun h4 => ?_, fun h4 => ?_⟩, ⟨fun h4 => by omega, fun h4 => by omega⟩⟩
    · rw [h4] at h2
      have : (2 : Nat) ^ (64 - 1) = 9223372036854775808 := by decide
      omega
    · rcases Nat.lt_or_ge (Lib.bitLen x) 64 with h5 | h5
      · have : 2 ^ Lib.bitLen x ≤ 2 ^ 63 := Nat.pow_le_pow_right (by omega) (by omega)
        omega
      · omega
theorem U_inj {a b : Int} (ha1 : -9223372036854775808 ≤ a) (ha2 : a ≤ 9223372036854775807) (hb1 : -9223372036854775808 ≤ b) (hb2 : b ≤ 9223372036854775807) (h : U a = U b) : a = b := by
  have := U_cast a; have := U_cast b; omega

set_option maxHeartbeats 1000000 in
theorem orders_lt_pos (a b : Int) (ha1 : -9223372036854775808 ≤ a) (ha2 : a ≤ 9223372036854775807) (hb1 : -9223372036854775808 ≤ b) (hb2 : b ≤ 9223372036854775807) (hab : a < b) (hsg : 0 ≤ a) (w : World) :
    Calls Try.prog 9 #[.int .i64 a, .int .i64 b] w fun e w' => e = .returned (.bool true) ∧ Below w.heap.size w w' := by
  have HC1 := Lib.hid fun w => compare_any a b w
  have HC2 := Lib.hid fun w => compare_any b a w
  have e1 : Hid (cmp a b = -1) := by show _ = _; unfold cmp; rw [if_pos hab]
  have e2 : Hid (cmp b a = 1) := by show _ = _; unfold cmp; rw [if_neg (by omega), if_pos hab]
  have hh : (((hashN (U a) : Nat) : Int) == ((hashN (U b) : Nat) : Int)) = false := by
    simp only [beq_eq_false_iff_ne, ne_eq, Int.natCast_inj]
    intro h
    have := U_inj ha1 ha2 hb1 hb2 (hash_inj (U_lt _) (U_lt _) h)
    omega
  have hab2 : (a == b) = false := by simp; try omega
  have HA := Lib.hid fun w => abs_any a w
  have e3 : Hid ((if a < 0 then wrap64 (-a) else a) = a) := by show _ = _; rw [if_neg (by omega)]
  obtain ⟨n1, n2, n3⟩ := bitLen_facts (a).natAbs (by omega)
  have HS := Lib.hid fun w => size_any a (by omega) (by omega) w
  generalize Lib.bitLen (a).natAbs = n at *
  have k1 : ((n : Int) == 64) = false := by simp; omega
  have k2 : ((n : Int) == 0) = decide (a = 0) := by
    by_cases h : a = 0
    · rw [decide_eq_true h]; simp; omega
    · rw [decide_eq_false h]; simp; omega
  have k3 : (a == 0) = decide (a = 0) := rfl
  clear n2 n3
  go_enter Try.func9, Try.ntmps9
  go_wp2_with fail
  refine (reckons_any _).mono ?_
  rintro e w1 ⟨rfl, hbe⟩
  go_wp2_with fail
  refine (HC1.out _).mono ?_
  rintro e w2 ⟨rfl, rfl⟩
  rw [e1.out]
  go_wp2_with fail
  refine (HC2.out _).mono ?_
  rintro e w2 ⟨rfl, rfl⟩
  rw [e2.out]
  go_wp2_with fail
  refine (hash_any _ _).mono ?_
  rintro e w2 ⟨rfl, rfl⟩
  go_wp2_with fail
  refine (hash_any _ _).mono ?_
  rintro e w2 ⟨rfl, rfl⟩
  go_wp2_with fail
  refine (HA.out _).mono ?_
  rintro e w2 ⟨rfl, rfl⟩
  rw [e3.out]
  go_wp2_with fail
  refine (HS.out _).mono ?_
  rintro e w3 ⟨rfl, rfl⟩
  go_wp2_with fail
  all_goals (go_ret; exact ⟨ret_bool (by first | rfl | (simp; done) | (simp; omega)), hbe⟩)

set_option maxHeartbeats 1000000 in
theorem orders_gt_pos (a b : Int) (ha1 : -9223372036854775808 ≤ a) (ha2 : a ≤ 9223372036854775807) (hb1 : -9223372036854775808 ≤ b) (hb2 : b ≤ 9223372036854775807) (hab : b < a) (hsg : 0 ≤ a) (w : World) :
    Calls Try.prog 9 #[.int .i64 a, .int .i64 b] w fun e w' => e = .returned (.bool true) ∧ Below w.heap.size w w' := by
  have HC1 := Lib.hid fun w => compare_any a b w
  have HC2 := Lib.hid fun w => compare_any b a w
  have e1 : Hid (cmp a b = 1) := by show _ = _; unfold cmp; rw [if_neg (by omega), if_pos hab]
  have e2 : Hid (cmp b a = -1) := by show _ = _; unfold cmp; rw [if_pos hab]
  have hh : (((hashN (U a) : Nat) : Int) == ((hashN (U b) : Nat) : Int)) = false := by
    simp only [beq_eq_false_iff_ne, ne_eq, Int.natCast_inj]
    intro h
    have := U_inj ha1 ha2 hb1 hb2 (hash_inj (U_lt _) (U_lt _) h)
    omega
  have hab2 : (a == b) = false := by simp; try omega
  have HA := Lib.hid fun w => abs_any a w
  have e3 : Hid ((if a < 0 then wrap64 (-a) else a) = a) := by show _ = _; rw [if_neg (by omega)]
  obtain ⟨n1, n2, n3⟩ := bitLen_facts (a).natAbs (by omega)
  have HS := Lib.hid fun w => size_any a (by omega) (by omega) w
  generalize Lib.bitLen (a).natAbs = n at *
  have k1 : ((n : Int) == 64) = false := by simp; omega
  have k2 : ((n : Int) == 0) = decide (a = 0) := by
    by_cases h : a = 0
    · rw [decide_eq_true h]; simp; omega
    · rw [decide_eq_false h]; simp; omega
  have k3 : (a == 0) = decide (a = 0) := rfl
  clear n2 n3
  go_enter Try.func9, Try.ntmps9
  go_wp2_with fail
  refine (reckons_any _).mono ?_
  rintro e w1 ⟨rfl, hbe⟩
  go_wp2_with fail
  refine (HC1.out _).mono ?_
  rintro e w2 ⟨rfl, rfl⟩
  rw [e1.out]
  go_wp2_with fail
  refine (HC2.out _).mono ?_
  rintro e w2 ⟨rfl, rfl⟩
  rw [e2.out]
  go_wp2_with fail
  refine (hash_any _ _).mono ?_
  rintro e w2 ⟨rfl, rfl⟩
  go_wp2_with fail
  refine (hash_any _ _).mono ?_
  rintro e w2 ⟨rfl, rfl⟩
  go_wp2_with fail
  refine (HA.out _).mono ?_
  rintro e w2 ⟨rfl, rfl⟩
  rw [e3.out]
  go_wp2_with fail
  refine (HS.out _).mono ?_
  rintro e w3 ⟨rfl, rfl⟩
  go_wp2_with fail
  all_goals (go_ret; exact ⟨ret_bool (by first | rfl | (simp; done) | (simp; omega)), hbe⟩)

set_option maxHeartbeats 1000000 in
theorem orders_eq_pos (a b : Int) (ha1 : -9223372036854775808 ≤ a) (ha2 : a ≤ 9223372036854775807) (hb1 : -9223372036854775808 ≤ b) (hb2 : b ≤ 9223372036854775807) (hab : a = b) (hsg : 0 ≤ a) (w : World) :
    Calls Try.prog 9 #[.int .i64 a, .int .i64 b] w fun e w' => e = .returned (.bool true) ∧ Below w.heap.size w w' := by
  subst hab
  have HC1 := Lib.hid fun w => compare_any a a w
  have HC2 := Lib.hid fun w => compare_any a a w
  have e1 : Hid (cmp a a = 0) := by show _ = _; unfold cmp; rw [if_neg (by omega), if_neg (by omega)]
  have e2 : Hid (cmp a a = 0) := by show _ = _; unfold cmp; rw [if_neg (by omega), if_neg (by omega)]
  have hh : (((hashN (U a) : Nat) : Int) == ((hashN (U a) : Nat) : Int)) = true := by
    simp
  have hab2 : (a == a) = true := by simp; try omega
  have HA := Lib.hid fun w => abs_any a w
  have e3 : Hid ((if a < 0 then wrap64 (-a) else a) = a) := by show _ = _; rw [if_neg (by omega)]
  obtain ⟨n1, n2, n3⟩ := bitLen_facts (a).natAbs (by omega)
  have HS := Lib.hid fun w => size_any a (by omega) (by omega) w
  generalize Lib.bitLen (a).natAbs = n at *
  have k1 : ((n : Int) == 64) = false := by simp; omega
  have k2 : ((n : Int) == 0) = decide (a = 0) := by
    by_cases h : a = 0
    · rw [decide_eq_true h]; simp; omega
    · rw [decide_eq_false h]; simp; omega
  have k3 : (a == 0) = decide (a = 0) := rfl
  clear n2 n3
  go_enter Try.func9, Try.ntmps9
  go_wp2_with fail
  refine (reckons_any _).mono ?_
  rintro e w1 ⟨rfl, hbe⟩
  go_wp2_with fail
  refine (HC1.out _).mono ?_
  rintro e w2 ⟨rfl, rfl⟩
  rw [e1.out]
  go_wp2_with fail
  refine (HC2.out _).mono ?_
  rintro e w2 ⟨rfl, rfl⟩
  rw [e2.out]
  go_wp2_with fail
  refine (hash_any _ _).mono ?_
  rintro e w2 ⟨rfl, rfl⟩
  go_wp2_with fail
  refine (hash_any _ _).mono ?_
  rintro e w2 ⟨rfl, rfl⟩
  go_wp2_with fail
  refine (HA.out _).mono ?_
  rintro e w2 ⟨rfl, rfl⟩
  rw [e3.out]
  go_wp2_with fail
  refine (HS.out _).mono ?_
  rintro e w3 ⟨rfl, rfl⟩
  go_wp2_with fail
  all_goals (go_ret; exact ⟨ret_bool (by first | rfl | (simp; done) | (simp; omega)), hbe⟩)

set_option maxHeartbeats 1000000 in
theorem orders_lt_neg (a b : Int) (ha1 : -9223372036854775808 ≤ a) (ha2 : a ≤ 9223372036854775807) (hb1 : -9223372036854775808 ≤ b) (hb2 : b ≤ 9223372036854775807) (hab : a < b) (hsg : -9223372036854775808 < a ∧ a < 0) (w : World) :
    Calls Try.prog 9 #[.int .i64 a, .int .i64 b] w fun e w' => e = .returned (.bool true) ∧ Below w.heap.size w w' := by
  obtain ⟨hs1, hs2⟩ := hsg
  have HC1 := Lib.hid fun w => compare_any a b w
  have HC2 := Lib.hid fun w => compare_any b a w
  have e1 : Hid (cmp a b = -1) := by show _ = _; unfold cmp; rw [if_pos hab]
  have e2 : Hid (cmp b a = 1) := by show _ = _; unfold cmp; rw [if_neg (by omega), if_pos hab]
  have hh : (((hashN (U a) : Nat) : Int) == ((hashN (U b) : Nat) : Int)) = false := by
    simp only [beq_eq_false_iff_ne, ne_eq, Int.natCast_inj]
    intro h
    have := U_inj ha1 ha2 hb1 hb2 (hash_inj (U_lt _) (U_lt _) h)
    omega
  have hab2 : (a == b) = false := by simp; try omega
  have HA := Lib.hid fun w => abs_any a w
  have e3 : Hid ((if a < 0 then wrap64 (-a) else a) = -a) := by show _ = _; rw [if_pos (by omega)]; unfold wrap64; omega
  obtain ⟨n1, n2, n3⟩ := bitLen_facts (a).natAbs (by omega)
  have HS := Lib.hid fun w => size_any a (by omega) (by omega) w
  generalize Lib.bitLen (a).natAbs = n at *
  have k1 : ((n : Int) == 64) = false := by simp; omega
  have k2 : ((n : Int) == 0) = decide (a = 0) := by
    by_cases h : a = 0
    · rw [decide_eq_true h]; simp; omega
    · rw [decide_eq_false h]; simp; omega
  have k3 : (a == 0) = decide (a = 0) := rfl
  clear n2 n3
  go_enter Try.func9, Try.ntmps9
  go_wp2_with fail
  refine (reckons_any _).mono ?_
  rintro e w1 ⟨rfl, hbe⟩
  go_wp2_with fail
  refine (HC1.out _).mono ?_
  rintro e w2 ⟨rfl, rfl⟩
  rw [e1.out]
  go_wp2_with fail
  refine (HC2.out _).mono ?_
  rintro e w2 ⟨rfl, rfl⟩
  rw [e2.out]
  go_wp2_with fail
  refine (hash_any _ _).mono ?_
  rintro e w2 ⟨rfl, rfl⟩
  go_wp2_with fail
  refine (hash_any _ _).mono ?_
  rintro e w2 ⟨rfl, rfl⟩
  go_wp2_with fail
  refine (HA.out _).mono ?_
  rintro e w2 ⟨rfl, rfl⟩
  rw [e3.out]
  have e4 : Hid (wrap64 (-a) = -a) := by show _ = _; unfold wrap64; omega
  go_wp2_with fail
  refine (rneg_any _ _).mono ?_
  rintro e w4 ⟨rfl, hbn⟩
  rw [e4.out]
  go_wp2_with fail
  refine (HS.out _).mono ?_
  rintro e w3 ⟨rfl, rfl⟩
  go_wp2_with fail
  all_goals (go_ret; exact ⟨ret_bool (by first | rfl | (simp; done) | (simp; omega)), hbe.trans (hbn.mono hbe.size)⟩)

set_option maxHeartbeats 1000000 in
theorem orders_gt_neg (a b : Int) (ha1 : -9223372036854775808 ≤ a) (ha2 : a ≤ 9223372036854775807) (hb1 : -9223372036854775808 ≤ b) (hb2 : b ≤ 9223372036854775807) (hab : b < a) (hsg : -9223372036854775808 < a ∧ a < 0) (w : World) :
    Calls Try.prog 9 #[.int .i64 a, .int .i64 b] w fun e w' => e = .returned (.bool true) ∧ Below w.heap.size w w' := by
  obtain ⟨hs1, hs2⟩ := hsg
  have HC1 := Lib.hid fun w => compare_any a b w
  have HC2 := Lib.hid fun w => compare_any b a w
  have e1 : Hid (cmp a b = 1) := by show _ = _; unfold cmp; rw [if_neg (by omega), if_pos hab]
  have e2 : Hid (cmp b a = -1) := by show _ = _; unfold cmp; rw [if_pos hab]
  have hh : (((hashN (U a) : Nat) : Int) == ((hashN (U b) : Nat) : Int)) = false := by
    simp only [beq_eq_false_iff_ne, ne_eq, Int.natCast_inj]
    intro h
    have := U_inj ha1 ha2 hb1 hb2 (hash_inj (U_lt _) (U_lt _) h)
    omega
  have hab2 : (a == b) = false := by simp; try omega
  have HA := Lib.hid fun w => abs_any a w
  have e3 : Hid ((if a < 0 then wrap64 (-a) else a) = -a) := by show _ = _; rw [if_pos (by omega)]; unfold wrap64; omega
  obtain ⟨n1, n2, n3⟩ := bitLen_facts (a).natAbs (by omega)
  have HS := Lib.hid fun w => size_any a (by omega) (by omega) w
  generalize Lib.bitLen (a).natAbs = n at *
  have k1 : ((n : Int) == 64) = false := by simp; omega
  have k2 : ((n : Int) == 0) = decide (a = 0) := by
    by_cases h : a = 0
    · rw [decide_eq_true h]; simp; omega
    · rw [decide_eq_false h]; simp; omega
  have k3 : (a == 0) = decide (a = 0) := rfl
  clear n2 n3
  go_enter Try.func9, Try.ntmps9
  go_wp2_with fail
  refine (reckons_any _).mono ?_
  rintro e w1 ⟨rfl, hbe⟩
  go_wp2_with fail
  refine (HC1.out _).mono ?_
  rintro e w2 ⟨rfl, rfl⟩
  rw [e1.out]
  go_wp2_with fail
  refine (HC2.out _).mono ?_
  rintro e w2 ⟨rfl, rfl⟩
  rw [e2.out]
  go_wp2_with fail
  refine (hash_any _ _).mono ?_
  rintro e w2 ⟨rfl, rfl⟩
  go_wp2_with fail
  refine (hash_any _ _).mono ?_
  rintro e w2 ⟨rfl, rfl⟩
  go_wp2_with fail
  refine (HA.out _).mono ?_
  rintro e w2 ⟨rfl, rfl⟩
  rw [e3.out]
  have e4 : Hid (wrap64 (-a) = -a) := by show _ = _; unfold wrap64; omega
  go_wp2_with fail
  refine (rneg_any _ _).mono ?_
  rintro e w4 ⟨rfl, hbn⟩
  rw [e4.out]
  go_wp2_with fail
  refine (HS.out _).mono ?_
  rintro e w3 ⟨rfl, rfl⟩
  go_wp2_with fail
  all_goals (go_ret; exact ⟨ret_bool (by first | rfl | (simp; done) | (simp; omega)), hbe.trans (hbn.mono hbe.size)⟩)

set_option maxHeartbeats 1000000 in
theorem orders_eq_neg (a b : Int) (ha1 : -9223372036854775808 ≤ a) (ha2 : a ≤ 9223372036854775807) (hb1 : -9223372036854775808 ≤ b) (hb2 : b ≤ 9223372036854775807) (hab : a = b) (hsg : -9223372036854775808 < a ∧ a < 0) (w : World) :
    Calls Try.prog 9 #[.int .i64 a, .int .i64 b] w fun e w' => e = .returned (.bool true) ∧ Below w.heap.size w w' := by
  subst hab
  obtain ⟨hs1, hs2⟩ := hsg
  have HC1 := Lib.hid fun w => compare_any a a w
  have HC2 := Lib.hid fun w => compare_any a a w
  have e1 : Hid (cmp a a = 0) := by show _ = _; unfold cmp; rw [if_neg (by omega), if_neg (by omega)]
  have e2 : Hid (cmp a a = 0) := by show _ = _; unfold cmp; rw [if_neg (by omega), if_neg (by omega)]
  have hh : (((hashN (U a) : Nat) : Int) == ((hashN (U a) : Nat) : Int)) = true := by
    simp
  have hab2 : (a == a) = true := by simp; try omega
  have HA := Lib.hid fun w => abs_any a w
  have e3 : Hid ((if a < 0 then wrap64 (-a) else a) = -a) := by show _ = _; rw [if_pos (by omega)]; unfold wrap64; omega
  obtain ⟨n1, n2, n3⟩ := bitLen_facts (a).natAbs (by omega)
  have HS := Lib.hid fun w => size_any a (by omega) (by omega) w
  generalize Lib.bitLen (a).natAbs = n at *
  have k1 : ((n : Int) == 64) = false := by simp; omega
  have k2 : ((n : Int) == 0) = decide (a = 0) := by
    by_cases h : a = 0
    · rw [decide_eq_true h]; simp; omega
    · rw [decide_eq_false h]; simp; omega
  have k3 : (a == 0) = decide (a = 0) := rfl
  clear n2 n3
  go_enter Try.func9, Try.ntmps9
  go_wp2_with fail
  refine (reckons_any _).mono ?_
  rintro e w1 ⟨rfl, hbe⟩
  go_wp2_with fail
  refine (HC1.out _).mono ?_
  rintro e w2 ⟨rfl, rfl⟩
  rw [e1.out]
  go_wp2_with fail
  refine (HC2.out _).mono ?_
  rintro e w2 ⟨rfl, rfl⟩
  rw [e2.out]
  go_wp2_with fail
  refine (hash_any _ _).mono ?_
  rintro e w2 ⟨rfl, rfl⟩
  go_wp2_with fail
  refine (hash_any _ _).mono ?_
  rintro e w2 ⟨rfl, rfl⟩
  go_wp2_with fail
  refine (HA.out _).mono ?_
  rintro e w2 ⟨rfl, rfl⟩
  rw [e3.out]
  have e4 : Hid (wrap64 (-a) = -a) := by show _ = _; unfold wrap64; omega
  go_wp2_with fail
  refine (rneg_any _ _).mono ?_
  rintro e w4 ⟨rfl, hbn⟩
  rw [e4.out]
  go_wp2_with fail
  refine (HS.out _).mono ?_
  rintro e w3 ⟨rfl, rfl⟩
  go_wp2_with fail
  all_goals (go_ret; exact ⟨ret_bool (by first | rfl | (simp; done) | (simp; omega)), hbe.trans (hbn.mono hbe.size)⟩)

set_option maxHeartbeats 1000000 in
theorem orders_lt_min (a b : Int) (ha1 : -9223372036854775808 ≤ a) (ha2 : a ≤ 9223372036854775807) (hb1 : -9223372036854775808 ≤ b) (hb2 : b ≤ 9223372036854775807) (hab : a < b) (hsg : a = -9223372036854775808) (w : World) :
    Calls Try.prog 9 #[.int .i64 a, .int .i64 b] w fun e w' => e = .returned (.bool true) ∧ Below w.heap.size w w' := by
  subst hsg
  have HC1 := Lib.hid fun w => compare_any (-9223372036854775808) b w
  have HC2 := Lib.hid fun w => compare_any b (-9223372036854775808) w
  have e1 : Hid (cmp (-9223372036854775808) b = -1) := by show _ = _; unfold cmp; rw [if_pos hab]
  have e2 : Hid (cmp b (-9223372036854775808) = 1) := by show _ = _; unfold cmp; rw [if_neg (by omega), if_pos hab]
  have hh : (((hashN (U (-9223372036854775808)) : Nat) : Int) == ((hashN (U b) : Nat) : Int)) = false := by
    simp only [beq_eq_false_iff_ne, ne_eq, Int.natCast_inj]
    intro h
    have := U_inj ha1 ha2 hb1 hb2 (hash_inj (U_lt _) (U_lt _) h)
    omega
  have hab2 : ((-9223372036854775808) == b) = false := by simp; try omega
  have HA := Lib.hid fun w => abs_any (-9223372036854775808) w
  have e3 : Hid ((if (-9223372036854775808) < 0 then wrap64 (-(-9223372036854775808)) else (-9223372036854775808)) = -9223372036854775808) := by show _ = _; rw [if_pos (by omega)]; unfold wrap64; omega
  obtain ⟨n1, n2, n3⟩ := bitLen_facts ((-9223372036854775808)).natAbs (by omega)
  have HS := Lib.hid fun w => size_any (-9223372036854775808) (by omega) (by omega) w
  generalize Lib.bitLen ((-9223372036854775808)).natAbs = n at *
  have k1 : ((n : Int) == 64) = true := by simp; omega
  have k2 : ((n : Int) == 0) = decide ((-9223372036854775808) = 0) := by
    by_cases h : (-9223372036854775808) = 0
    · rw [decide_eq_true h]; simp; omega
    · rw [decide_eq_false h]; simp; omega
  have k3 : ((-9223372036854775808) == 0) = decide ((-9223372036854775808) = 0) := rfl
  clear n2 n3
  go_enter Try.func9, Try.ntmps9
  go_wp2_with fail
  refine (reckons_any _).mono ?_
  rintro e w1 ⟨rfl, hbe⟩
  go_wp2_with fail
  refine (HC1.out _).mono ?_
  rintro e w2 ⟨rfl, rfl⟩
  rw [e1.out]
  go_wp2_with fail
  refine (HC2.out _).mono ?_
  rintro e w2 ⟨rfl, rfl⟩
  rw [e2.out]
  go_wp2_with fail
  refine (hash_any _ _).mono ?_
  rintro e w2 ⟨rfl, rfl⟩
  go_wp2_with fail
  refine (hash_any _ _).mono ?_
  rintro e w2 ⟨rfl, rfl⟩
  go_wp2_with fail
  refine (HA.out _).mono ?_
  rintro e w2 ⟨rfl, rfl⟩
  rw [e3.out]
  go_wp2_with fail
  refine (HS.out _).mono ?_
  rintro e w3 ⟨rfl, rfl⟩
  go_wp2_with fail
  all_goals (go_ret; exact ⟨ret_bool (by first | rfl | (simp; done) | (simp; omega)), hbe⟩)

set_option maxHeartbeats 1000000 in
theorem orders_eq_min (a b : Int) (ha1 : -9223372036854775808 ≤ a) (ha2 : a ≤ 9223372036854775807) (hb1 : -9223372036854775808 ≤ b) (hb2 : b ≤ 9223372036854775807) (hab : a = b) (hsg : a = -9223372036854775808) (w : World) :
    Calls Try.prog 9 #[.int .i64 a, .int .i64 b] w fun e w' => e = .returned (.bool true) ∧ Below w.heap.size w w' := by
  subst hab
  subst hsg
  have HC1 := Lib.hid fun w => compare_any (-9223372036854775808) (-9223372036854775808) w
  have HC2 := Lib.hid fun w => compare_any (-9223372036854775808) (-9223372036854775808) w
  have e1 : Hid (cmp (-9223372036854775808) (-9223372036854775808) = 0) := by show _ = _; unfold cmp; rw [if_neg (by omega), if_neg (by omega)]
  have e2 : Hid (cmp (-9223372036854775808) (-9223372036854775808) = 0) := by show _ = _; unfold cmp; rw [if_neg (by omega), if_neg (by omega)]
  have hh : (((hashN (U (-9223372036854775808)) : Nat) : Int) == ((hashN (U (-9223372036854775808)) : Nat) : Int)) = true := by
    simp
  have hab2 : ((-9223372036854775808) == (-9223372036854775808)) = true := by simp; try omega
  have HA := Lib.hid fun w => abs_any (-9223372036854775808) w
  have e3 : Hid ((if (-9223372036854775808) < 0 then wrap64 (-(-9223372036854775808)) else (-9223372036854775808)) = -9223372036854775808) := by show _ = _; rw [if_pos (by omega)]; unfold wrap64; omega
  obtain ⟨n1, n2, n3⟩ := bitLen_facts ((-9223372036854775808)).natAbs (by omega)
  have HS := Lib.hid fun w => size_any (-9223372036854775808) (by omega) (by omega) w
  generalize Lib.bitLen ((-9223372036854775808)).natAbs = n at *
  have k1 : ((n : Int) == 64) = true := by simp; omega
  have k2 : ((n : Int) == 0) = decide ((-9223372036854775808) = 0) := by
    by_cases h : (-9223372036854775808) = 0
    · rw [decide_eq_true h]; simp; omega
    · rw [decide_eq_false h]; simp; omega
  have k3 : ((-9223372036854775808) == 0) = decide ((-9223372036854775808) = 0) := rfl
  clear n2 n3
  go_enter Try.func9, Try.ntmps9
  go_wp2_with fail
  refine (reckons_any _).mono ?_
  rintro e w1 ⟨rfl, hbe⟩
  go_wp2_with fail
  refine (HC1.out _).mono ?_
  rintro e w2 ⟨rfl, rfl⟩
  rw [e1.out]
  go_wp2_with fail
  refine (HC2.out _).mono ?_
  rintro e w2 ⟨rfl, rfl⟩
  rw [e2.out]
  go_wp2_with fail
  refine (hash_any _ _).mono ?_
  rintro e w2 ⟨rfl, rfl⟩
  go_wp2_with fail
  refine (hash_any _ _).mono ?_
  rintro e w2 ⟨rfl, rfl⟩
  go_wp2_with fail
  refine (HA.out _).mono ?_
  rintro e w2 ⟨rfl, rfl⟩
  rw [e3.out]
  go_wp2_with fail
  refine (HS.out _).mono ?_
  rintro e w3 ⟨rfl, rfl⟩
  go_wp2_with fail
  all_goals (go_ret; exact ⟨ret_bool (by first | rfl | (simp; done) | (simp; omega)), hbe⟩)

theorem numOrders_walk (a b : Int) (ha : (Lit.int .i64 a).wf = true) (hb : (Lit.int .i64 b).wf = true) (w : World) :
    Calls Try.prog 9 #[.int .i64 a, .int .i64 b] w fun e w' => e = .returned (.bool true) ∧ Below w.heap.size w w' := by
  obtain ⟨ha1, ha2⟩ := i64_range ha
  obtain ⟨hb1, hb2⟩ := i64_range hb
  rcases (by omega : a < b ∨ b < a ∨ a = b) with h | h | h
  all_goals rcases (by omega : 0 ≤ a ∨ (-9223372036854775808 < a ∧ a < 0) ∨ a = -9223372036854775808) with s | s | s
  · exact orders_lt_pos a b ha1 ha2 hb1 hb2 h s w
  · exact orders_lt_neg a b ha1 ha2 hb1 hb2 h s w
  · exact orders_lt_min a b ha1 ha2 hb1 hb2 h s w
  · exact orders_gt_pos a b ha1 ha2 hb1 hb2 h s w
  · exact orders_gt_neg a b ha1 ha2 hb1 hb2 h s w
  · omega
  · exact orders_eq_pos a b ha1 ha2 hb1 hb2 h s w
  · exact orders_eq_neg a b ha1 ha2 hb1 hb2 h s w
  · exact orders_eq_min a b ha1 ha2 hb1 hb2 h s w
end Go.Proofs.Ytofodcnfdmlemaa
