/- The walk of dreylaw01.NumParses. -/
import Derived.Test.YtofodcnfdmlemaaLawD
namespace Go.Proofs.Ytofodcnfdmlemaa
open Go.RowKit Go.ChangeShapes Go.WideShapes Go.ChangeAt

theorem quo_neg (c base : Nat) (hc : c < 36) : (-9223372036854775808 + (c : Int)).tdiv (base : Int) = -(((9223372036854775808 - c) / base : Nat) : Int) := by
  rw [show (-9223372036854775808 + (c : Int)) = -((9223372036854775808 - c : Nat) : Int) from by omega, Int.neg_tdiv]
  rfl
theorem parse_quo (z e : Int) (N c base : Nat) (hz : z = -(N : Int)) (hc : e = (c : Int)) (h36 : c < 36) : z < (-9223372036854775808 + e).tdiv (base : Int) ↔ (9223372036854775808 - c) / base < N := by
  subst hz hc
  rw [quo_neg c base h36]
  generalize (9223372036854775808 - c) / base = q
  omega
theorem parse_next (z e : Int) (N c base : Nat) (hb : 2 ≤ base) (hz : z = -(N : Int)) (hc : e = (c : Int)) (h36 : c < 36) (h : ¬ (9223372036854775808 - c) / base < N) : wrap64 (wrap64 (z * (base : Int)) - e) = -((N * base + c : Nat) : Int) ∧ N * base + c ≤ 9223372036854775808 := by
  have hr := mul_room hb h36 h
  subst hz hc
  refine ⟨?_, hr⟩
  rw [Int.neg_mul, ← Int.natCast_mul]
  generalize N * base = m at *
  unfold wrap64; omega
theorem rdv_some (base : Nat) (D : ByteArray) (h : 0 < D.size) : rdv base D.data.toList = rd base D.data.toList 0 false := by
  unfold rdv
  rw [if_neg]
  intro e
  have h1 : D.data.toList.length = D.size := by simp
  rw [e] at h1; simp at h1; omega

set_option maxRecDepth 100000 in
set_option maxHeartbeats 1000000 in
theorem parses_out (s : ByteArray) (base : Int) (h : 200 < s.size ∨ (s.size ≤ 200 ∧ base < 2) ∨ (s.size ≤ 200 ∧ 2 ≤ base ∧ 36 < base)) (w : World) :
    Calls Try.prog 7 #[.string s, .int .i64 base] w fun e w' => e = .returned (.bool true) ∧ Below w.heap.size w w' := by
  rcases h with h | ⟨h, h2⟩ | ⟨h, h2, h3⟩
  all_goals
    go_enter Try.func7, Try.ntmps7
    go_wp2_with fail
    refine (reckons_any _).mono ?_
    rintro e w1 ⟨rfl, hbe⟩
    go_wp2_with fail
    go_ret
    exact ⟨rfl, hbe⟩

set_option maxRecDepth 100000 in
set_option maxHeartbeats 8000000 in
theorem parses_plain (S : ByteArray) (base er : Nat) (got : Int) (hb1 : 2 ≤ base) (hb2 : base ≤ 36) (hS : 0 < S.size) (hS2 : S.size ≤ 200) (hD0 : 0 < S.size) (_ : S.size ≤ 200)
    (hparse : ∀ w, Calls Try.prog 31 #[.string S, .int .i64 (base : Int)] w fun e w' => e = .returned (.tuple #[.int .i64 got, .int .i64 (er : Int)]) ∧ w = w')
    (hv : pv false (rdv base S.data.toList) = (got, er)) (hm : ¬ (S[0]).toNat = 45) (w : World) :
    Calls Try.prog 7 #[.string S, .int .i64 (base : Int)] w fun e w' => e = .returned (.bool true) ∧ Below w.heap.size w w' := by
  rw [rdv_some base S hD0] at hv
  have HV := Lib.hid hv
  have HP := Lib.hid hparse
  clear hparse hv
  have hne := some_bytes S hS
  have hb0 : (((S[0]).toNat : Int) == 45) = false := by simp; omega
  have hneD := some_bytes S hD0
  clear hm
  go_enter Try.func7, Try.ntmps7
  go_wp2_with fail
  refine (reckons_any _).mono ?_
  rintro e w1 ⟨rfl, hbe⟩
  go_wp2_with fail
  refine (HP.out _).mono ?_
  rintro e w2 ⟨rfl, rfl⟩
  go_wp2_with fail
  go_loop [9, 10, 11, 47] (fun g o n i => ∃ (k N : Nat) (b : Bool) (z : Int), k ≤ S.size ∧ i = .int .i64 (k : Int) ∧ g = .bool true ∧ o = .bool b ∧ n = .int .i64 z ∧ Hid (z = -(N : Int)) ∧ N ≤ 9223372036854775808 ∧ -9223372036854775808 ≤ z ∧ z ≤ 0 ∧ Hid (rd base S.data.toList 0 false = rd base (S.data.toList.drop k) N b)) (fun _ _ _ i => S.size - (intOf i).toNat)
  case atStart => exact ⟨0, 0, false, 0, by omega, rfl, rfl, rfl, rfl, rfl, by omega, by omega, by omega, rfl⟩
  case round =>
    obtain ⟨k, N, b, z, hk, rfl, rfl, rfl, rfl, HZ, hN, hz1, hz2, HR⟩ := hrel
    by_cases hlt : k < S.size
    · have hc := byte_lt S k hlt
      have hdr := Lib.hid (drop_byte S k hlt)
      obtain ⟨c, hc0⟩ : ∃ c, c = dv (S[k]).toNat := ⟨_, rfl⟩
      have HC := Lib.hid hc0
      clear hc0
      have cls : (48 ≤ (S[k]).toNat ∧ (S[k]).toNat ≤ 57 ∧ Hid (c = (S[k]).toNat - 48)) ∨ (97 ≤ (S[k]).toNat ∧ (S[k]).toNat ≤ 122 ∧ Hid (c = (S[k]).toNat - 97 + 10)) ∨
          (65 ≤ (S[k]).toNat ∧ (S[k]).toNat ≤ 90 ∧ Hid (c = (S[k]).toNat - 65 + 10)) ∨ (Hid (c = 36) ∧ Hid (¬ (48 ≤ (S[k]).toNat ∧ (S[k]).toNat ≤ 57) ∧ ¬ (97 ≤ (S[k]).toNat ∧ (S[k]).toNat ≤ 122) ∧ ¬ (65 ≤ (S[k]).toNat ∧ (S[k]).toNat ≤ 90))) := by
        have e := HC.out
        unfold dv at e
        by_cases c1 : 48 ≤ (S[k]).toNat ∧ (S[k]).toNat ≤ 57
        · rw [if_pos c1] at e; exact .inl ⟨c1.1, c1.2, e⟩
        · rw [if_neg c1] at e
          by_cases c2 : 97 ≤ (S[k]).toNat ∧ (S[k]).toNat ≤ 122
          · rw [if_pos c2] at e; exact .inr (.inl ⟨c2.1, c2.2, e⟩)
          · rw [if_neg c2] at e
            by_cases c3 : 65 ≤ (S[k]).toNat ∧ (S[k]).toNat ≤ 90
            · rw [if_pos c3] at e; exact .inr (.inr (.inl ⟨c3.1, c3.2, e⟩))
            · rw [if_neg c3] at e; exact .inr (.inr (.inr ⟨e, c1, c2, c3⟩))
      rcases cls with ⟨c1, c2, c3⟩ | ⟨c1, c2, c3⟩ | ⟨c1, c2, c3⟩ | ⟨c1, c2⟩
      · have hcv := c3.out
        by_cases hd : c < base
        · cases b with
          | true =>
            go_wp2_with fail
            all_goals
              go_round
              case rel => exact ⟨k + 1, N, true, z, by omega, by go_num, rfl, rfl, rfl, HZ, hN, hz1, hz2, by show _ = _; rw [HR.out, hdr.out, rd_over _ _ _ _ (by have := HC.out; omega)]⟩
              case measure => simp [intOf]; omega
          | false =>
            go_wp2_with fail
            · have hq := (parse_quo z ((((S[k]).toNat : Nat) : Int) - 48) N c base HZ.out (by omega) (by omega)).1 (by assumption)
              go_round
              case rel => exact ⟨k + 1, N, true, z, by omega, by go_num, rfl, rfl, rfl, HZ, hN, hz1, hz2, by show _ = _; rw [HR.out, hdr.out, rd_much _ _ _ _ (by have := HC.out; omega) (HC.out ▸ hq)]⟩
              case measure => simp [intOf]; omega
            · have hq : ¬ (9223372036854775808 - c) / base < N := fun h2 => absurd ((parse_quo z ((((S[k]).toNat : Nat) : Int) - 48) N c base HZ.out (by omega) (by omega)).2 h2) (Int.not_lt.2 (by assumption))
              obtain ⟨n1, n2⟩ := parse_next z ((((S[k]).toNat : Nat) : Int) - 48) N c base hb1 HZ.out (by omega) (by omega) hq
              go_round
              case rel => exact ⟨k + 1, N * base + c, false, _, by omega, by go_num, rfl, rfl, rfl, n1, n2, by rw [n1]; omega, by rw [n1]; omega, by show _ = _; rw [HR.out, hdr.out, rd_more _ _ _ _ (by have := HC.out; omega) (HC.out ▸ hq), HC.out]⟩
              case measure => simp [intOf]; omega
        · have HB : Hid (rd base S.data.toList 0 false = (0, 5)) := by
            show _ = _; rw [HR.out, hdr.out, rd_bad _ _ _ _ _ (by have := HC.out; omega)]
          have HV2 := HV.out
          rw [HB.out, pv_bad _ _ _ (by omega)] at HV2
          obtain ⟨rfl, rfl⟩ := Prod.mk.inj HV2
          go_wp2_with fail
          go_ret
          exact ⟨rfl, hbe⟩
      · have hcv := c3.out
        by_cases hd : c < base
        · cases b with
          | true =>
            go_wp2_with fail
            all_goals
              go_round
              case rel => exact ⟨k + 1, N, true, z, by omega, by go_num, rfl, rfl, rfl, HZ, hN, hz1, hz2, by show _ = _; rw [HR.out, hdr.out, rd_over _ _ _ _ (by have := HC.out; omega)]⟩
              case measure => simp [intOf]; omega
          | false =>
            go_wp2_with fail
            · have hq := (parse_quo z ((((S[k]).toNat : Nat) : Int) - 97 + 10) N c base HZ.out (by omega) (by omega)).1 (by assumption)
              go_round
              case rel => exact ⟨k + 1, N, true, z, by omega, by go_num, rfl, rfl, rfl, HZ, hN, hz1, hz2, by show _ = _; rw [HR.out, hdr.out, rd_much _ _ _ _ (by have := HC.out; omega) (HC.out ▸ hq)]⟩
              case measure => simp [intOf]; omega
            · have hq : ¬ (9223372036854775808 - c) / base < N := fun h2 => absurd ((parse_quo z ((((S[k]).toNat : Nat) : Int) - 97 + 10) N c base HZ.out (by omega) (by omega)).2 h2) (Int.not_lt.2 (by assumption))
              obtain ⟨n1, n2⟩ := parse_next z ((((S[k]).toNat : Nat) : Int) - 97 + 10) N c base hb1 HZ.out (by omega) (by omega) hq
              go_round
              case rel => exact ⟨k + 1, N * base + c, false, _, by omega, by go_num, rfl, rfl, rfl, n1, n2, by rw [n1]; omega, by rw [n1]; omega, by show _ = _; rw [HR.out, hdr.out, rd_more _ _ _ _ (by have := HC.out; omega) (HC.out ▸ hq), HC.out]⟩
              case measure => simp [intOf]; omega
        · have HB : Hid (rd base S.data.toList 0 false = (0, 5)) := by
            show _ = _; rw [HR.out, hdr.out, rd_bad _ _ _ _ _ (by have := HC.out; omega)]
          have HV2 := HV.out
          rw [HB.out, pv_bad _ _ _ (by omega)] at HV2
          obtain ⟨rfl, rfl⟩ := Prod.mk.inj HV2
          go_wp2_with fail
          go_ret
          exact ⟨rfl, hbe⟩
      · have hcv := c3.out
        by_cases hd : c < base
        · cases b with
          | true =>
            go_wp2_with fail
            all_goals
              go_round
              case rel => exact ⟨k + 1, N, true, z, by omega, by go_num, rfl, rfl, rfl, HZ, hN, hz1, hz2, by show _ = _; rw [HR.out, hdr.out, rd_over _ _ _ _ (by have := HC.out; omega)]⟩
              case measure => simp [intOf]; omega
          | false =>
            go_wp2_with fail
            · have hq := (parse_quo z ((((S[k]).toNat : Nat) : Int) - 65 + 10) N c base HZ.out (by omega) (by omega)).1 (by assumption)
              go_round
              case rel => exact ⟨k + 1, N, true, z, by omega, by go_num, rfl, rfl, rfl, HZ, hN, hz1, hz2, by show _ = _; rw [HR.out, hdr.out, rd_much _ _ _ _ (by have := HC.out; omega) (HC.out ▸ hq)]⟩
              case measure => simp [intOf]; omega
            · have hq : ¬ (9223372036854775808 - c) / base < N := fun h2 => absurd ((parse_quo z ((((S[k]).toNat : Nat) : Int) - 65 + 10) N c base HZ.out (by omega) (by omega)).2 h2) (Int.not_lt.2 (by assumption))
              obtain ⟨n1, n2⟩ := parse_next z ((((S[k]).toNat : Nat) : Int) - 65 + 10) N c base hb1 HZ.out (by omega) (by omega) hq
              go_round
              case rel => exact ⟨k + 1, N * base + c, false, _, by omega, by go_num, rfl, rfl, rfl, n1, n2, by rw [n1]; omega, by rw [n1]; omega, by show _ = _; rw [HR.out, hdr.out, rd_more _ _ _ _ (by have := HC.out; omega) (HC.out ▸ hq), HC.out]⟩
              case measure => simp [intOf]; omega
        · have HB : Hid (rd base S.data.toList 0 false = (0, 5)) := by
            show _ = _; rw [HR.out, hdr.out, rd_bad _ _ _ _ _ (by have := HC.out; omega)]
          have HV2 := HV.out
          rw [HB.out, pv_bad _ _ _ (by omega)] at HV2
          obtain ⟨rfl, rfl⟩ := Prod.mk.inj HV2
          go_wp2_with fail
          go_ret
          exact ⟨rfl, hbe⟩
      · have HB : Hid (rd base S.data.toList 0 false = (0, 5)) := by
          show _ = _; rw [HR.out, hdr.out, rd_bad _ _ _ _ _ (by have := HC.out; have := c1.out; omega)]
        have HV2 := HV.out
        rw [HB.out, pv_bad _ _ _ (by omega)] at HV2
        obtain ⟨rfl, rfl⟩ := Prod.mk.inj HV2
        have four : (S[k]).toNat < 48 ∨ (57 < (S[k]).toNat ∧ (S[k]).toNat < 65) ∨ (90 < (S[k]).toNat ∧ (S[k]).toNat < 97) ∨ 122 < (S[k]).toNat := by
          obtain ⟨n1, n2, n3⟩ := c2.out; omega
        rcases four with c3 | ⟨c3, c4⟩ | ⟨c3, c4⟩ | c3
        all_goals
          go_wp2_with fail
          go_ret
          exact ⟨rfl, hbe⟩
    · have hd : S.data.toList.drop k = [] := List.drop_eq_nil_of_le (by simp; omega)
      have HE := HR.out
      rw [hd, rd] at HE
      have HV2 := HV.out
      rw [HE] at HV2
      clear hd HE
      cases b with
      | true =>
        rw [if_pos rfl, pv_bad _ _ _ (by omega)] at HV2
        obtain ⟨rfl, rfl⟩ := Prod.mk.inj HV2
        clear HV2
        go_wp2_with fail
        go_ret
        exact ⟨rfl, hbe⟩
      | false =>
        rw [if_neg (by simp)] at HV2
        by_cases hg : N = 9223372036854775808
        · rw [hg, pv_great] at HV2
          obtain ⟨rfl, rfl⟩ := Prod.mk.inj HV2
          clear HV2
          have hgz : (z == -9223372036854775808) = true := by have := HZ.out; simp; omega
          clear hg
          go_wp2_with fail
          go_ret
          exact ⟨rfl, hbe⟩
        · rw [pv_above _ hg] at HV2
          obtain ⟨rfl, rfl⟩ := Prod.mk.inj HV2
          clear HV2
          have hgz : (z == -9223372036854775808) = false := by have := HZ.out; simp; omega
          have hgz2 : ((N : Int) == -z) = true := by have := HZ.out; simp; omega
          have hz3 : -9223372036854775807 ≤ z := by have := HZ.out; omega
          clear hg
          go_wp2_with fail
          go_ret
          exact ⟨rfl, hbe⟩

set_option maxRecDepth 100000 in
set_option maxHeartbeats 8000000 in
theorem parses_minus (S D : ByteArray) (base er : Nat) (got : Int) (hb1 : 2 ≤ base) (hb2 : base ≤ 36) (hS : 0 < S.size) (hS2 : S.size ≤ 200) (hD0 : 0 < D.size) (hD2 : D.size ≤ 200)
    (hparse : ∀ w, Calls Try.prog 31 #[.string S, .int .i64 (base : Int)] w fun e w' => e = .returned (.tuple #[.int .i64 got, .int .i64 (er : Int)]) ∧ w = w')
    (hv : pv true (rdv base D.data.toList) = (got, er)) (hm : (S[0]).toNat = 45) (hsl : ∀ w, (Instr.sliceAt 9 (.string S) (some (.int .i64 1)) none none).run Try.prog w = .ok (.string D) w) (w : World) :
    Calls Try.prog 7 #[.string S, .int .i64 (base : Int)] w fun e w' => e = .returned (.bool true) ∧ Below w.heap.size w w' := by
  rw [rdv_some base D hD0] at hv
  have HV := Lib.hid hv
  have HP := Lib.hid hparse
  clear hparse hv
  have hne := some_bytes S hS
  have hb0 : (((S[0]).toNat : Int) == 45) = true := by simp; omega
  have hneD := some_bytes D hD0
  clear hm
  go_enter Try.func7, Try.ntmps7
  go_wp2_with fail
  refine (reckons_any _).mono ?_
  rintro e w1 ⟨rfl, hbe⟩
  go_wp2_with fail
  refine (HP.out _).mono ?_
  rintro e w2 ⟨rfl, rfl⟩
  go_wp2_with fail
  go_loop [9, 10, 11, 47] (fun g o n i => ∃ (k N : Nat) (b : Bool) (z : Int), k ≤ D.size ∧ i = .int .i64 (k : Int) ∧ g = .bool true ∧ o = .bool b ∧ n = .int .i64 z ∧ Hid (z = -(N : Int)) ∧ N ≤ 9223372036854775808 ∧ -9223372036854775808 ≤ z ∧ z ≤ 0 ∧ Hid (rd base D.data.toList 0 false = rd base (D.data.toList.drop k) N b)) (fun _ _ _ i => D.size - (intOf i).toNat)
  case atStart => exact ⟨0, 0, false, 0, by omega, rfl, rfl, rfl, rfl, rfl, by omega, by omega, by omega, rfl⟩
  case round =>
    obtain ⟨k, N, b, z, hk, rfl, rfl, rfl, rfl, HZ, hN, hz1, hz2, HR⟩ := hrel
    by_cases hlt : k < D.size
    · have hc := byte_lt D k hlt
      have hdr := Lib.hid (drop_byte D k hlt)
      obtain ⟨c, hc0⟩ : ∃ c, c = dv (D[k]).toNat := ⟨_, rfl⟩
      have HC := Lib.hid hc0
      clear hc0
      have cls : (48 ≤ (D[k]).toNat ∧ (D[k]).toNat ≤ 57 ∧ Hid (c = (D[k]).toNat - 48)) ∨ (97 ≤ (D[k]).toNat ∧ (D[k]).toNat ≤ 122 ∧ Hid (c = (D[k]).toNat - 97 + 10)) ∨
          (65 ≤ (D[k]).toNat ∧ (D[k]).toNat ≤ 90 ∧ Hid (c = (D[k]).toNat - 65 + 10)) ∨ (Hid (c = 36) ∧ Hid (¬ (48 ≤ (D[k]).toNat ∧ (D[k]).toNat ≤ 57) ∧ ¬ (97 ≤ (D[k]).toNat ∧ (D[k]).toNat ≤ 122) ∧ ¬ (65 ≤ (D[k]).toNat ∧ (D[k]).toNat ≤ 90))) := by
        have e := HC.out
        unfold dv at e
        by_cases c1 : 48 ≤ (D[k]).toNat ∧ (D[k]).toNat ≤ 57
        · rw [if_pos c1] at e; exact .inl ⟨c1.1, c1.2, e⟩
        · rw [if_neg c1] at e
          by_cases c2 : 97 ≤ (D[k]).toNat ∧ (D[k]).toNat ≤ 122
          · rw [if_pos c2] at e; exact .inr (.inl ⟨c2.1, c2.2, e⟩)
          · rw [if_neg c2] at e
            by_cases c3 : 65 ≤ (D[k]).toNat ∧ (D[k]).toNat ≤ 90
            · rw [if_pos c3] at e; exact .inr (.inr (.inl ⟨c3.1, c3.2, e⟩))
            · rw [if_neg c3] at e; exact .inr (.inr (.inr ⟨e, c1, c2, c3⟩))
      rcases cls with ⟨c1, c2, c3⟩ | ⟨c1, c2, c3⟩ | ⟨c1, c2, c3⟩ | ⟨c1, c2⟩
      · have hcv := c3.out
        by_cases hd : c < base
        · cases b with
          | true =>
            go_wp2_with fail
            all_goals
              go_round
              case rel => exact ⟨k + 1, N, true, z, by omega, by go_num, rfl, rfl, rfl, HZ, hN, hz1, hz2, by show _ = _; rw [HR.out, hdr.out, rd_over _ _ _ _ (by have := HC.out; omega)]⟩
              case measure => simp [intOf]; omega
          | false =>
            go_wp2_with fail
            · have hq := (parse_quo z ((((D[k]).toNat : Nat) : Int) - 48) N c base HZ.out (by omega) (by omega)).1 (by assumption)
              go_round
              case rel => exact ⟨k + 1, N, true, z, by omega, by go_num, rfl, rfl, rfl, HZ, hN, hz1, hz2, by show _ = _; rw [HR.out, hdr.out, rd_much _ _ _ _ (by have := HC.out; omega) (HC.out ▸ hq)]⟩
              case measure => simp [intOf]; omega
            · have hq : ¬ (9223372036854775808 - c) / base < N := fun h2 => absurd ((parse_quo z ((((D[k]).toNat : Nat) : Int) - 48) N c base HZ.out (by omega) (by omega)).2 h2) (Int.not_lt.2 (by assumption))
              obtain ⟨n1, n2⟩ := parse_next z ((((D[k]).toNat : Nat) : Int) - 48) N c base hb1 HZ.out (by omega) (by omega) hq
              go_round
              case rel => exact ⟨k + 1, N * base + c, false, _, by omega, by go_num, rfl, rfl, rfl, n1, n2, by rw [n1]; omega, by rw [n1]; omega, by show _ = _; rw [HR.out, hdr.out, rd_more _ _ _ _ (by have := HC.out; omega) (HC.out ▸ hq), HC.out]⟩
              case measure => simp [intOf]; omega
        · have HB : Hid (rd base D.data.toList 0 false = (0, 5)) := by
            show _ = _; rw [HR.out, hdr.out, rd_bad _ _ _ _ _ (by have := HC.out; omega)]
          have HV2 := HV.out
          rw [HB.out, pv_bad _ _ _ (by omega)] at HV2
          obtain ⟨rfl, rfl⟩ := Prod.mk.inj HV2
          go_wp2_with fail
          go_ret
          exact ⟨rfl, hbe⟩
      · have hcv := c3.out
        by_cases hd : c < base
        · cases b with
          | true =>
            go_wp2_with fail
            all_goals
              go_round
              case rel => exact ⟨k + 1, N, true, z, by omega, by go_num, rfl, rfl, rfl, HZ, hN, hz1, hz2, by show _ = _; rw [HR.out, hdr.out, rd_over _ _ _ _ (by have := HC.out; omega)]⟩
              case measure => simp [intOf]; omega
          | false =>
            go_wp2_with fail
            · have hq := (parse_quo z ((((D[k]).toNat : Nat) : Int) - 97 + 10) N c base HZ.out (by omega) (by omega)).1 (by assumption)
              go_round
              case rel => exact ⟨k + 1, N, true, z, by omega, by go_num, rfl, rfl, rfl, HZ, hN, hz1, hz2, by show _ = _; rw [HR.out, hdr.out, rd_much _ _ _ _ (by have := HC.out; omega) (HC.out ▸ hq)]⟩
              case measure => simp [intOf]; omega
            · have hq : ¬ (9223372036854775808 - c) / base < N := fun h2 => absurd ((parse_quo z ((((D[k]).toNat : Nat) : Int) - 97 + 10) N c base HZ.out (by omega) (by omega)).2 h2) (Int.not_lt.2 (by assumption))
              obtain ⟨n1, n2⟩ := parse_next z ((((D[k]).toNat : Nat) : Int) - 97 + 10) N c base hb1 HZ.out (by omega) (by omega) hq
              go_round
              case rel => exact ⟨k + 1, N * base + c, false, _, by omega, by go_num, rfl, rfl, rfl, n1, n2, by rw [n1]; omega, by rw [n1]; omega, by show _ = _; rw [HR.out, hdr.out, rd_more _ _ _ _ (by have := HC.out; omega) (HC.out ▸ hq), HC.out]⟩
              case measure => simp [intOf]; omega
        · have HB : Hid (rd base D.data.toList 0 false = (0, 5)) := by
            show _ = _; rw [HR.out, hdr.out, rd_bad _ _ _ _ _ (by have := HC.out; omega)]
          have HV2 := HV.out
          rw [HB.out, pv_bad _ _ _ (by omega)] at HV2
          obtain ⟨rfl, rfl⟩ := Prod.mk.inj HV2
          go_wp2_with fail
          go_ret
          exact ⟨rfl, hbe⟩
      · have hcv := c3.out
        by_cases hd : c < base
        · cases b with
          | true =>
            go_wp2_with fail
            all_goals
              go_round
              case rel => exact ⟨k + 1, N, true, z, by omega, by go_num, rfl, rfl, rfl, HZ, hN, hz1, hz2, by show _ = _; rw [HR.out, hdr.out, rd_over _ _ _ _ (by have := HC.out; omega)]⟩
              case measure => simp [intOf]; omega
          | false =>
            go_wp2_with fail
            · have hq := (parse_quo z ((((D[k]).toNat : Nat) : Int) - 65 + 10) N c base HZ.out (by omega) (by omega)).1 (by assumption)
              go_round
              case rel => exact ⟨k + 1, N, true, z, by omega, by go_num, rfl, rfl, rfl, HZ, hN, hz1, hz2, by show _ = _; rw [HR.out, hdr.out, rd_much _ _ _ _ (by have := HC.out; omega) (HC.out ▸ hq)]⟩
              case measure => simp [intOf]; omega
            · have hq : ¬ (9223372036854775808 - c) / base < N := fun h2 => absurd ((parse_quo z ((((D[k]).toNat : Nat) : Int) - 65 + 10) N c base HZ.out (by omega) (by omega)).2 h2) (Int.not_lt.2 (by assumption))
              obtain ⟨n1, n2⟩ := parse_next z ((((D[k]).toNat : Nat) : Int) - 65 + 10) N c base hb1 HZ.out (by omega) (by omega) hq
              go_round
              case rel => exact ⟨k + 1, N * base + c, false, _, by omega, by go_num, rfl, rfl, rfl, n1, n2, by rw [n1]; omega, by rw [n1]; omega, by show _ = _; rw [HR.out, hdr.out, rd_more _ _ _ _ (by have := HC.out; omega) (HC.out ▸ hq), HC.out]⟩
              case measure => simp [intOf]; omega
        · have HB : Hid (rd base D.data.toList 0 false = (0, 5)) := by
            show _ = _; rw [HR.out, hdr.out, rd_bad _ _ _ _ _ (by have := HC.out; omega)]
          have HV2 := HV.out
          rw [HB.out, pv_bad _ _ _ (by omega)] at HV2
          obtain ⟨rfl, rfl⟩ := Prod.mk.inj HV2
          go_wp2_with fail
          go_ret
          exact ⟨rfl, hbe⟩
      · have HB : Hid (rd base D.data.toList 0 false = (0, 5)) := by
          show _ = _; rw [HR.out, hdr.out, rd_bad _ _ _ _ _ (by have := HC.out; have := c1.out; omega)]
        have HV2 := HV.out
        rw [HB.out, pv_bad _ _ _ (by omega)] at HV2
        obtain ⟨rfl, rfl⟩ := Prod.mk.inj HV2
        have four : (D[k]).toNat < 48 ∨ (57 < (D[k]).toNat ∧ (D[k]).toNat < 65) ∨ (90 < (D[k]).toNat ∧ (D[k]).toNat < 97) ∨ 122 < (D[k]).toNat := by
          obtain ⟨n1, n2, n3⟩ := c2.out; omega
        rcases four with c3 | ⟨c3, c4⟩ | ⟨c3, c4⟩ | c3
        all_goals
          go_wp2_with fail
          go_ret
          exact ⟨rfl, hbe⟩
    · have hd : D.data.toList.drop k = [] := List.drop_eq_nil_of_le (by simp; omega)
      have HE := HR.out
      rw [hd, rd] at HE
      have HV2 := HV.out
      rw [HE] at HV2
      clear hd HE
      cases b with
      | true =>
        rw [if_pos rfl, pv_bad _ _ _ (by omega)] at HV2
        obtain ⟨rfl, rfl⟩ := Prod.mk.inj HV2
        clear HV2
        go_wp2_with fail
        go_ret
        exact ⟨rfl, hbe⟩
      | false =>
        rw [if_neg (by simp)] at HV2
        rw [pv_below] at HV2
        obtain ⟨rfl, rfl⟩ := Prod.mk.inj HV2
        clear HV2
        have hgz : (-(N : Int) == z) = true := by have := HZ.out; simp; omega
        go_wp2_with fail
        go_ret
        exact ⟨rfl, hbe⟩

set_option maxRecDepth 100000 in
set_option maxHeartbeats 1000000 in
theorem parses_bare (S : ByteArray) (base : Nat) (hb1 : 2 ≤ base) (hb2 : base ≤ 36) (hS : S.size = 0)
    (hparse : ∀ w, Calls Try.prog 31 #[.string S, .int .i64 (base : Int)] w fun e w' => e = .returned (.tuple #[.int .i64 0, .int .i64 5]) ∧ w = w') (w : World) :
    Calls Try.prog 7 #[.string S, .int .i64 (base : Int)] w fun e w' => e = .returned (.bool true) ∧ Below w.heap.size w w' := by
  have HP := Lib.hid hparse
  clear hparse
  have hne : S.toList.isEmpty = true := by
    rw [ByteArray.toList_eq]
    have e : S.data.toList.length = S.size := by simp
    rw [List.isEmpty_iff]; exact List.eq_nil_of_length_eq_zero (by omega)
  have hS2 : S.size ≤ 0 := by omega
  clear hS
  go_enter Try.func7, Try.ntmps7
  go_wp2_with fail
  refine (reckons_any _).mono ?_
  rintro e w1 ⟨rfl, hbe⟩
  go_wp2_with fail
  refine (HP.out _).mono ?_
  rintro e w2 ⟨rfl, rfl⟩
  go_wp2_with fail
  go_loop [9, 10, 11, 47] (fun g o n i => g = .bool false ∧ i = .int .i64 0) (fun _ _ _ _ => 0)
  case atStart => exact ⟨rfl, rfl⟩
  case round =>
    obtain ⟨rfl, rfl⟩ := hrel
    go_wp2_with fail
    go_ret
    exact ⟨rfl, hbe⟩

theorem one_bytes : ∀ (base : Nat), pv true (rdv base []) = (0, 5) := fun _ => rfl
set_option maxRecDepth 100000 in
set_option maxHeartbeats 1000000 in
theorem parses_sign (S D : ByteArray) (base : Nat) (hb1 : 2 ≤ base) (hb2 : base ≤ 36) (hS : 0 < S.size) (hS2 : S.size ≤ 200) (hD : D.size = 0) (hm : (S[0]).toNat = 45)
    (hsl : ∀ w, (Instr.sliceAt 9 (.string S) (some (.int .i64 1)) none none).run Try.prog w = .ok (.string D) w)
    (hparse : ∀ w, Calls Try.prog 31 #[.string S, .int .i64 (base : Int)] w fun e w' => e = .returned (.tuple #[.int .i64 0, .int .i64 5]) ∧ w = w') (w : World) :
    Calls Try.prog 7 #[.string S, .int .i64 (base : Int)] w fun e w' => e = .returned (.bool true) ∧ Below w.heap.size w w' := by
  have HP := Lib.hid hparse
  clear hparse
  have hb0 : (((S[0]).toNat : Int) == 45) = true := by simp; omega
  clear hm
  have hne := some_bytes S hS
  have hneD : D.toList.isEmpty = true := by
    rw [ByteArray.toList_eq]
    have e : D.data.toList.length = D.size := by simp
    rw [List.isEmpty_iff]; exact List.eq_nil_of_length_eq_zero (by omega)
  have hD2 : D.size ≤ 0 := by omega
  clear hD
  go_enter Try.func7, Try.ntmps7
  go_wp2_with fail
  refine (reckons_any _).mono ?_
  rintro e w1 ⟨rfl, hbe⟩
  go_wp2_with fail
  refine (HP.out _).mono ?_
  rintro e w2 ⟨rfl, rfl⟩
  go_wp2_with fail
  go_loop [9, 10, 11, 47] (fun g o n i => g = .bool false ∧ i = .int .i64 0) (fun _ _ _ _ => 0)
  case atStart => exact ⟨rfl, rfl⟩
  case round =>
    obtain ⟨rfl, rfl⟩ := hrel
    go_wp2_with fail
    go_ret
    exact ⟨rfl, hbe⟩

theorem numParses_walk (s : ByteArray) (base : Int) (hs : s.size ≤ maxLen) (_ : (Lit.int .i64 base).wf = true) (w : World) :
    Calls Try.prog 7 #[.string s, .int .i64 base] w fun e w' => e = .returned (.bool true) ∧ Below w.heap.size w w' := by
  by_cases h : 200 < s.size ∨ (s.size ≤ 200 ∧ base < 2) ∨ (s.size ≤ 200 ∧ 2 ≤ base ∧ 36 < base)
  · exact parses_out s base h w
  · obtain ⟨b, rfl⟩ := Int.eq_ofNat_of_zero_le (a := base) (by omega)
    have hb1 : 2 ≤ b := by omega
    have hb2 : b ≤ 36 := by omega
    have h200 : s.size ≤ 200 := by omega
    clear h
    by_cases h0 : 0 < s.size
    · by_cases h45 : (s[0]).toNat = 45
      · have hparse := fun w => parse_below s hs h0 h45 b hb1 hb2 w
        rw [← Lib.extract_to_end] at hparse
        have hsz : (s.extract 1 s.size).size = s.size - 1 := by simp
        by_cases h1 : s.size = 1
        · have hnil : (s.extract 1 s.size).data.toList = [] := by
            have e : (s.extract 1 s.size).data.toList.length = (s.extract 1 s.size).size := by simp
            exact List.eq_nil_of_length_eq_zero (by omega)
          rw [hnil, one_bytes] at hparse
          exact parses_sign s (s.extract 1 s.size) b hb1 hb2 h0 h200 (by omega) h45 (A.strFrom1 s (by omega)) hparse w
        · exact parses_minus s (s.extract 1 s.size) b _ _ hb1 hb2 h0 h200 (by omega) (by omega) hparse rfl h45 (A.strFrom1 s (by omega)) w
      · exact parses_plain s b _ _ hb1 hb2 h0 h200 h0 h200 (fun w => parse_bare s hs (fun _ => h45) b hb1 hb2 w) rfl h45 w
    · have hparse := fun w => parse_bare s hs (fun h => absurd h h0) b hb1 hb2 w
      have hnil : s.data.toList = [] := by
        have e : s.data.toList.length = s.size := by simp
        exact List.eq_nil_of_length_eq_zero (by omega)
      have e : pv false (rdv b s.data.toList) = (0, 5) := by rw [hnil]; rfl
      rw [e] at hparse
      exact parses_bare s b hb1 hb2 (by omega) hparse w
end Go.Proofs.Ytofodcnfdmlemaa
