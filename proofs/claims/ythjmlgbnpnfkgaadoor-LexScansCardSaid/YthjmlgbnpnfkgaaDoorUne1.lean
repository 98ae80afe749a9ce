/- Contracts of str.hexDigit, hexByte, escaped. -/
import Derived.Test.YthjmlgbnpnfkgaaDoorStr1
import Derived.Laws.BitsAllLaws
namespace Go.Proofs.YthjmlgbnpnfkgaaDoor
open Go.RowKit Go.ChangeShapes Go.WideShapes Go.ChangeAt

/-- A digit to the base 16: is it one? what does it count? -/
def hexB (c : Nat) : Bool := dgB c || (decide (97 ≤ c) && decide (c ≤ 102)) || (decide (65 ≤ c) && decide (c ≤ 70))
def hexV (c : Nat) : Nat := if dgB c = true then c - 48 else if 97 ≤ c ∧ c ≤ 102 then c - 97 + 10 else if 65 ≤ c ∧ c ≤ 70 then c - 65 + 10 else 0
theorem hexV_lt (c : Nat) : hexV c < 16 := by
  unfold hexV dgB; split
  · rename_i h; simp at h; omega
  · split; omega; split <;> omega
theorem ret_ub {a b : Int} {x y : Bool} (h : a = b) (h2 : x = y) : Ending.returned (.tuple #[.int .u8 a, .bool x]) = .returned (.tuple #[.int .u8 b, .bool y]) := by rw [h, h2]
theorem ret_ui {a b c d : Int} (h : a = b) (h2 : c = d) : Ending.returned (.tuple #[.int .u8 a, .int .i64 c]) = .returned (.tuple #[.int .u8 b, .int .i64 d]) := by rw [h, h2]

theorem ret_pair {p q : Nat × Nat} {a b : Int} (h : Hid (p = q)) (ha : a = ((q.1 : Nat) : Int)) (hb : b = ((q.2 : Nat) : Int)) : Ending.returned (.tuple #[.int .u8 a, .int .i64 b]) = .returned (.tuple #[.int .u8 ((p.1 : Nat) : Int), .int .i64 ((p.2 : Nat) : Int)]) := by rw [h.out, ha, hb]

theorem hexDigit_any (c : Nat) (hc : c ≤ 255) (w : World) : Calls Tryd.prog 91 #[.int .u8 (c : Int)] w fun e w' => e = .returned (.tuple #[.int .u8 ((hexV c : Nat) : Int), .bool (hexB c)]) ∧ w = w' := by
  cases hd : dgB c
  · have four : (97 ≤ c ∧ c ≤ 102) ∨ (65 ≤ c ∧ c ≤ 70) ∨ c < 65 ∨ (70 < c ∧ c < 97) ∨ 102 < c := by omega
    rcases four with ⟨h1, h2⟩ | ⟨h1, h2⟩ | h1 | ⟨h1, h2⟩ | h1
    · have HV : Hid (hexV c = c - 97 + 10) := by show _ = _; unfold hexV; rw [hd, if_neg (by simp), if_pos ⟨h1, h2⟩]
      have HB : Hid (hexB c = true) := by show _ = _; unfold hexB; simp; omega
      go_enter Tryd.func91, Tryd.ntmps91
      go_wp2_with (go_at_call 61; refine (isDigit_any _ hc _).mono ?_; rintro e w' ⟨rfl, rfl⟩)
      go_ret2
      exact ⟨ret_ub (by rw [HV.out]; omega) HB.out.symm, rfl⟩
    · have HV : Hid (hexV c = c - 65 + 10) := by show _ = _; unfold hexV; rw [hd, if_neg (by simp), if_neg (by omega), if_pos ⟨h1, h2⟩]
      have HB : Hid (hexB c = true) := by show _ = _; unfold hexB; simp; omega
      go_enter Tryd.func91, Tryd.ntmps91
      go_wp2_with (go_at_call 61; refine (isDigit_any _ hc _).mono ?_; rintro e w' ⟨rfl, rfl⟩)
      go_ret2
      exact ⟨ret_ub (by rw [HV.out]; omega) HB.out.symm, rfl⟩
    all_goals
      have HV : Hid (hexV c = 0) := by show _ = _; unfold hexV; rw [hd, if_neg (by simp), if_neg (by omega), if_neg (by omega)]
      have HB : Hid (hexB c = false) := by show _ = _; unfold hexB; rw [hd]; simp; omega
      go_enter Tryd.func91, Tryd.ntmps91
      go_wp2_with (go_at_call 61; refine (isDigit_any _ hc _).mono ?_; rintro e w' ⟨rfl, rfl⟩)
      go_ret2
      exact ⟨ret_ub (by rw [HV.out]; rfl) HB.out.symm, rfl⟩
  · have hr : 48 ≤ c ∧ c ≤ 57 := by unfold dgB at hd; simp at hd; exact hd
    obtain ⟨h1, h2⟩ := hr
    have HV : Hid (hexV c = c - 48) := by show _ = _; unfold hexV; rw [hd, if_pos rfl]
    have HB : Hid (hexB c = true) := by show _ = _; unfold hexB; rw [hd]; simp
    go_enter Tryd.func91, Tryd.ntmps91
    go_wp2_with (go_at_call 61; refine (isDigit_any _ hc _).mono ?_; rintro e w' ⟨rfl, rfl⟩)
    go_ret2
    exact ⟨ret_ub (by rw [HV.out]; omega) HB.out.symm, rfl⟩

/-- What one or two digits tell, and how many bytes with the x: 0: none. -/
def hexR : List UInt8 → Nat × Nat
  | [] => (0, 0)
  | a :: l => if hexB a.toNat = true then (match l with
    | [] => (hexV a.toNat, 2)
    | b :: _ => if hexB b.toNat = true then (hexV a.toNat * 16 + hexV b.toNat, 3) else (hexV a.toNat, 2)) else (0, 0)
theorem hexR_no (a : UInt8) (l : List UInt8) (h : hexB a.toNat = false) : hexR (a :: l) = (0, 0) := by simp [hexR, h]
theorem hexR_end (a : UInt8) (h : hexB a.toNat = true) : hexR [a] = (hexV a.toNat, 2) := by simp [hexR, h]
theorem hexR_one (a b : UInt8) (l : List UInt8) (h : hexB a.toNat = true) (h2 : hexB b.toNat = false) : hexR (a :: b :: l) = (hexV a.toNat, 2) := by simp [hexR, h, h2]
theorem hexR_two (a b : UInt8) (l : List UInt8) (h : hexB a.toNat = true) (h2 : hexB b.toNat = true) : hexR (a :: b :: l) = (hexV a.toNat * 16 + hexV b.toNat, 3) := by simp [hexR, h, h2]
theorem hexR_small (l : List UInt8) : (hexR l).1 ≤ 255 ∧ (hexR l).2 ≤ 3 ∧ (hexR l).2 ≤ l.length + 1 := by
  match l with
  | [] => simp [hexR]
  | [a] =>
    cases h : hexB a.toNat
    · rw [hexR_no a _ h]; simp
    · rw [hexR_end a h]; have := hexV_lt a.toNat; simp; omega
  | a :: b :: l =>
    cases h : hexB a.toNat
    · rw [hexR_no a _ h]; simp
    · have := hexV_lt a.toNat
      cases h2 : hexB b.toNat
      · rw [hexR_one a b l h h2]; simp; omega
      · rw [hexR_two a b l h h2]; have := hexV_lt b.toNat; simp; omega
def hexS (s : ByteArray) : Nat × Nat := hexR (s.data.toList.drop 1)
theorem or_low (a b : Nat) (ha : a < 16) (hb : b < 16) : bits .or .u8 ((a * 16 : Nat) : Int) (b : Int) = ((a * 16 + b : Nat) : Int) := by
  rw [u8_or_nat _ _ (by omega) (by omega)]
  have h := Nat.two_pow_add_eq_or_of_lt (i := 4) (b := b) (by omega) a
  rw [show (2 : Nat) ^ 4 = 16 from rfl] at h
  rw [Nat.mul_comm a 16, h]
theorem or_zero (b : Nat) (hb : b < 16) : bits .or .u8 0 (b : Int) = (b : Int) := by
  have h := or_low 0 b (by omega) hb
  simpa using h
set_option maxRecDepth 100000 in
set_option maxHeartbeats 1000000 in
theorem hexByte_any (s : ByteArray) (h0 : 0 < s.size) (hs : s.size ≤ 1048576) (w : World) : Calls Tryd.prog 84 #[.string s] w fun e w' => e = .returned (.tuple #[.int .u8 (((hexS s).1 : Nat) : Int), .int .i64 (((hexS s).2 : Nat) : Int)]) ∧ w = w' := by
  by_cases h1 : 1 < s.size
  · have hc1 := byte_lt s 1 h1
    have hd1 := drop_byte s 1 h1
    have hv1 := hexV_lt (s[1]).toNat
    cases hx1 : hexB (s[1]).toNat
    · have HE : Hid (hexS s = (0, 0)) := by show _ = _; unfold hexS; rw [hd1, hexR_no _ _ hx1]
      clear hd1
      go_enter Tryd.func84, Tryd.ntmps84
      go_wp2_with fail
      refine wp_loop_rounds 3 ?_
      rw [rounds_succ]
      go_wp2_with (go_at_call 91; refine (hexDigit_any _ (by assumption) _).mono ?_; rintro e w' ⟨rfl, rfl⟩)
      go_ret2
      exact ⟨ret_pair HE rfl rfl, rfl⟩
    · have ho1 := or_zero (hexV (s[1]).toNat) hv1
      by_cases h2 : 2 < s.size
      · have hc2 := byte_lt s 2 h2
        have hd2 := drop_byte s 2 h2
        have hv2 := hexV_lt (s[2]).toNat
        cases hx2 : hexB (s[2]).toNat
        · have HE : Hid (hexS s = (hexV (s[1]).toNat, 2)) := by show _ = _; unfold hexS; rw [hd1, hd2, hexR_one _ _ _ hx1 hx2]
          clear hd1 hd2
          go_enter Tryd.func84, Tryd.ntmps84
          go_wp2_with fail
          refine wp_loop_rounds 3 ?_
          rw [rounds_succ]
          go_wp2_with (go_at_call 91; refine (hexDigit_any _ (by assumption) _).mono ?_; rintro e w' ⟨rfl, rfl⟩)
          rw [rounds_succ]
          go_wp2_with (go_at_call 91; refine (hexDigit_any _ (by assumption) _).mono ?_; rintro e w' ⟨rfl, rfl⟩)
          go_ret2
          exact ⟨ret_pair HE rfl rfl, rfl⟩
        · have HE : Hid (hexS s = (hexV (s[1]).toNat * 16 + hexV (s[2]).toNat, 3)) := by show _ = _; unfold hexS; rw [hd1, hd2, hexR_two _ _ _ hx1 hx2]
          have ho2 := or_low (hexV (s[1]).toNat) (hexV (s[2]).toNat) hv1 hv2
          rw [Int.natCast_mul, Int.natCast_add, Int.natCast_mul, show ((16 : Nat) : Int) = 16 from rfl] at ho2
          clear hd1 hd2
          go_enter Tryd.func84, Tryd.ntmps84
          go_wp2_with fail
          refine wp_loop_rounds 3 ?_
          rw [rounds_succ]
          go_wp2_with (go_at_call 91; refine (hexDigit_any _ (by assumption) _).mono ?_; rintro e w' ⟨rfl, rfl⟩)
          rw [rounds_succ]
          go_wp2_with (go_at_call 91; refine (hexDigit_any _ (by assumption) _).mono ?_; rintro e w' ⟨rfl, rfl⟩)
          rw [rounds_succ]
          go_wp2_with (go_at_call 91; refine (hexDigit_any _ (by assumption) _).mono ?_; rintro e w' ⟨rfl, rfl⟩)
          all_goals go_ret2
          all_goals exact ⟨ret_pair HE (by simp) rfl, rfl⟩
      · have hd2 := drop_end s 2 (by omega)
        have HE : Hid (hexS s = (hexV (s[1]).toNat, 2)) := by show _ = _; unfold hexS; rw [hd1, hd2, hexR_end _ hx1]
        clear hd1 hd2
        go_enter Tryd.func84, Tryd.ntmps84
        go_wp2_with fail
        refine wp_loop_rounds 3 ?_
        rw [rounds_succ]
        go_wp2_with (go_at_call 91; refine (hexDigit_any _ (by assumption) _).mono ?_; rintro e w' ⟨rfl, rfl⟩)
        rw [rounds_succ]
        go_wp2_with (go_at_call 91; refine (hexDigit_any _ (by assumption) _).mono ?_; rintro e w' ⟨rfl, rfl⟩)
        go_ret2
        exact ⟨ret_pair HE rfl rfl, rfl⟩
  · have hd1 := drop_end s 1 (by omega)
    have HE : Hid (hexS s = (0, 0)) := by show _ = _; unfold hexS; rw [hd1]; rfl
    clear hd1
    go_enter Tryd.func84, Tryd.ntmps84
    go_wp2_with fail
    refine wp_loop_rounds 3 ?_
    rw [rounds_succ]
    go_wp2_with (go_at_call 91; refine (hexDigit_any _ (by assumption) _).mono ?_; rintro e w' ⟨rfl, rfl⟩)
    go_ret2
    exact ⟨ret_pair HE rfl rfl, rfl⟩

/-- What stands behind a backslash: the byte that it tells, and by how many bytes; 0: none. -/
def escR : List UInt8 → Nat × Nat
  | [] => (0, 0)
  | c :: l => if c = 34 ∨ c = 39 ∨ c = 92 then (c.toNat, 1) else if c = 110 then (10, 1) else if c = 114 then (13, 1) else if c = 116 then (9, 1) else if c = 48 then (0, 1) else if c = 120 then hexR l else (0, 0)
theorem escR_small (l : List UInt8) : (escR l).1 ≤ 255 ∧ (escR l).2 ≤ 3 ∧ (escR l).2 ≤ l.length := by
  cases l with
  | nil => simp [escR]
  | cons c l =>
    have hc := c.toNat_lt
    have := hexR_small l
    simp only [escR]
    repeat' split
    all_goals simp
    all_goals omega
theorem escR_else (c : UInt8) (l : List UInt8) (h1 : ¬ c.toNat = 34) (h2 : ¬ c.toNat = 39) (h3 : ¬ c.toNat = 92) (h4 : ¬ c.toNat = 110) (h5 : ¬ c.toNat = 114) (h6 : ¬ c.toNat = 116) (h7 : ¬ c.toNat = 48) (h8 : ¬ c.toNat = 120) : escR (c :: l) = (0, 0) := by
  have g1 : c ≠ 34 := fun h => h1 (by rw [h]; rfl)
  have g2 : c ≠ 39 := fun h => h2 (by rw [h]; rfl)
  have g3 : c ≠ 92 := fun h => h3 (by rw [h]; rfl)
  have g4 : c ≠ 110 := fun h => h4 (by rw [h]; rfl)
  have g5 : c ≠ 114 := fun h => h5 (by rw [h]; rfl)
  have g6 : c ≠ 116 := fun h => h6 (by rw [h]; rfl)
  have g7 : c ≠ 48 := fun h => h7 (by rw [h]; rfl)
  have g8 : c ≠ 120 := fun h => h8 (by rw [h]; rfl)
  simp [escR, g1, g2, g3, g4, g5, g6, g7, g8]
theorem u8_of {a : UInt8} (n : Nat) (h : a.toNat = n) : a = UInt8.ofNat n := by rw [← h]; simp
theorem beq_no {a n : Nat} (h : ¬ a = n) : ((a : Int) == (n : Int)) = false := by simp; omega
theorem beq_yes {a n : Nat} (h : a = n) : ((a : Int) == (n : Int)) = true := by simp [h]
set_option maxRecDepth 100000 in
set_option maxHeartbeats 2000000 in
theorem escaped_any (s : ByteArray) (hs : s.size ≤ 1048576) (w : World) : Calls Tryd.prog 70 #[.string s] w fun e w' => e = .returned (.tuple #[.int .u8 (((escR s.data.toList).1 : Nat) : Int), .int .i64 (((escR s.data.toList).2 : Nat) : Int)]) ∧ w = w' := by
  by_cases h0 : 0 < s.size
  · have hne := some_bytes s h0
    have hd := drop_byte s 0 h0
    rw [List.drop_zero] at hd
    have HX := Lib.hid fun w => hexByte_any s h0 hs w
    by_cases q0 : s[0].toNat = 34
    · have e0 : (((s[0]).toNat : Int) == 34) = true := beq_yes q0
      have HE : Hid (escR s.data.toList = (34, 1)) := by show _ = _; rw [hd, u8_of 34 q0]; rfl
      clear hd
      go_enter Tryd.func70, Tryd.ntmps70
      go_wp2_with fail
      go_ret2
      exact ⟨ret_pair HE rfl rfl, rfl⟩
    by_cases q1 : s[0].toNat = 39
    · have e0 : (((s[0]).toNat : Int) == 34) = false := beq_no q0
      have e1 : (((s[0]).toNat : Int) == 39) = true := beq_yes q1
      have HE : Hid (escR s.data.toList = (39, 1)) := by show _ = _; rw [hd, u8_of 39 q1]; rfl
      clear hd
      go_enter Tryd.func70, Tryd.ntmps70
      go_wp2_with fail
      go_ret2
      exact ⟨ret_pair HE rfl rfl, rfl⟩
    by_cases q2 : s[0].toNat = 92
    · have e0 : (((s[0]).toNat : Int) == 34) = false := beq_no q0
      have e1 : (((s[0]).toNat : Int) == 39) = false := beq_no q1
      have e2 : (((s[0]).toNat : Int) == 92) = true := beq_yes q2
      have HE : Hid (escR s.data.toList = (92, 1)) := by show _ = _; rw [hd, u8_of 92 q2]; rfl
      clear hd
      go_enter Tryd.func70, Tryd.ntmps70
      go_wp2_with fail
      go_ret2
      exact ⟨ret_pair HE rfl rfl, rfl⟩
    by_cases q3 : s[0].toNat = 110
    · have e0 : (((s[0]).toNat : Int) == 34) = false := beq_no q0
      have e1 : (((s[0]).toNat : Int) == 39) = false := beq_no q1
      have e2 : (((s[0]).toNat : Int) == 92) = false := beq_no q2
      have e3 : (((s[0]).toNat : Int) == 110) = true := beq_yes q3
      have HE : Hid (escR s.data.toList = (10, 1)) := by show _ = _; rw [hd, u8_of 110 q3]; rfl
      clear hd
      go_enter Tryd.func70, Tryd.ntmps70
      go_wp2_with fail
      go_ret2
      exact ⟨ret_pair HE rfl rfl, rfl⟩
    by_cases q4 : s[0].toNat = 114
    · have e0 : (((s[0]).toNat : Int) == 34) = false := beq_no q0
      have e1 : (((s[0]).toNat : Int) == 39) = false := beq_no q1
      have e2 : (((s[0]).toNat : Int) == 92) = false := beq_no q2
      have e3 : (((s[0]).toNat : Int) == 110) = false := beq_no q3
      have e4 : (((s[0]).toNat : Int) == 114) = true := beq_yes q4
      have HE : Hid (escR s.data.toList = (13, 1)) := by show _ = _; rw [hd, u8_of 114 q4]; rfl
      clear hd
      go_enter Tryd.func70, Tryd.ntmps70
      go_wp2_with fail
      go_ret2
      exact ⟨ret_pair HE rfl rfl, rfl⟩
    by_cases q5 : s[0].toNat = 116
    · have e0 : (((s[0]).toNat : Int) == 34) = false := beq_no q0
      have e1 : (((s[0]).toNat : Int) == 39) = false := beq_no q1
      have e2 : (((s[0]).toNat : Int) == 92) = false := beq_no q2
      have e3 : (((s[0]).toNat : Int) == 110) = false := beq_no q3
      have e4 : (((s[0]).toNat : Int) == 114) = false := beq_no q4
      have e5 : (((s[0]).toNat : Int) == 116) = true := beq_yes q5
      have HE : Hid (escR s.data.toList = (9, 1)) := by show _ = _; rw [hd, u8_of 116 q5]; rfl
      clear hd
      go_enter Tryd.func70, Tryd.ntmps70
      go_wp2_with fail
      go_ret2
      exact ⟨ret_pair HE rfl rfl, rfl⟩
    by_cases q6 : s[0].toNat = 48
    · have e0 : (((s[0]).toNat : Int) == 34) = false := beq_no q0
      have e1 : (((s[0]).toNat : Int) == 39) = false := beq_no q1
      have e2 : (((s[0]).toNat : Int) == 92) = false := beq_no q2
      have e3 : (((s[0]).toNat : Int) == 110) = false := beq_no q3
      have e4 : (((s[0]).toNat : Int) == 114) = false := beq_no q4
      have e5 : (((s[0]).toNat : Int) == 116) = false := beq_no q5
      have e6 : (((s[0]).toNat : Int) == 48) = true := beq_yes q6
      have HE : Hid (escR s.data.toList = (0, 1)) := by show _ = _; rw [hd, u8_of 48 q6]; rfl
      clear hd
      go_enter Tryd.func70, Tryd.ntmps70
      go_wp2_with fail
      go_ret2
      exact ⟨ret_pair HE rfl rfl, rfl⟩
    by_cases q7 : s[0].toNat = 120
    · have e0 : (((s[0]).toNat : Int) == 34) = false := beq_no q0
      have e1 : (((s[0]).toNat : Int) == 39) = false := beq_no q1
      have e2 : (((s[0]).toNat : Int) == 92) = false := beq_no q2
      have e3 : (((s[0]).toNat : Int) == 110) = false := beq_no q3
      have e4 : (((s[0]).toNat : Int) == 114) = false := beq_no q4
      have e5 : (((s[0]).toNat : Int) == 116) = false := beq_no q5
      have e6 : (((s[0]).toNat : Int) == 48) = false := beq_no q6
      have e7 : (((s[0]).toNat : Int) == 120) = true := beq_yes q7
      have HE : Hid (escR s.data.toList = hexS s) := by show _ = _; rw [hd, u8_of 120 q7]; rfl
      clear hd
      go_enter Tryd.func70, Tryd.ntmps70
      go_wp2_with (go_at_call 84; refine (HX.out _).mono ?_; rintro e w' ⟨rfl, rfl⟩)
      go_ret2
      exact ⟨ret_pair HE rfl rfl, rfl⟩
    have e0 : (((s[0]).toNat : Int) == 34) = false := beq_no q0
    have e1 : (((s[0]).toNat : Int) == 39) = false := beq_no q1
    have e2 : (((s[0]).toNat : Int) == 92) = false := beq_no q2
    have e3 : (((s[0]).toNat : Int) == 110) = false := beq_no q3
    have e4 : (((s[0]).toNat : Int) == 114) = false := beq_no q4
    have e5 : (((s[0]).toNat : Int) == 116) = false := beq_no q5
    have e6 : (((s[0]).toNat : Int) == 48) = false := beq_no q6
    have e7 : (((s[0]).toNat : Int) == 120) = false := beq_no q7
    have HE : Hid (escR s.data.toList = (0, 0)) := by show _ = _; rw [hd]; exact escR_else _ _ q0 q1 q2 q3 q4 q5 q6 q7
    clear hd
    go_enter Tryd.func70, Tryd.ntmps70
    go_wp2_with fail
    go_ret2
    exact ⟨ret_pair HE rfl rfl, rfl⟩
  · have hne := no_bytes s (by omega)
    have HE : Hid (escR s.data.toList = (0, 0)) := by show _ = _; rw [no_list s (by omega)]; rfl
    go_enter Tryd.func70, Tryd.ntmps70
    go_wp2_with fail
    go_ret2
    exact ⟨ret_pair HE rfl rfl, rfl⟩
end Go.Proofs.YthjmlgbnpnfkgaaDoor
