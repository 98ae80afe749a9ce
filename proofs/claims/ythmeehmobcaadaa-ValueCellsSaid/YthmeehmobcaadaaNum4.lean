/- Contracts of num.Leading. -/
import Derived.Test.YthmeehmobcaadaaNum3
namespace Go.Proofs.Ythmeehmobcaadaa.Nu
open Go.RowKit Go.ChangeShapes Go.WideShapes Go.ChangeAt

theorem neg_any (a : Int) (w : World) : Calls Try.prog 54 #[.int .i64 a] w fun e w' => e = .returned (.int .i64 (wrap64 (-a))) ∧ w = w' := by
  go_enter Try.func54, Try.ntmps54
  go_wp2
  go_ret
  exact ⟨rfl, rfl⟩

/-- The digits from a place on: the number, going round, and where they end. -/
def leadRun : List UInt8 → Int → Nat → Int × Nat
  | [], n, k => (n, k)
  | c :: l, n, k => if dv c.toNat < 10 then leadRun l (wrap64 (wrap64 (n * 10) + ((dv c.toNat : Nat) : Int))) (k + 1) else (n, k)
theorem leadRun_yes (c : UInt8) (l : List UInt8) (n : Int) (k : Nat) (h : dv c.toNat < 10) : leadRun (c :: l) n k = leadRun l (wrap64 (wrap64 (n * 10) + ((dv c.toNat : Nat) : Int))) (k + 1) := by rw [leadRun, if_pos h]
theorem leadRun_no (c : UInt8) (l : List UInt8) (n : Int) (k : Nat) (h : ¬ dv c.toNat < 10) : leadRun (c :: l) n k = (n, k) := by rw [leadRun, if_neg h]
/-- Where the digits begin. -/
def sgn (l : List UInt8) : Nat := if l.head? = some 45 ∨ l.head? = some 43 then 1 else 0
/-- Leading's answer. -/
def lead (l : List UInt8) : Int × Nat :=
  if (leadRun (l.drop (sgn l)) 0 (sgn l)).2 = sgn l then (0, 0) else
    ((if l.head? = some 45 then wrap64 (-(leadRun (l.drop (sgn l)) 0 (sgn l)).1) else (leadRun (l.drop (sgn l)) 0 (sgn l)).1), (leadRun (l.drop (sgn l)) 0 (sgn l)).2)
theorem lead_none (l : List UInt8) (f : Nat) (hf : sgn l = f) (n : Int) (k : Nat) (h : leadRun (l.drop f) 0 f = (n, k)) (hk : k = f) : lead l = (0, 0) := by
  unfold lead; rw [hf, h, if_pos hk]
theorem lead_minus (l : List UInt8) (f : Nat) (hf : sgn l = f) (hm : l.head? = some 45) (n : Int) (k : Nat) (h : leadRun (l.drop f) 0 f = (n, k)) (hk : ¬ k = f) : lead l = (wrap64 (-n), k) := by
  unfold lead; rw [hf, h, if_neg hk, if_pos hm]
theorem lead_plus (l : List UInt8) (f : Nat) (hf : sgn l = f) (hm : l.head? ≠ some 45) (n : Int) (k : Nat) (h : leadRun (l.drop f) 0 f = (n, k)) (hk : ¬ k = f) : lead l = (n, k) := by
  unfold lead; rw [hf, h, if_neg hk, if_neg hm]
theorem head_byte (s : ByteArray) (h : 0 < s.size) : s.data.toList.head? = some s[0] := by
  have := drop_byte s 0 h
  rw [List.drop_zero] at this
  rw [this]; rfl
theorem u8_eq {a : UInt8} {n : Nat} (h : a.toNat = n) : a = UInt8.ofNat n := by rw [← h]; simp
theorem head_is (s : ByteArray) (h : 0 < s.size) (n : Nat) (h1 : (s[0]).toNat = n) : s.data.toList.head? = some (UInt8.ofNat n) := by rw [head_byte s h, u8_eq h1]
theorem head_not (s : ByteArray) (h : 0 < s.size) (n : Nat) (hn : n < 256) (h1 : ¬ (s[0]).toNat = n) : s.data.toList.head? ≠ some (UInt8.ofNat n) := by
  rw [head_byte s h]
  intro h2
  simp only [Option.some.injEq] at h2
  rw [h2] at h1
  exact h1 (by rw [UInt8.toNat_ofNat']; omega)

set_option maxRecDepth 100000 in
set_option maxHeartbeats 1000000 in
theorem leading_minus (s : ByteArray) (hs : s.size ≤ maxLen) (h0 : 0 < s.size) (h1 : (s[0]).toNat = 45) (w : World) :
    Calls Try.prog 23 #[.string s] w fun e w' => e = .returned (.tuple #[.int .i64 (lead s.data.toList).1, .int .i64 (((lead s.data.toList).2 : Nat) : Int)]) ∧ w = w' := by
  have HF : Hid (sgn s.data.toList = 1) := by show _ = _; exact if_pos (Or.inl (head_is s h0 45 h1))
  have HM : Hid (s.data.toList.head? = some 45) := head_is s h0 45 h1
  have b1 : (((s[0]).toNat : Int) == 45) = true := by simp; omega
  unfold maxLen at hs
  clear h1
  go_enter Try.func23, Try.ntmps23
  go_wp2
  go_loop [5, 6] (fun v i => ∃ (k : Nat) (n : Int), 1 ≤ k ∧ k ≤ s.size ∧ i = .int .i64 (k : Int) ∧ v = .int .i64 n ∧ Hid (leadRun (s.data.toList.drop 1) 0 1 = leadRun (s.data.toList.drop k) n k)) (fun _ i => s.size - (intOf i).toNat)
  case atStart => exact ⟨1, 0, by omega, by omega, rfl, rfl, rfl⟩
  case round =>
    obtain ⟨k, n, hfk, hk, rfl, rfl, HR⟩ := hrel
    by_cases hlt : k < s.size
    · have hc := byte_lt s k hlt
      have hdr := Lib.hid (drop_byte s k hlt)
      have hd36 := dv_le (s[k]).toNat
      by_cases hd : dv (s[k]).toNat < 10
      · go_wp2_with (first | (go_at_call 53; refine (digit_any _ (by omega) _).mono ?_; rintro e w' ⟨rfl, rfl⟩) | (go_at_call 54; refine (neg_any _ _).mono ?_; rintro e w' ⟨rfl, rfl⟩))
        go_round
        case rel => exact ⟨k + 1, _, by omega, by omega, by go_num, rfl, by show _ = _; rw [HR.out, hdr.out, leadRun_yes _ _ _ _ hd]⟩
        case measure => simp [intOf]; omega
      · have HE : Hid (leadRun (s.data.toList.drop 1) 0 1 = (n, k)) := by show _ = _; rw [HR.out, hdr.out, leadRun_no _ _ _ _ hd]
        by_cases hkf : k = 1
        · have hb : ((k : Int) == 1) = true := by simp; omega
          have HK := Lib.hid hkf
          clear hkf
          go_wp2_with (first | (go_at_call 53; refine (digit_any _ (by omega) _).mono ?_; rintro e w' ⟨rfl, rfl⟩) | (go_at_call 54; refine (neg_any _ _).mono ?_; rintro e w' ⟨rfl, rfl⟩))
          go_ret2
          rw [lead_none _ _ HF.out _ _ HE.out HK.out]
          exact ⟨rfl, rfl⟩
        · have hb : ((k : Int) == 1) = false := by simp; omega
          have HK := Lib.hid hkf
          clear hkf
          go_wp2_with (first | (go_at_call 53; refine (digit_any _ (by omega) _).mono ?_; rintro e w' ⟨rfl, rfl⟩) | (go_at_call 54; refine (neg_any _ _).mono ?_; rintro e w' ⟨rfl, rfl⟩))
          go_ret2
          rw [lead_minus _ _ HF.out HM.out _ _ HE.out HK.out]
          exact ⟨rfl, rfl⟩
    · have hd : s.data.toList.drop k = [] := List.drop_eq_nil_of_le (by simp; omega)
      have HE : Hid (leadRun (s.data.toList.drop 1) 0 1 = (n, k)) := by show _ = _; rw [HR.out, hd]; rfl
      clear hd
      by_cases hkf : k = 1
      · have hb : ((k : Int) == 1) = true := by simp; omega
        have HK := Lib.hid hkf
        clear hkf
        go_wp2
        go_ret2
        rw [lead_none _ _ HF.out _ _ HE.out HK.out]
        exact ⟨rfl, rfl⟩
      · have hb : ((k : Int) == 1) = false := by simp; omega
        have HK := Lib.hid hkf
        clear hkf
        go_wp2
        go_ret2
        rw [lead_minus _ _ HF.out HM.out _ _ HE.out HK.out]
        exact ⟨rfl, rfl⟩

set_option maxRecDepth 100000 in
set_option maxHeartbeats 1000000 in
theorem leading_plus (s : ByteArray) (hs : s.size ≤ maxLen) (h0 : 0 < s.size) (h1 : (s[0]).toNat = 43) (w : World) :
    Calls Try.prog 23 #[.string s] w fun e w' => e = .returned (.tuple #[.int .i64 (lead s.data.toList).1, .int .i64 (((lead s.data.toList).2 : Nat) : Int)]) ∧ w = w' := by
  have HF : Hid (sgn s.data.toList = 1) := by show _ = _; exact if_pos (Or.inr (head_is s h0 43 h1))
  have HM : Hid (s.data.toList.head? ≠ some 45) := head_not s h0 45 (by omega) (by omega)
  have b1 : (((s[0]).toNat : Int) == 45) = false := by simp; omega
  have b2 : (((s[0]).toNat : Int) == 43) = true := by simp; omega
  unfold maxLen at hs
  clear h1
  go_enter Try.func23, Try.ntmps23
  go_wp2
  go_loop [5, 6] (fun v i => ∃ (k : Nat) (n : Int), 1 ≤ k ∧ k ≤ s.size ∧ i = .int .i64 (k : Int) ∧ v = .int .i64 n ∧ Hid (leadRun (s.data.toList.drop 1) 0 1 = leadRun (s.data.toList.drop k) n k)) (fun _ i => s.size - (intOf i).toNat)
  case atStart => exact ⟨1, 0, by omega, by omega, rfl, rfl, rfl⟩
  case round =>
    obtain ⟨k, n, hfk, hk, rfl, rfl, HR⟩ := hrel
    by_cases hlt : k < s.size
    · have hc := byte_lt s k hlt
      have hdr := Lib.hid (drop_byte s k hlt)
      have hd36 := dv_le (s[k]).toNat
      by_cases hd : dv (s[k]).toNat < 10
      · go_wp2_with (first | (go_at_call 53; refine (digit_any _ (by omega) _).mono ?_; rintro e w' ⟨rfl, rfl⟩) | (go_at_call 54; refine (neg_any _ _).mono ?_; rintro e w' ⟨rfl, rfl⟩))
        go_round
        case rel => exact ⟨k + 1, _, by omega, by omega, by go_num, rfl, by show _ = _; rw [HR.out, hdr.out, leadRun_yes _ _ _ _ hd]⟩
        case measure => simp [intOf]; omega
      · have HE : Hid (leadRun (s.data.toList.drop 1) 0 1 = (n, k)) := by show _ = _; rw [HR.out, hdr.out, leadRun_no _ _ _ _ hd]
        by_cases hkf : k = 1
        · have hb : ((k : Int) == 1) = true := by simp; omega
          have HK := Lib.hid hkf
          clear hkf
          go_wp2_with (first | (go_at_call 53; refine (digit_any _ (by omega) _).mono ?_; rintro e w' ⟨rfl, rfl⟩) | (go_at_call 54; refine (neg_any _ _).mono ?_; rintro e w' ⟨rfl, rfl⟩))
          go_ret2
          rw [lead_none _ _ HF.out _ _ HE.out HK.out]
          exact ⟨rfl, rfl⟩
        · have hb : ((k : Int) == 1) = false := by simp; omega
          have HK := Lib.hid hkf
          clear hkf
          go_wp2_with (first | (go_at_call 53; refine (digit_any _ (by omega) _).mono ?_; rintro e w' ⟨rfl, rfl⟩) | (go_at_call 54; refine (neg_any _ _).mono ?_; rintro e w' ⟨rfl, rfl⟩))
          go_ret2
          rw [lead_plus _ _ HF.out HM.out _ _ HE.out HK.out]
          exact ⟨rfl, rfl⟩
    · have hd : s.data.toList.drop k = [] := List.drop_eq_nil_of_le (by simp; omega)
      have HE : Hid (leadRun (s.data.toList.drop 1) 0 1 = (n, k)) := by show _ = _; rw [HR.out, hd]; rfl
      clear hd
      by_cases hkf : k = 1
      · have hb : ((k : Int) == 1) = true := by simp; omega
        have HK := Lib.hid hkf
        clear hkf
        go_wp2
        go_ret2
        rw [lead_none _ _ HF.out _ _ HE.out HK.out]
        exact ⟨rfl, rfl⟩
      · have hb : ((k : Int) == 1) = false := by simp; omega
        have HK := Lib.hid hkf
        clear hkf
        go_wp2
        go_ret2
        rw [lead_plus _ _ HF.out HM.out _ _ HE.out HK.out]
        exact ⟨rfl, rfl⟩

set_option maxRecDepth 100000 in
set_option maxHeartbeats 1000000 in
theorem leading_bare (s : ByteArray) (hs : s.size ≤ maxLen) (h0 : 0 < s.size) (h1 : ¬ (s[0]).toNat = 45) (h2 : ¬ (s[0]).toNat = 43) (w : World) :
    Calls Try.prog 23 #[.string s] w fun e w' => e = .returned (.tuple #[.int .i64 (lead s.data.toList).1, .int .i64 (((lead s.data.toList).2 : Nat) : Int)]) ∧ w = w' := by
  have HF : Hid (sgn s.data.toList = 0) := by show _ = _; exact if_neg (fun h => h.elim (head_not s h0 45 (by omega) h1) (head_not s h0 43 (by omega) h2))
  have HM : Hid (s.data.toList.head? ≠ some 45) := head_not s h0 45 (by omega) h1
  have b1 : (((s[0]).toNat : Int) == 45) = false := by simp; omega
  have b2 : (((s[0]).toNat : Int) == 43) = false := by simp; omega
  unfold maxLen at hs
  clear h1 h2
  go_enter Try.func23, Try.ntmps23
  go_wp2
  go_loop [5, 6] (fun v i => ∃ (k : Nat) (n : Int), 0 ≤ k ∧ k ≤ s.size ∧ i = .int .i64 (k : Int) ∧ v = .int .i64 n ∧ Hid (leadRun (s.data.toList.drop 0) 0 0 = leadRun (s.data.toList.drop k) n k)) (fun _ i => s.size - (intOf i).toNat)
  case atStart => exact ⟨0, 0, by omega, by omega, rfl, rfl, rfl⟩
  case round =>
    obtain ⟨k, n, hfk, hk, rfl, rfl, HR⟩ := hrel
    by_cases hlt : k < s.size
    · have hc := byte_lt s k hlt
      have hdr := Lib.hid (drop_byte s k hlt)
      have hd36 := dv_le (s[k]).toNat
      by_cases hd : dv (s[k]).toNat < 10
      · go_wp2_with (first | (go_at_call 53; refine (digit_any _ (by omega) _).mono ?_; rintro e w' ⟨rfl, rfl⟩) | (go_at_call 54; refine (neg_any _ _).mono ?_; rintro e w' ⟨rfl, rfl⟩))
        go_round
        case rel => exact ⟨k + 1, _, by omega, by omega, by go_num, rfl, by show _ = _; rw [HR.out, hdr.out, leadRun_yes _ _ _ _ hd]⟩
        case measure => simp [intOf]; omega
      · have HE : Hid (leadRun (s.data.toList.drop 0) 0 0 = (n, k)) := by show _ = _; rw [HR.out, hdr.out, leadRun_no _ _ _ _ hd]
        by_cases hkf : k = 0
        · have hb : ((k : Int) == 0) = true := by simp; omega
          have HK := Lib.hid hkf
          clear hkf
          go_wp2_with (first | (go_at_call 53; refine (digit_any _ (by omega) _).mono ?_; rintro e w' ⟨rfl, rfl⟩) | (go_at_call 54; refine (neg_any _ _).mono ?_; rintro e w' ⟨rfl, rfl⟩))
          go_ret2
          rw [lead_none _ _ HF.out _ _ HE.out HK.out]
          exact ⟨rfl, rfl⟩
        · have hb : ((k : Int) == 0) = false := by simp; omega
          have HK := Lib.hid hkf
          clear hkf
          go_wp2_with (first | (go_at_call 53; refine (digit_any _ (by omega) _).mono ?_; rintro e w' ⟨rfl, rfl⟩) | (go_at_call 54; refine (neg_any _ _).mono ?_; rintro e w' ⟨rfl, rfl⟩))
          go_ret2
          rw [lead_plus _ _ HF.out HM.out _ _ HE.out HK.out]
          exact ⟨rfl, rfl⟩
    · have hd : s.data.toList.drop k = [] := List.drop_eq_nil_of_le (by simp; omega)
      have HE : Hid (leadRun (s.data.toList.drop 0) 0 0 = (n, k)) := by show _ = _; rw [HR.out, hd]; rfl
      clear hd
      by_cases hkf : k = 0
      · have hb : ((k : Int) == 0) = true := by simp; omega
        have HK := Lib.hid hkf
        clear hkf
        go_wp2
        go_ret2
        rw [lead_none _ _ HF.out _ _ HE.out HK.out]
        exact ⟨rfl, rfl⟩
      · have hb : ((k : Int) == 0) = false := by simp; omega
        have HK := Lib.hid hkf
        clear hkf
        go_wp2
        go_ret2
        rw [lead_plus _ _ HF.out HM.out _ _ HE.out HK.out]
        exact ⟨rfl, rfl⟩

theorem leading_empty (s : ByteArray) (h0 : s.size = 0) (w : World) :
    Calls Try.prog 23 #[.string s] w fun e w' => e = .returned (.tuple #[.int .i64 (lead s.data.toList).1, .int .i64 (((lead s.data.toList).2 : Nat) : Int)]) ∧ w = w' := by
  have hz : s.data.toList = [] := List.eq_nil_of_length_eq_zero (by simpa using h0)
  have HL : Hid (lead s.data.toList = (0, 0)) := by show _ = _; rw [hz]; rfl
  clear hz
  go_enter Try.func23, Try.ntmps23
  go_wp2
  go_loop [5, 6] (fun v i => i = .int .i64 0 ∧ v = .int .i64 0) (fun _ i => 0)
  case atStart => exact ⟨rfl, rfl⟩
  case round =>
    obtain ⟨rfl, rfl⟩ := hrel
    go_wp2
    go_ret2
    rw [HL.out]
    exact ⟨rfl, rfl⟩

theorem leading_any (s : ByteArray) (hs : s.size ≤ maxLen) (w : World) :
    Calls Try.prog 23 #[.string s] w fun e w' => e = .returned (.tuple #[.int .i64 (lead s.data.toList).1, .int .i64 (((lead s.data.toList).2 : Nat) : Int)]) ∧ w = w' := by
  by_cases h0 : 0 < s.size
  · by_cases h1 : (s[0]).toNat = 45
    · exact leading_minus s hs h0 h1 w
    · by_cases h2 : (s[0]).toNat = 43
      · exact leading_plus s hs h0 h2 w
      · exact leading_bare s hs h0 h1 h2 w
  · exact leading_empty s (by omega) w
end Go.Proofs.Ythmeehmobcaadaa.Nu
