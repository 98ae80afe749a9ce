/- Contracts of str.Slice, Find, Name, Front, Back, Strip, Hash. -/
import Derived.Test.YtkpdjpplcejjiaaStr1
namespace Go.Proofs.Ytkpdjpplcejjiaa
open Go.RowKit Go.ChangeShapes Go.WideShapes Go.ChangeAt

theorem slice_no (s : ByteArray) (_ : s.size ≤ 1048576) (f t : Int) (h : placed f s.size < 0 ∨ placed t s.size < placed f s.size ∨ (s.size : Int) < placed t s.size) (w : World) :
    Calls Try.prog 16 #[.string s, .int .i64 f, .int .i64 t] w fun e w' => e = .returned (.tuple #[.string ⟨[].toArray⟩, .int .i64 1]) ∧ w = w' := by
  have HF := Lib.hid fun w => place_any f s.size w
  have HT := Lib.hid fun w => place_any t s.size w
  generalize placed f s.size = a at *
  generalize placed t s.size = b at *
  have h3 : a < 0 ∨ (0 ≤ a ∧ b < a) ∨ (0 ≤ a ∧ a ≤ b ∧ (s.size : Int) < b) := by omega
  clear h
  rcases h3 with h | ⟨h, h2⟩ | ⟨h, h2, h3⟩
  all_goals
    go_enter Try.func16, Try.ntmps16
    go_wp2_with fail
    refine (HF.out _).mono ?_
    rintro e w1 ⟨rfl, rfl⟩
    go_wp2_with fail
    refine (HT.out _).mono ?_
    rintro e w1 ⟨rfl, rfl⟩
    go_wp2_with fail
    go_ret2
    exact ⟨rfl, rfl⟩
theorem slice_yes (s : ByteArray) (hs : s.size ≤ 1048576) (f t : Int) (a b : Nat) (ha : placed f s.size = a) (hb : placed t s.size = b) (h1 : a ≤ b) (h2 : b ≤ s.size) (w : World) :
    Calls Try.prog 16 #[.string s, .int .i64 f, .int .i64 t] w fun e w' => e = .returned (.tuple #[.string (s.extract a b), .int .i64 0]) ∧ Below w.heap.size w w' := by
  have HF := Lib.hid fun w => place_any f s.size w
  have HT := Lib.hid fun w => place_any t s.size w
  rw [ha] at HF
  rw [hb] at HT
  clear ha hb
  go_enter Try.func16, Try.ntmps16
  go_wp2_with fail
  refine (HF.out _).mono ?_
  rintro e w1 ⟨rfl, rfl⟩
  go_wp2_with fail
  refine (HT.out _).mono ?_
  rintro e w1 ⟨rfl, rfl⟩
  go_wp2_with fail
  refine (piece_any s (by omega) a b h1 h2 _).mono ?_
  rintro e w1 ⟨rfl, hb⟩
  go_wp2_with fail
  go_ret2
  exact ⟨rfl, hb⟩

/-! blanks at the ends -/
def ahead : List UInt8 → Nat → Nat
  | [], k => k
  | c :: l, k => if blB c.toNat = true then ahead l (k + 1) else k
theorem ahead_yes (c : UInt8) (l : List UInt8) (k : Nat) (h : blB c.toNat = true) : ahead (c :: l) k = ahead l (k + 1) := by rw [ahead, if_pos h]
theorem ahead_no (c : UInt8) (l : List UInt8) (k : Nat) (h : ¬ blB c.toNat = true) : ahead (c :: l) k = k := by rw [ahead, if_neg h]
theorem ahead_le : ∀ (l : List UInt8) (k : Nat), k ≤ ahead l k ∧ ahead l k ≤ k + l.length
  | [], k => by simp [ahead]
  | c :: l, k => by
    rw [ahead]; split
    · have := ahead_le l (k + 1); simp; omega
    · simp
def behind (s : ByteArray) (f : Nat) : Nat → Nat
  | 0 => 0
  | t + 1 => if f < t + 1 ∧ (∃ h : t < s.size, blB (s[t]'h).toNat = true) then behind s f t else t + 1
theorem behind_yes (s : ByteArray) (f t : Nat) (h : t < s.size) (h1 : f < t + 1) (h2 : blB (s[t]).toNat = true) : behind s f (t + 1) = behind s f t := by rw [behind, if_pos ⟨h1, h, h2⟩]
theorem behind_no (s : ByteArray) (f t : Nat) (h : t < s.size) (h2 : ¬ blB (s[t]).toNat = true) : behind s f (t + 1) = t + 1 := by
  rw [behind, if_neg (fun h3 => h2 h3.2.2)]
theorem behind_low (s : ByteArray) (f t : Nat) (h1 : t ≤ f) : behind s f t = t := by
  cases t with
  | zero => rfl
  | succ t => rw [behind, if_neg (fun h3 => by omega)]
theorem behind_le (s : ByteArray) (f : Nat) : ∀ t, behind s f t ≤ t
  | 0 => Nat.le_refl _
  | t + 1 => by rw [behind]; split; have := behind_le s f t; omega; omega
theorem behind_ge (s : ByteArray) (f : Nat) : ∀ t, f ≤ t → f ≤ behind s f t
  | 0, h => h
  | t + 1, h => by rw [behind]; split; rename_i h2; exact behind_ge s f t (by omega); exact h

set_option maxHeartbeats 1000000 in
theorem ahead_any (s : ByteArray) (hs : s.size ≤ 1048576) (w : World) : Calls Try.prog 42 #[.string s] w fun e w' => e = .returned (.int .i64 ((ahead s.data.toList 0 : Nat) : Int)) ∧ w = w' := by
  go_enter Try.func42, Try.ntmps42
  go_wp2
  go_loop [6] (fun i => ∃ k : Nat, k ≤ s.size ∧ i = .int .i64 (k : Int) ∧ Hid (ahead s.data.toList 0 = ahead (s.data.toList.drop k) k)) (fun i => s.size - (intOf i).toNat)
  case atStart => exact ⟨0, by omega, rfl, rfl⟩
  case round =>
    obtain ⟨k, hk, rfl, HR⟩ := hrel
    by_cases hlt : k < s.size
    · have hc := byte_lt s k hlt
      have hdr := Lib.hid (drop_byte s k hlt)
      cases hb : blB (s[k]).toNat
      · go_wp2_with (go_at_call 52; refine (isBlank_any _ hc _).mono ?_; rintro e w' ⟨rfl, rfl⟩)
        go_ret
        exact ⟨ret_i64 (by rw [HR.out, hdr.out, ahead_no _ _ _ (by rw [hb]; simp)]), rfl⟩
      · go_wp2_with (go_at_call 52; refine (isBlank_any _ hc _).mono ?_; rintro e w' ⟨rfl, rfl⟩)
        go_round
        case rel => exact ⟨k + 1, by omega, by go_num, by show _ = _; rw [HR.out, hdr.out, ahead_yes _ _ _ hb]⟩
        case measure => simp [intOf]; omega
    · have hd := Lib.hid (drop_end s k (by omega))
      go_wp2
      go_ret
      have e : k = s.size := by omega
      exact ⟨ret_i64 (by rw [HR.out, hd.out, ahead, e]), rfl⟩
set_option maxHeartbeats 1000000 in
theorem behind_any (s : ByteArray) (hs : s.size ≤ 1048576) (f : Nat) (w : World) : Calls Try.prog 43 #[.string s, .int .i64 (f : Int)] w fun e w' => e = .returned (.int .i64 ((behind s f s.size : Nat) : Int)) ∧ w = w' := by
  go_enter Try.func43, Try.ntmps43
  go_wp2
  go_loop [5] (fun i => ∃ k : Nat, k ≤ s.size ∧ i = .int .i64 (k : Int) ∧ Hid (behind s f s.size = behind s f k)) (fun i => (intOf i).toNat)
  case atStart => exact ⟨s.size, by omega, rfl, rfl⟩
  case round =>
    obtain ⟨k, hk, rfl, HR⟩ := hrel
    by_cases hlt : f < k
    · obtain ⟨j, rfl⟩ : ∃ j, k = j + 1 := ⟨k - 1, by omega⟩
      have hj : j < s.size := by omega
      have hc := byte_lt s j hj
      cases hb : blB (s[j]).toNat
      · go_wp2_with (go_at_call 52; refine (isBlank_any _ hc _).mono ?_; rintro e w' ⟨rfl, rfl⟩)
        go_ret
        exact ⟨ret_i64 (by have e := HR.out.trans (behind_no _ f _ hj (by rw [hb]; simp)); omega), rfl⟩
      · go_wp2_with (go_at_call 52; refine (isBlank_any _ hc _).mono ?_; rintro e w' ⟨rfl, rfl⟩)
        go_round
        case rel => exact ⟨j, by omega, by go_num, by show _ = _; rw [HR.out, behind_yes _ _ _ hj hlt hb]⟩
        case measure => simp [intOf]
    · go_wp2
      go_ret
      exact ⟨ret_i64 (by rw [HR.out, behind_low _ _ _ (by omega)]), rfl⟩
theorem front_any (s : ByteArray) (hs : s.size ≤ 1048576) (w : World) : Calls Try.prog 24 #[.string s] w fun e w' => e = .returned (.string (s.extract (ahead s.data.toList 0) s.size)) ∧ Below w.heap.size w w' := by
  have h1 := (ahead_le s.data.toList 0).2
  rw [size_list] at h1
  have HA := Lib.hid fun w => ahead_any s hs w
  generalize ahead s.data.toList 0 = f at *
  go_enter Try.func24, Try.ntmps24
  go_wp2_with fail
  refine (HA.out _).mono ?_
  rintro e w1 ⟨rfl, rfl⟩
  go_wp2_with fail
  refine (piece_any s (by omega) f s.size (by omega) (Nat.le_refl _) _).mono ?_
  rintro e w1 ⟨rfl, hb⟩
  go_wp2_with fail
  go_ret
  exact ⟨rfl, hb⟩
theorem back_any (s : ByteArray) (hs : s.size ≤ 1048576) (w : World) : Calls Try.prog 25 #[.string s] w fun e w' => e = .returned (.string (s.extract 0 (behind s 0 s.size))) ∧ Below w.heap.size w w' := by
  have h1 := behind_le s 0 s.size
  have HA := Lib.hid fun w => behind_any s hs 0 w
  generalize behind s 0 s.size = f at *
  go_enter Try.func25, Try.ntmps25
  go_wp2_with fail
  refine (HA.out _).mono ?_
  rintro e w1 ⟨rfl, rfl⟩
  go_wp2_with fail
  refine (piece_any s (by omega) 0 f (by omega) h1 _).mono ?_
  rintro e w1 ⟨rfl, hb⟩
  go_wp2_with fail
  go_ret
  exact ⟨rfl, hb⟩
theorem strip_any (s : ByteArray) (hs : s.size ≤ 1048576) (w : World) : Calls Try.prog 26 #[.string s] w fun e w' => e = .returned (.string (s.extract (ahead s.data.toList 0) (behind s (ahead s.data.toList 0) s.size))) ∧ Below w.heap.size w w' := by
  have h1 := (ahead_le s.data.toList 0).2
  rw [size_list] at h1
  have HA := Lib.hid fun w => ahead_any s hs w
  generalize ahead s.data.toList 0 = f at *
  have HB := Lib.hid fun w => behind_any s hs f w
  have h2 := behind_le s f s.size
  have h3 := behind_ge s f s.size (by omega)
  generalize behind s f s.size = t at *
  go_enter Try.func26, Try.ntmps26
  go_wp2_with fail
  refine (HA.out _).mono ?_
  rintro e w1 ⟨rfl, rfl⟩
  go_wp2_with fail
  refine (HB.out _).mono ?_
  rintro e w1 ⟨rfl, rfl⟩
  go_wp2_with fail
  refine (piece_any s (by omega) f t h3 h2 _).mono ?_
  rintro e w1 ⟨rfl, hb⟩
  go_wp2_with fail
  go_ret
  exact ⟨rfl, hb⟩

/-! names -/
def okAt (c k : Nat) : Bool := stB c || (!decide (k = 0) && dgB c)
def named : List UInt8 → Nat → Bool
  | [], _ => true
  | c :: l, k => okAt c.toNat k && named l (k + 1)
set_option maxRecDepth 100000 in
set_option maxHeartbeats 1000000 in
theorem name_any (s : ByteArray) (hs : s.size ≤ 1048576) (w : World) : Calls Try.prog 29 #[.string s] w fun e w' => e = .returned (.bool (decide (0 < s.size) && named s.data.toList 0)) ∧ w = w' := by
  go_enter Try.func29, Try.ntmps29
  go_wp2
  go_loop [6] (fun i => ∃ k : Nat, k ≤ s.size ∧ i = .int .i64 (k : Int) ∧ Hid (named s.data.toList 0 = named (s.data.toList.drop k) k)) (fun i => s.size - (intOf i).toNat)
  case atStart => exact ⟨0, by omega, rfl, rfl⟩
  case round =>
    obtain ⟨k, hk, rfl, HR⟩ := hrel
    by_cases hlt : k < s.size
    · have hc := byte_lt s k hlt
      have hdr := Lib.hid (drop_byte s k hlt)
      have HS : Hid (named s.data.toList 0 = (okAt (s[k]).toNat k && named (s.data.toList.drop (k + 1)) (k + 1))) := by show _ = _; rw [HR.out, hdr.out]; rfl
      cases hst : stB (s[k]).toNat
      · cases hdg : dgB (s[k]).toNat
        · have HN : Hid (named s.data.toList 0 = false) := by show _ = _; rw [HS.out]; simp [okAt, hst, hdg]
          by_cases h0 : k = 0
          · subst h0
            go_wp2_with (first | (go_at_call 45; refine (startsName_any _ hc _).mono ?_; rintro e w' ⟨rfl, rfl⟩) | (go_at_call 46; refine (isDigit_any _ hc _).mono ?_; rintro e w' ⟨rfl, rfl⟩))
            go_ret
            exact ⟨ret_b (by rw [HN.out]; simp), rfl⟩
          · have hk0 : ((k : Int) == 0) = false := by simp; omega
            clear h0
            go_wp2_with (first | (go_at_call 45; refine (startsName_any _ hc _).mono ?_; rintro e w' ⟨rfl, rfl⟩) | (go_at_call 46; refine (isDigit_any _ hc _).mono ?_; rintro e w' ⟨rfl, rfl⟩))
            go_ret
            exact ⟨ret_b (by rw [HN.out]; simp), rfl⟩
        · by_cases h0 : k = 0
          · have HN : Hid (named s.data.toList 0 = false) := by show _ = _; rw [HS.out, okAt, hst, decide_eq_true h0]; simp
            subst h0
            go_wp2_with (first | (go_at_call 45; refine (startsName_any _ hc _).mono ?_; rintro e w' ⟨rfl, rfl⟩) | (go_at_call 46; refine (isDigit_any _ hc _).mono ?_; rintro e w' ⟨rfl, rfl⟩))
            go_ret
            exact ⟨ret_b (by rw [HN.out]; simp), rfl⟩
          · have HN : Hid (named s.data.toList 0 = named (s.data.toList.drop (k + 1)) (k + 1)) := by show _ = _; rw [HS.out]; simp [okAt, hdg, h0]
            have hk0 : ((k : Int) == 0) = false := by simp; omega
            clear h0
            go_wp2_with (first | (go_at_call 45; refine (startsName_any _ hc _).mono ?_; rintro e w' ⟨rfl, rfl⟩) | (go_at_call 46; refine (isDigit_any _ hc _).mono ?_; rintro e w' ⟨rfl, rfl⟩))
            go_round
            case rel => exact ⟨k + 1, by omega, by go_num, HN⟩
            case measure => simp [intOf]; omega
      · have HN : Hid (named s.data.toList 0 = named (s.data.toList.drop (k + 1)) (k + 1)) := by show _ = _; rw [HS.out]; simp [okAt, hst]
        go_wp2_with (first | (go_at_call 45; refine (startsName_any _ hc _).mono ?_; rintro e w' ⟨rfl, rfl⟩) | (go_at_call 46; refine (isDigit_any _ hc _).mono ?_; rintro e w' ⟨rfl, rfl⟩))
        go_round
        case rel => exact ⟨k + 1, by omega, by go_num, HN⟩
        case measure => simp [intOf]; omega
    · have HN : Hid (named s.data.toList 0 = true) := by show _ = _; rw [HR.out, drop_end s k (by omega)]; rfl
      by_cases h0 : 0 < s.size
      · have hne := some_bytes s h0
        go_wp2
        go_ret
        exact ⟨ret_b (by first | rfl | (rw [HN.out]; done) | (rw [HN.out]; simp; done) | (rw [HN.out]; simp; omega)), rfl⟩
      · have hne := no_bytes s (by omega)
        go_wp2
        go_ret
        exact ⟨ret_b (by first | rfl | (rw [HN.out]; done) | (rw [HN.out]; simp; done) | (rw [HN.out]; simp; omega)), rfl⟩
end Go.Proofs.Ytkpdjpplcejjiaa
