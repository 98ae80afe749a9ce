/- Contracts of str.Slice, Find, Name, Front, Back, Strip, Hash. -/
import Derived.Test.YtaonojimpfhkfaaStr1
namespace Go.Proofs.Ytaonojimpfhkfaa
open Go.RowKit Go.ChangeShapes Go.WideShapes Go.ChangeAt

/-! blanks at the ends -/
def ahead : List UInt8 → Nat → Nat
  | [], k => k
  | c :: l, k => if blB c.toNat = true then ahead l (k + 1) else k
theorem ahead_yes (c : UInt8) (l : List UInt8) (k : Nat) (h : blB c.toNat = true) : ahead (c :: l) k = ahead l (k + 1) := by rw [ahead, if_pos h]
theorem ahead_no (c : UInt8) (l : List UInt8) (k : Nat) (h : ¬ blB c.toNat = true) : ahead (c :: l) k = k := by rw [ahead, if_neg h]
theorem ahead_le : ∀ (l : List UInt8) (k : Nat), k ≤ ahead l k ∧ ahead l k ≤ k + l.length
  | [], k => by simp [ahead]
  | c :: l, k => by
    rw [ahead]; split
    · have := ahead_le l (k + 1); simp; omega
    · simp
def behind (s : ByteArray) (f : Nat) : Nat → Nat
  | 0 => 0
  | t + 1 => if f < t + 1 ∧ (∃ h : t < s.size, blB (s[t]'h).toNat = true) then behind s f t else t + 1
theorem behind_yes (s : ByteArray) (f t : Nat) (h : t < s.size) (h1 : f < t + 1) (h2 : blB (s[t]).toNat = true) : behind s f (t + 1) = behind s f t := by rw [behind, if_pos ⟨h1, h, h2⟩]
theorem behind_no (s : ByteArray) (f t : Nat) (h : t < s.size) (h2 : ¬ blB (s[t]).toNat = true) : behind s f (t + 1) = t + 1 := by
  rw [behind, if_neg (fun h3 => h2 h3.2.2)]
theorem behind_low (s : ByteArray) (f t : Nat) (h1 : t ≤ f) : behind s f t = t := by
  cases t with
  | zero => rfl
  | succ t => rw [behind, if_neg (fun h3 => by omega)]
theorem behind_le (s : ByteArray) (f : Nat) : ∀ t, behind s f t ≤ t
  | 0 => Nat.le_refl _
  | t + 1 => by rw [behind]; split; have := behind_le s f t; omega; omega
theorem behind_ge (s : ByteArray) (f : Nat) : ∀ t, f ≤ t → f ≤ behind s f t
  | 0, h => h
  | t + 1, h => by rw [behind]; split; rename_i h2; exact behind_ge s f t (by omega); exact h

/-! names -/
def okAt (c k : Nat) : Bool := stB c || (!decide (k = 0) && dgB c)
def named : List UInt8 → Nat → Bool
  | [], _ => true
  | c :: l, k => okAt c.toNat k && named l (k + 1)
set_option maxRecDepth 100000 in
set_option maxHeartbeats 1000000 in
theorem name_any (s : ByteArray) (hs : s.size ≤ 1048576) (w : World) : Calls Try.prog 66 #[.string s] w fun e w' => e = .returned (.bool (decide (0 < s.size) && named s.data.toList 0)) ∧ w = w' := by
  go_enter Try.func66, Try.ntmps66
  go_wp2
  go_loop [6] (fun i => ∃ k : Nat, k ≤ s.size ∧ i = .int .i64 (k : Int) ∧ Hid (named s.data.toList 0 = named (s.data.toList.drop k) k)) (fun i => s.size - (intOf i).toNat)
  case atStart => exact ⟨0, by omega, rfl, rfl⟩
  case round =>
    obtain ⟨k, hk, rfl, HR⟩ := hrel
    by_cases hlt : k < s.size
    · have hc := byte_lt s k hlt
      have hdr := Lib.hid (drop_byte s k hlt)
      have HS : Hid (named s.data.toList 0 = (okAt (s[k]).toNat k && named (s.data.toList.drop (k + 1)) (k + 1))) := by show _ = _; rw [HR.out, hdr.out]; rfl
      cases hst : stB (s[k]).toNat
      · cases hdg : dgB (s[k]).toNat
        · have HN : Hid (named s.data.toList 0 = false) := by show _ = _; rw [HS.out]; simp [okAt, hst, hdg]
          by_cases h0 : k = 0
          · subst h0
            go_wp2_with (first | (go_at_call 71; refine (startsName_any _ hc _).mono ?_; rintro e w' ⟨rfl, rfl⟩) | (go_at_call 72; refine (isDigit_any _ hc _).mono ?_; rintro e w' ⟨rfl, rfl⟩))
            go_ret
            exact ⟨ret_b (by rw [HN.out]; simp), rfl⟩
          · have hk0 : ((k : Int) == 0) = false := by simp; omega
            clear h0
            go_wp2_with (first | (go_at_call 71; refine (startsName_any _ hc _).mono ?_; rintro e w' ⟨rfl, rfl⟩) | (go_at_call 72; refine (isDigit_any _ hc _).mono ?_; rintro e w' ⟨rfl, rfl⟩))
            go_ret
            exact ⟨ret_b (by rw [HN.out]; simp), rfl⟩
        · by_cases h0 : k = 0
          · have HN : Hid (named s.data.toList 0 = false) := by show _ = _; rw [HS.out, okAt, hst, decide_eq_true h0]; simp
            subst h0
            go_wp2_with (first | (go_at_call 71; refine (startsName_any _ hc _).mono ?_; rintro e w' ⟨rfl, rfl⟩) | (go_at_call 72; refine (isDigit_any _ hc _).mono ?_; rintro e w' ⟨rfl, rfl⟩))
            go_ret
            exact ⟨ret_b (by rw [HN.out]; simp), rfl⟩
          · have HN : Hid (named s.data.toList 0 = named (s.data.toList.drop (k + 1)) (k + 1)) := by show _ = _; rw [HS.out]; simp [okAt, hdg, h0]
            have hk0 : ((k : Int) == 0) = false := by simp; omega
            clear h0
            go_wp2_with (first | (go_at_call 71; refine (startsName_any _ hc _).mono ?_; rintro e w' ⟨rfl, rfl⟩) | (go_at_call 72; refine (isDigit_any _ hc _).mono ?_; rintro e w' ⟨rfl, rfl⟩))
            go_round
            case rel => exact ⟨k + 1, by omega, by go_num, HN⟩
            case measure => simp [intOf]; omega
      · have HN : Hid (named s.data.toList 0 = named (s.data.toList.drop (k + 1)) (k + 1)) := by show _ = _; rw [HS.out]; simp [okAt, hst]
        go_wp2_with (first | (go_at_call 71; refine (startsName_any _ hc _).mono ?_; rintro e w' ⟨rfl, rfl⟩) | (go_at_call 72; refine (isDigit_any _ hc _).mono ?_; rintro e w' ⟨rfl, rfl⟩))
        go_round
        case rel => exact ⟨k + 1, by omega, by go_num, HN⟩
        case measure => simp [intOf]; omega
    · have HN : Hid (named s.data.toList 0 = true) := by show _ = _; rw [HR.out, drop_end s k (by omega)]; rfl
      by_cases h0 : 0 < s.size
      · have hne := some_bytes s h0
        go_wp2
        go_ret
        exact ⟨ret_b (by first | rfl | (rw [HN.out]; done) | (rw [HN.out]; simp; done) | (rw [HN.out]; simp; omega)), rfl⟩
      · have hne := no_bytes s (by omega)
        go_wp2
        go_ret
        exact ⟨ret_b (by first | rfl | (rw [HN.out]; done) | (rw [HN.out]; simp; done) | (rw [HN.out]; simp; omega)), rfl⟩
end Go.Proofs.Ytaonojimpfhkfaa
