/- Contracts of str's small functions: kinds of bytes, places, pieces, Compare, Slice, Name. -/
import Derived.Test.YtkpdjpplcejjiaaBase
import Derived.Test.YtkpdjpplcejjiaaShelf
namespace Go.Proofs.Ytkpdjpplcejjiaa
open Go.RowKit Go.ChangeShapes Go.WideShapes Go.ChangeAt

theorem isGreat_any (c : Nat) (hc : c ≤ 255) (w : World) : Calls Try.prog 40 #[.int .u8 (c : Int)] w fun e w' => e = .returned (.bool (upB c)) ∧ w = w' := by
  by_cases h1 : 65 ≤ c
  all_goals
    go_enter Try.func40, Try.ntmps40
    go_wp2
    go_ret
    exact ⟨ret_b (by rw [Bool.eq_iff_iff]; simp [upB]; omega), rfl⟩
theorem isSmall_any (c : Nat) (hc : c ≤ 255) (w : World) : Calls Try.prog 41 #[.int .u8 (c : Int)] w fun e w' => e = .returned (.bool (loB c)) ∧ w = w' := by
  by_cases h1 : 97 ≤ c
  all_goals
    go_enter Try.func41, Try.ntmps41
    go_wp2
    go_ret
    exact ⟨ret_b (by rw [Bool.eq_iff_iff]; simp [loB]; omega), rfl⟩
theorem isDigit_any (c : Nat) (hc : c ≤ 255) (w : World) : Calls Try.prog 46 #[.int .u8 (c : Int)] w fun e w' => e = .returned (.bool (dgB c)) ∧ w = w' := by
  by_cases h1 : 48 ≤ c
  all_goals
    go_enter Try.func46, Try.ntmps46
    go_wp2
    go_ret
    exact ⟨ret_b (by rw [Bool.eq_iff_iff]; simp [dgB]; omega), rfl⟩
theorem isBlank_any (c : Nat) (hc : c ≤ 255) (w : World) : Calls Try.prog 52 #[.int .u8 (c : Int)] w fun e w' => e = .returned (.bool (blB c)) ∧ w = w' := by
  by_cases h0 : c = 32
  · subst h0
    go_enter Try.func52, Try.ntmps52
    go_wp2
    go_ret
    exact ⟨rfl, rfl⟩
  · have hb : ((c : Int) == 32) = false := by simp; omega
    by_cases h1 : 9 ≤ c
    all_goals
      go_enter Try.func52, Try.ntmps52
      go_wp2
      go_ret
      exact ⟨ret_b (by rw [Bool.eq_iff_iff]; simp [blB]; omega), rfl⟩
theorem startsName_any (c : Nat) (hc : c ≤ 255) (w : World) : Calls Try.prog 45 #[.int .u8 (c : Int)] w fun e w' => e = .returned (.bool (stB c)) ∧ w = w' := by
  unfold stB
  cases h1 : loB c <;> cases h2 : upB c
  all_goals
    go_enter Try.func45, Try.ntmps45
    go_wp2_with (first | (go_at_call 41; refine (isSmall_any _ hc _).mono ?_; rintro e w' ⟨rfl, rfl⟩) | (go_at_call 40; refine (isGreat_any _ hc _).mono ?_; rintro e w' ⟨rfl, rfl⟩))
    go_ret
    exact ⟨ret_b (by first | (simp; done) | (rw [Bool.eq_iff_iff]; simp; omega)), rfl⟩

def placed (a n : Int) : Int := if a < 0 then wrap64 (a + n) else a
theorem place_any (a n : Int) (w : World) : Calls Try.prog 35 #[.int .i64 a, .int .i64 n] w fun e w' => e = .returned (.int .i64 (placed a n)) ∧ w = w' := by
  unfold placed
  by_cases h : a < 0
  · rw [if_pos h]
    go_enter Try.func35, Try.ntmps35
    go_wp2
    go_ret
    exact ⟨rfl, rfl⟩
  · rw [if_neg h]
    go_enter Try.func35, Try.ntmps35
    go_wp2
    go_ret
    exact ⟨rfl, rfl⟩
theorem clone_any (s : ByteArray) (hs : s.size ≤ 281474976710656) (w : World) : Calls Try.prog 49 #[.string s] w fun e w' => e = .returned (.string s) ∧ Below w.heap.size w w' := by
  go_enter Try.func49, Try.ntmps49
  go_wp2_with fail
  refine (Try.stringslite_Clone s _ hs).mono ?_
  rintro e w' ⟨rfl, hb⟩
  go_wp2_with fail
  go_ret
  exact ⟨rfl, hb⟩
theorem piece_any (s : ByteArray) (hs : s.size ≤ 281474976710656) (f t : Nat) (h1 : f ≤ t) (h2 : t ≤ s.size) (w : World) :
    Calls Try.prog 36 #[.string s, .int .i64 (f : Int), .int .i64 (t : Int)] w fun e w' => e = .returned (.string (s.extract f t)) ∧ Below w.heap.size w w' := by
  have hx : (s.extract f t).size ≤ 281474976710656 := by simp; omega
  have HC := Lib.hid fun w => clone_any (s.extract f t) hx w
  clear hx
  go_enter Try.func36, Try.ntmps36
  go_wp2_with fail
  refine (HC.out _).mono ?_
  rintro e w' ⟨rfl, hb⟩
  go_wp2_with fail
  go_ret
  exact ⟨rfl, hb⟩
theorem compare_any (a b : ByteArray) (w : World) : Calls Try.prog 19 #[.string a, .string b] w fun e w' => e = .returned (.int .i64 (Lib.compareBytes a.data.toList b.data.toList)) ∧ w = w' := by
  go_enter Try.func19, Try.ntmps19
  go_wp2_with fail
  refine (Try.strings_Compare a b _).mono ?_
  rintro e w' ⟨rfl, rfl⟩
  go_wp2_with fail
  go_ret
  exact ⟨rfl, rfl⟩
end Go.Proofs.Ytkpdjpplcejjiaa
