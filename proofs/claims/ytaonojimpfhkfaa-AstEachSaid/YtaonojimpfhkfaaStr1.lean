/- Contracts of str's small functions: kinds of bytes, places, pieces, Compare, Slice, Name. -/
import Derived.Test.YtaonojimpfhkfaaBase
import Derived.Test.YtaonojimpfhkfaaShelf
namespace Go.Proofs.Ytaonojimpfhkfaa
open Go.RowKit Go.ChangeShapes Go.WideShapes Go.ChangeAt

theorem isGreat_any (c : Nat) (hc : c ≤ 255) (w : World) : Calls Try.prog 75 #[.int .u8 (c : Int)] w fun e w' => e = .returned (.bool (upB c)) ∧ w = w' := by
  by_cases h1 : 65 ≤ c
  all_goals
    go_enter Try.func75, Try.ntmps75
    go_wp2
    go_ret
    exact ⟨ret_b (by rw [Bool.eq_iff_iff]; simp [upB]; omega), rfl⟩
theorem isSmall_any (c : Nat) (hc : c ≤ 255) (w : World) : Calls Try.prog 74 #[.int .u8 (c : Int)] w fun e w' => e = .returned (.bool (loB c)) ∧ w = w' := by
  by_cases h1 : 97 ≤ c
  all_goals
    go_enter Try.func74, Try.ntmps74
    go_wp2
    go_ret
    exact ⟨ret_b (by rw [Bool.eq_iff_iff]; simp [loB]; omega), rfl⟩
theorem isDigit_any (c : Nat) (hc : c ≤ 255) (w : World) : Calls Try.prog 72 #[.int .u8 (c : Int)] w fun e w' => e = .returned (.bool (dgB c)) ∧ w = w' := by
  by_cases h1 : 48 ≤ c
  all_goals
    go_enter Try.func72, Try.ntmps72
    go_wp2
    go_ret
    exact ⟨ret_b (by rw [Bool.eq_iff_iff]; simp [dgB]; omega), rfl⟩
theorem startsName_any (c : Nat) (hc : c ≤ 255) (w : World) : Calls Try.prog 71 #[.int .u8 (c : Int)] w fun e w' => e = .returned (.bool (stB c)) ∧ w = w' := by
  unfold stB
  cases h1 : loB c <;> cases h2 : upB c
  all_goals
    go_enter Try.func71, Try.ntmps71
    go_wp2_with (first | (go_at_call 74; refine (isSmall_any _ hc _).mono ?_; rintro e w' ⟨rfl, rfl⟩) | (go_at_call 75; refine (isGreat_any _ hc _).mono ?_; rintro e w' ⟨rfl, rfl⟩))
    go_ret
    exact ⟨ret_b (by first | (simp; done) | (rw [Bool.eq_iff_iff]; simp; omega)), rfl⟩

def placed (a n : Int) : Int := if a < 0 then wrap64 (a + n) else a
theorem clone_any (s : ByteArray) (hs : s.size ≤ 281474976710656) (w : World) : Calls Try.prog 45 #[.string s] w fun e w' => e = .returned (.string s) ∧ Below w.heap.size w w' := by
  go_enter Try.func45, Try.ntmps45
  go_wp2_with fail
  refine (Try.stringslite_Clone s _ hs).mono ?_
  rintro e w' ⟨rfl, hb⟩
  go_wp2_with fail
  go_ret
  exact ⟨rfl, hb⟩
end Go.Proofs.Ytaonojimpfhkfaa
