/- dreylaw01.reckons holds: all that it calls at its own numbers. -/
import Derived.Test.YthmeehmobcaadaaShift
namespace Go.Proofs.Ythmeehmobcaadaa.Nu
open Go.RowKit Go.ChangeShapes Go.WideShapes Go.ChangeAt

theorem div_some (a b : Int) (h0 : ¬ b = 0) (w : World) :
    Calls Try.prog 31 #[.int .i64 a, .int .i64 b] w fun e w' => e = .returned (.tuple #[.int .i64 (wrap64 (a.tdiv b)), .int .i64 0]) ∧ w = w' := by
  have hb : (b == 0) = false := by simpa using h0
  go_enter Try.func31, Try.ntmps31
  go_wp2
  go_ret2
  exact ⟨rfl, rfl⟩
theorem div_none (a : Int) (w : World) :
    Calls Try.prog 31 #[.int .i64 a, .int .i64 0] w fun e w' => e = .returned (.tuple #[.int .i64 0, .int .i64 10]) ∧ w = w' := by
  go_enter Try.func31, Try.ntmps31
  go_wp2
  go_ret2
  exact ⟨rfl, rfl⟩
theorem mod_none (a : Int) (w : World) :
    Calls Try.prog 32 #[.int .i64 a, .int .i64 0] w fun e w' => e = .returned (.tuple #[.int .i64 0, .int .i64 10]) ∧ w = w' := by
  go_enter Try.func32, Try.ntmps32
  go_wp2
  go_ret2
  exact ⟨rfl, rfl⟩
theorem mod_some (a b : Int) (h0 : ¬ b = 0) (w : World) :
    Calls Try.prog 32 #[.int .i64 a, .int .i64 b] w fun e w' => e = .returned (.tuple #[.int .i64 (a.tmod b), .int .i64 0]) ∧ w = w' := by
  have hb : (b == 0) = false := by simpa using h0
  go_enter Try.func32, Try.ntmps32
  go_wp2
  go_ret2
  exact ⟨rfl, rfl⟩
theorem logical_60 (w : World) :
    Calls Try.prog 40 #[.int .i64 (-1), .int .i64 60] w fun e w' => e = .returned (.int .i64 15) ∧ w = w' := by
  have h := logical_any (-1) 60 w
  have e : wrap64 ((U (-1) / 2 ^ far 60 : Nat) : Int) = 15 := by decide +kernel
  rw [e] at h
  exact h
theorem r_lead (w : World) :
    Calls Try.prog 23 #[.string ⟨#[43, 52, 50, 97, 98, 99]⟩] w fun e w' => e = .returned (.tuple #[.int .i64 42, .int .i64 3]) ∧ w = w' := by
  have h := leading_any ⟨#[43, 52, 50, 97, 98, 99]⟩ (by decide) w
  have e : lead (⟨#[43, 52, 50, 97, 98, 99]⟩ : ByteArray).data.toList = (42, 3) := by kernel_rfl
  rw [e] at h
  exact h
theorem r_text (w : World) :
    Calls Try.prog 19 #[.int .i64 (-9223372036854775808)] w fun e w' => e = .returned (.string ⟨#[45, 57, 50, 50, 51, 51, 55, 50, 48, 51, 54, 56, 53, 52, 55, 55, 53, 56, 48, 56]⟩) ∧ Below w.heap.size w w' := by
  have h := text_any (-9223372036854775808) (by omega) (by omega) w
  have e : txt (-9223372036854775808) 10 = [45, 57, 50, 50, 51, 51, 55, 50, 48, 51, 54, 56, 53, 52, 55, 55, 53, 56, 48, 56] := by kernel_rfl
  rw [e] at h
  exact h
theorem r_abs (w : World) : Calls Try.prog 63 #[.int .i64 (-5)] w fun e w' => e = .returned (.int .i64 5) ∧ w = w' := by
  have h := abs_any (-5) w
  have e : (if (-5 : Int) < 0 then wrap64 (-(-5)) else -5) = 5 := by decide +kernel
  rw [e] at h
  exact h
theorem r_cmp (w : World) : Calls Try.prog 26 #[.int .i64 2, .int .i64 1] w fun e w' => e = .returned (.int .i64 1) ∧ w = w' := by
  have h := compare_any 2 1 w
  have e : cmp 2 1 = 1 := by decide
  rw [e] at h
  exact h
theorem r_div (w : World) : Calls Try.prog 31 #[.int .i64 (-7), .int .i64 2] w fun e w' => e = .returned (.tuple #[.int .i64 (-3), .int .i64 0]) ∧ w = w' := by
  have h := div_some (-7) 2 (by omega) w
  have e : wrap64 ((-7 : Int).tdiv 2) = -3 := by decide +kernel
  rw [e] at h
  exact h
theorem r_mod (w : World) : Calls Try.prog 32 #[.int .i64 (-7), .int .i64 2] w fun e w' => e = .returned (.tuple #[.int .i64 (-1), .int .i64 0]) ∧ w = w' := by
  have h := mod_some (-7) 2 (by omega) w
  have e : (-7 : Int).tmod 2 = -1 := by decide +kernel
  rw [e] at h
  exact h

end Go.Proofs.Ythmeehmobcaadaa.Nu
