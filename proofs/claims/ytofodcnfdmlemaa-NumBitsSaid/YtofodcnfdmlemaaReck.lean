/- dreylaw01.reckons holds: all that it calls at its own numbers. -/
import Derived.Test.YtofodcnfdmlemaaShift
namespace Go.Proofs.Ytofodcnfdmlemaa
open Go.RowKit Go.ChangeShapes Go.WideShapes Go.ChangeAt

theorem div_some (a b : Int) (h0 : ¬ b = 0) (w : World) :
    Calls Try.prog 20 #[.int .i64 a, .int .i64 b] w fun e w' => e = .returned (.tuple #[.int .i64 (wrap64 (a.tdiv b)), .int .i64 0]) ∧ w = w' := by
  have hb : (b == 0) = false := by simpa using h0
  go_enter Try.func20, Try.ntmps20
  go_wp2
  go_ret2
  exact ⟨rfl, rfl⟩
theorem div_none (a : Int) (w : World) :
    Calls Try.prog 20 #[.int .i64 a, .int .i64 0] w fun e w' => e = .returned (.tuple #[.int .i64 0, .int .i64 10]) ∧ w = w' := by
  go_enter Try.func20, Try.ntmps20
  go_wp2
  go_ret2
  exact ⟨rfl, rfl⟩
theorem mod_none (a : Int) (w : World) :
    Calls Try.prog 21 #[.int .i64 a, .int .i64 0] w fun e w' => e = .returned (.tuple #[.int .i64 0, .int .i64 10]) ∧ w = w' := by
  go_enter Try.func21, Try.ntmps21
  go_wp2
  go_ret2
  exact ⟨rfl, rfl⟩
theorem mod_some (a b : Int) (h0 : ¬ b = 0) (w : World) :
    Calls Try.prog 21 #[.int .i64 a, .int .i64 b] w fun e w' => e = .returned (.tuple #[.int .i64 (a.tmod b), .int .i64 0]) ∧ w = w' := by
  have hb : (b == 0) = false := by simpa using h0
  go_enter Try.func21, Try.ntmps21
  go_wp2
  go_ret2
  exact ⟨rfl, rfl⟩
theorem logical_60 (w : World) :
    Calls Try.prog 29 #[.int .i64 (-1), .int .i64 60] w fun e w' => e = .returned (.int .i64 15) ∧ w = w' := by
  have h := logical_any (-1) 60 w
  have e : wrap64 ((U (-1) / 2 ^ far 60 : Nat) : Int) = 15 := by decide +kernel
  rw [e] at h
  exact h
theorem r_in (w : World) :
    Calls Try.prog 30 #[.int .i64 (-255), .int .i64 16] w fun e w' => e = .returned (.tuple #[.string ⟨#[45, 102, 102]⟩, .int .i64 0]) ∧ Below w.heap.size w w' := by
  have h := in_yes (-255) (by omega) (by omega) 16 (by omega) (by omega) w
  have e : txt (-255) 16 = [45, 102, 102] := by kernel_rfl
  rw [e] at h
  exact h
theorem r_parse (w : World) :
    Calls Try.prog 31 #[.string ⟨#[45, 70, 70]⟩, .int .i64 16] w fun e w' => e = .returned (.tuple #[.int .i64 (-255), .int .i64 0]) ∧ w = w' := by
  have h := parse_below ⟨#[45, 70, 70]⟩ (by decide) (by decide) (by decide) 16 (by omega) (by omega) w
  have e : pv true (rdv 16 ((⟨#[45, 70, 70]⟩ : ByteArray).data.toList.drop 1)) = (-255, 0) := by kernel_rfl
  rw [e] at h
  exact h
theorem r_lead (w : World) :
    Calls Try.prog 33 #[.string ⟨#[43, 52, 50, 97, 98, 99]⟩] w fun e w' => e = .returned (.tuple #[.int .i64 42, .int .i64 3]) ∧ w = w' := by
  have h := leading_any ⟨#[43, 52, 50, 97, 98, 99]⟩ (by decide) w
  have e : lead (⟨#[43, 52, 50, 97, 98, 99]⟩ : ByteArray).data.toList = (42, 3) := by kernel_rfl
  rw [e] at h
  exact h
theorem r_text (w : World) :
    Calls Try.prog 32 #[.int .i64 (-9223372036854775808)] w fun e w' => e = .returned (.string ⟨#[45, 57, 50, 50, 51, 51, 55, 50, 48, 51, 54, 56, 53, 52, 55, 55, 53, 56, 48, 56]⟩) ∧ Below w.heap.size w w' := by
  have h := text_any (-9223372036854775808) (by omega) (by omega) w
  have e : txt (-9223372036854775808) 10 = [45, 57, 50, 50, 51, 51, 55, 50, 48, 51, 54, 56, 53, 52, 55, 55, 53, 56, 48, 56] := by kernel_rfl
  rw [e] at h
  exact h
theorem r_size (w : World) :
    Calls Try.prog 37 #[.int .i64 (-8)] w fun e w' => e = .returned (.int .i64 4) ∧ w = w' := by
  have h := size_any (-8) (by omega) (by omega) w
  have e : Lib.bitLen (-8 : Int).natAbs = 4 := by kernel_rfl
  rw [e] at h
  exact h
theorem r_abs (w : World) : Calls Try.prog 36 #[.int .i64 (-5)] w fun e w' => e = .returned (.int .i64 5) ∧ w = w' := by
  have h := abs_any (-5) w
  have e : (if (-5 : Int) < 0 then wrap64 (-(-5)) else -5) = 5 := by decide +kernel
  rw [e] at h
  exact h
theorem r_cmp (w : World) : Calls Try.prog 34 #[.int .i64 2, .int .i64 1] w fun e w' => e = .returned (.int .i64 1) ∧ w = w' := by
  have h := compare_any 2 1 w
  have e : cmp 2 1 = 1 := by decide
  rw [e] at h
  exact h
theorem r_div (w : World) : Calls Try.prog 20 #[.int .i64 (-7), .int .i64 2] w fun e w' => e = .returned (.tuple #[.int .i64 (-3), .int .i64 0]) ∧ w = w' := by
  have h := div_some (-7) 2 (by omega) w
  have e : wrap64 ((-7 : Int).tdiv 2) = -3 := by decide +kernel
  rw [e] at h
  exact h
theorem r_mod (w : World) : Calls Try.prog 21 #[.int .i64 (-7), .int .i64 2] w fun e w' => e = .returned (.tuple #[.int .i64 (-1), .int .i64 0]) ∧ w = w' := by
  have h := mod_some (-7) 2 (by omega) w
  have e : (-7 : Int).tmod 2 = -1 := by decide +kernel
  rw [e] at h
  exact h

set_option maxRecDepth 100000 in
set_option maxHeartbeats 1000000 in
theorem reckons_any (w : World) :
    Calls Try.prog 10 #[] w fun e w' => e = .returned (.bool true) ∧ Below w.heap.size w w' := by
  go_enter Try.func10, Try.ntmps10
  go_wp2_with fail
  refine (r_div _).mono ?_
  rintro e w1 ⟨rfl, rfl⟩
  go_wp2_with fail
  refine (r_mod _).mono ?_
  rintro e w1 ⟨rfl, rfl⟩
  go_wp2_with fail
  refine (div_none _ _).mono ?_
  rintro e w1 ⟨rfl, rfl⟩
  go_wp2_with fail
  refine (r_in _).mono ?_
  rintro e w1 ⟨rfl, hb1⟩
  go_wp2_with fail
  refine (r_parse _).mono ?_
  rintro e w2 ⟨rfl, rfl⟩
  go_wp2_with fail
  refine (r_lead _).mono ?_
  rintro e w2 ⟨rfl, rfl⟩
  go_wp2_with fail
  refine (r_text _).mono ?_
  rintro e w2 ⟨rfl, hb2⟩
  go_wp2_with fail
  refine (logical_60 _).mono ?_
  rintro e w3 ⟨rfl, rfl⟩
  go_wp2_with fail
  refine (r_cmp _).mono ?_
  rintro e w3 ⟨rfl, rfl⟩
  go_wp2_with fail
  refine (r_size _).mono ?_
  rintro e w3 ⟨rfl, rfl⟩
  go_wp2_with fail
  refine (r_abs _).mono ?_
  rintro e w3 ⟨rfl, rfl⟩
  go_wp2_with fail
  go_ret
  exact ⟨rfl, hb1.trans (hb2.mono hb1.size)⟩
end Go.Proofs.Ytofodcnfdmlemaa
