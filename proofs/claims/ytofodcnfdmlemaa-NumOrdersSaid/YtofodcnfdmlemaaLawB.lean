/- The walks of dreylaw01.NumQuotients and NumOrders. -/
import Derived.Test.YtofodcnfdmlemaaLawA
namespace Go.Proofs.Ytofodcnfdmlemaa
open Go.RowKit Go.ChangeShapes Go.WideShapes Go.ChangeAt

theorem ret_bool {b : Bool} (h : b = true) : Ending.returned (.bool b) = .returned (.bool true) := by rw [h]
theorem quo_rem (a b : Int) (h1 : -9223372036854775808 ≤ a) (h2 : a ≤ 9223372036854775807) : wrap64 (wrap64 (wrap64 (a.tdiv b) * b) + a.tmod b) = a := by
  have e : b * a.tdiv b + a.tmod b = a := Int.mul_tdiv_add_tmod a b
  have m : wrap64 (wrap64 (a.tdiv b) * b) = wrap64 (a.tdiv b * b) := by
    rw [Int.mul_comm, Int.mul_comm (a.tdiv b)]
    exact wrap_mul_mod _ _ _ (wrap64_mod _)
  rw [m, wrap_add_left, Int.mul_comm, e]
  unfold wrap64; omega
theorem rem_sign (a b : Int) : ¬ (a.tmod b < 0 ∧ 0 < a) ∧ ¬ (0 < a.tmod b ∧ a < 0) := by
  constructor
  · intro ⟨h, ha⟩
    have := Int.tmod_nonneg b (a := a) (by omega)
    omega
  · intro ⟨h, ha⟩
    have e : (-a).tmod b = -(a.tmod b) := Int.neg_tmod a b
    have := Int.tmod_nonneg b (a := -a) (by omega)
    omega
theorem rem_less (a b : Int) (hb : b ≠ 0) : (a.tmod b).natAbs < b.natAbs := by
  rw [Int.natAbs_tmod]
  exact Nat.mod_lt _ (by omega)

set_option maxHeartbeats 1000000 in
theorem numQuotients_walk (a b : Int) (ha : (Lit.int .i64 a).wf = true) (hb : (Lit.int .i64 b).wf = true) (w : World) :
    Calls Try.prog 4 #[.int .i64 a, .int .i64 b] w fun e w' => e = .returned (.bool true) ∧ Below w.heap.size w w' := by
  obtain ⟨ha1, ha2⟩ := i64_range ha
  obtain ⟨hb1, hb2⟩ := i64_range hb
  clear ha hb
  by_cases h0 : b = 0
  · subst h0
    go_enter Try.func4, Try.ntmps4
    go_wp2_with fail
    refine (reckons_any _).mono ?_
    rintro e w1 ⟨rfl, hbe⟩
    go_wp2_with fail
    refine (div_none _ _).mono ?_
    rintro e w2 ⟨rfl, rfl⟩
    go_wp2_with fail
    refine (mod_none _ _).mono ?_
    rintro e w2 ⟨rfl, rfl⟩
    go_wp2_with fail
    go_ret
    exact ⟨rfl, hbe⟩
  · have HQ := Lib.hid (quo_rem a b ha1 ha2)
    obtain ⟨hs1, hs2⟩ := rem_sign a b
    have hl := rem_less a b h0
    have hb0 : (b == 0) = false := by simpa using h0
    have hdiv := fun w => div_some a b h0 w
    have hmod := fun w => mod_some a b h0 w
    generalize a.tmod b = r at *
    generalize wrap64 (a.tdiv b) = q at *
    have HD := Lib.hid hdiv
    have HM := Lib.hid hmod
    clear hdiv hmod
    go_enter Try.func4, Try.ntmps4
    go_wp2_with fail
    refine (reckons_any _).mono ?_
    rintro e w1 ⟨rfl, hbe⟩
    go_wp2_with fail
    refine (HD.out _).mono ?_
    rintro e w2 ⟨rfl, rfl⟩
    go_wp2_with fail
    refine (HM.out _).mono ?_
    rintro e w2 ⟨rfl, rfl⟩
    go_wp2_with fail
    refine (mul_any _ _ _).mono ?_
    rintro e w2 ⟨rfl, rfl⟩
    go_wp2_with fail
    refine (add_any _ _ _).mono ?_
    rintro e w2 ⟨rfl, rfl⟩
    rw [HQ.out]
    go_wp2_with fail
    all_goals (go_ret; exact ⟨ret_bool (by simp; omega), hbe⟩)
end Go.Proofs.Ytofodcnfdmlemaa
