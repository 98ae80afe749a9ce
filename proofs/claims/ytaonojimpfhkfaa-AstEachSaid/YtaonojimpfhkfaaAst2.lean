/- Contracts of the tables: kinds, operators; tests of kids as function values. -/
import Derived.Test.YtaonojimpfhkfaaAst1
import Derived.Test.YtaonojimpfhkfaaLex1
namespace Go.Proofs.Ytaonojimpfhkfaa.As
open Go.RowKit Go.ChangeShapes Go.WideShapes Go.ChangeAt

theorem expr_any (k : Int) (w : World) : Calls Try.prog 21 #[.int .i64 k] w fun e w' => e = .returned (.bool (isE k)) ∧ w = w' := by
  by_cases h1 : 1 ≤ k
  all_goals
    go_enter Try.func21, Try.ntmps21
    go_wp2
    go_ret
    exact ⟨ret_b (by rw [Bool.eq_iff_iff]; simp [isE]; omega), rfl⟩
theorem stmt_any (k : Int) (w : World) : Calls Try.prog 23 #[.int .i64 k] w fun e w' => e = .returned (.bool (isS k)) ∧ w = w' := by
  by_cases h1 : 26 ≤ k
  all_goals
    go_enter Try.func23, Try.ntmps23
    go_wp2
    go_ret
    exact ⟨ret_b (by rw [Bool.eq_iff_iff]; simp [isS]; omega), rfl⟩
theorem literal_any (k : Int) (w : World) : Calls Try.prog 25 #[.int .i64 k] w fun e w' => e = .returned (.bool (isL k)) ∧ w = w' := by
  by_cases h1 : 1 ≤ k
  all_goals
    go_enter Try.func25, Try.ntmps25
    go_wp2
    go_ret
    exact ⟨ret_b (by rw [Bool.eq_iff_iff]; simp [isL]; omega), rfl⟩
theorem target_any (k : Int) (w : World) : Calls Try.prog 24 #[.int .i64 k] w fun e w' => e = .returned (.bool (isT k)) ∧ w = w' := by
  go_enter Try.func24, Try.ntmps24
  go_wp2
  all_goals go_ret
  all_goals exact ⟨ret_b (by simp_all [isT]), rfl⟩
set_option maxRecDepth 100000 in
set_option maxHeartbeats 4000000 in
theorem unary_any (s : ByteArray) (w : World) : Calls Try.prog 28 #[.string s] w fun e w' => e = .returned (.bool (uns.contains s.toList)) ∧ w = w' := by
  generalize hR : uns.contains s.toList = R
  have HR := Lib.hid hR
  clear hR
  go_enter Try.func28, Try.ntmps28
  go_wp2
  all_goals go_ret
  all_goals first
    | exact ⟨ret_b ((yes_eq (by assumption) (by decide)).symm.trans HR.out), rfl⟩
    | (exfalso; simp_all; done)
    | exact ⟨ret_b (Eq.trans (by simp only [uns, List.contains_cons, List.contains_nil, *] <;> rfl) HR.out), rfl⟩
set_option maxRecDepth 100000 in
set_option maxHeartbeats 4000000 in
theorem assign_any (s : ByteArray) (w : World) : Calls Try.prog 30 #[.string s] w fun e w' => e = .returned (.bool (asg.contains s.toList)) ∧ w = w' := by
  generalize hR : asg.contains s.toList = R
  have HR := Lib.hid hR
  clear hR
  go_enter Try.func30, Try.ntmps30
  go_wp2
  all_goals go_ret
  all_goals first
    | exact ⟨ret_b ((yes_eq (by assumption) (by decide)).symm.trans HR.out), rfl⟩
    | (exfalso; simp_all; done)
    | exact ⟨ret_b (Eq.trans (by simp only [asg, List.contains_cons, List.contains_nil, *] <;> rfl) HR.out), rfl⟩
theorem step_any (s : ByteArray) (w : World) : Calls Try.prog 31 #[.string s] w fun e w' => e = .returned (.bool (stp.contains s.toList)) ∧ w = w' := by
  generalize hR : stp.contains s.toList = R
  have HR := Lib.hid hR
  clear hR
  go_enter Try.func31, Try.ntmps31
  go_wp2
  all_goals go_ret
  all_goals first
    | exact ⟨ret_b ((yes_eq (by assumption) (by decide)).symm.trans HR.out), rfl⟩
    | (exfalso; simp_all; done)
    | exact ⟨ret_b (Eq.trans (by simp only [stp, List.contains_cons, List.contains_nil, *] <;> simp) HR.out), rfl⟩
theorem lev_of {l x : List UInt8} (h : (l == x) = true) : lev l = lev x := by rw [beq_iff_eq] at h; rw [h]
theorem lev_no {l : List UInt8} (h : ∀ x ∈ levs, x.contains l = false) : lev l = -1 := by
  unfold lev
  generalize (0 : Int) = k
  revert h k
  generalize levs = S
  induction S with
  | nil => intro _ k; rfl
  | cons x r ih => intro h k; rw [levN, if_neg (by rw [h x (by simp)]; decide)]; exact ih (fun y hy => h y (by simp [hy])) (k + 1)
set_option maxRecDepth 100000 in
set_option maxHeartbeats 4000000 in
theorem level_any (s : ByteArray) (w : World) : Calls Try.prog 26 #[.string s] w fun e w' => e = .returned (.int .i64 (lev s.toList)) ∧ w = w' := by
  generalize hR : lev s.toList = R
  have HR := Lib.hid hR
  clear hR
  go_enter Try.func26, Try.ntmps26
  go_wp2
  all_goals go_ret
  all_goals first
    | exact ⟨ret_i64 (((lev_of (by assumption)).trans (by decide)).symm.trans HR.out), rfl⟩
    | (exfalso; simp_all; done)
    | exact ⟨ret_i64 ((lev_no (by intro x hx; simp only [levs, List.mem_cons, List.not_mem_nil, or_false] at hx; rcases hx with rfl | rfl | rfl | rfl | rfl | rfl | rfl | rfl | rfl | rfl <;> simp only [List.contains_cons, List.contains_nil, *, Bool.or_false])).symm.trans HR.out), rfl⟩
end Go.Proofs.Ytaonojimpfhkfaa.As
