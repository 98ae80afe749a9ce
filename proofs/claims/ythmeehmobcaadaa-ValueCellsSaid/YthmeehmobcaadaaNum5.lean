/- Contracts of num.Size, Abs, Compare, Hash. -/
import Derived.Test.YthmeehmobcaadaaNum4
import Derived.Test.YthmeehmobcaadaaShelf
import Derived.Lib.ItoaNum
import Derived.Test.YthmeehmobcaadaaHash
namespace Go.Proofs.Ythmeehmobcaadaa.Nu
open Go.RowKit Go.ChangeShapes Go.WideShapes Go.ChangeAt

theorem abs_any (a : Int) (w : World) :
    Calls Try.prog 63 #[.int .i64 a] w fun e w' => e = .returned (.int .i64 (if a < 0 then wrap64 (-a) else a)) ∧ w = w' := by
  by_cases h : a < 0
  · rw [if_pos h]
    go_enter Try.func63, Try.ntmps63
    go_wp2
    go_ret
    exact ⟨rfl, rfl⟩
  · rw [if_neg h]
    go_enter Try.func63, Try.ntmps63
    go_wp2
    go_ret
    exact ⟨rfl, rfl⟩
def cmp (a b : Int) : Int := if a < b then -1 else if b < a then 1 else 0
theorem compare_any (a b : Int) (w : World) :
    Calls Try.prog 26 #[.int .i64 a, .int .i64 b] w fun e w' => e = .returned (.int .i64 (cmp a b)) ∧ w = w' := by
  unfold cmp
  by_cases h : a < b
  · rw [if_pos h]
    go_enter Try.func26, Try.ntmps26
    go_wp2
    go_ret
    exact ⟨rfl, rfl⟩
  · rw [if_neg h]
    by_cases h2 : b < a
    · rw [if_pos h2]
      go_enter Try.func26, Try.ntmps26
      go_wp2
      go_ret
      exact ⟨rfl, rfl⟩
    · rw [if_neg h2]
      go_enter Try.func26, Try.ntmps26
      go_wp2
      go_ret
      exact ⟨rfl, rfl⟩
theorem hash_any (a : Int) (w : World) :
    Calls Try.prog 47 #[.int .i64 a] w fun e w' => e = .returned (.int .u64 ((hashN (U a) : Nat) : Int)) ∧ w = w' := by
  go_enter Try.func47, Try.ntmps47
  go_wp2
  go_ret
  refine ⟨ret_u64 ?_, rfl⟩
  rw [show IntKind.u64.wrap a = ((U a : Nat) : Int) from by rw [U_cast, IntKind.wrap_u64], mix1 _ (U_lt a), mix2 _ (mixN_lt _ _ _), mix3 _ (mixN_lt _ _ _)]
  rfl
end Go.Proofs.Ythmeehmobcaadaa.Nu
