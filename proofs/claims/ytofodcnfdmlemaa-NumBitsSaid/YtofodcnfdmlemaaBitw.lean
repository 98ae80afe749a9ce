/- Contracts of num.And, Or, Xor: bit by bit. -/
import Derived.Test.YtofodcnfdmlemaaRshift
namespace Go.Proofs.Ytofodcnfdmlemaa
open Go.RowKit Go.ChangeShapes Go.WideShapes Go.ChangeAt

theorem bit_tb (u j : Nat) : bit u j = (u.testBit j).toNat := by
  unfold bit
  rw [Nat.testBit_eq_decide_div_mod_eq]
  rcases Nat.mod_two_eq_zero_or_one (u / 2 ^ j) with h | h <;> simp [h]
theorem U_ofInt (a : Int) : (BitVec.ofInt 64 a).toNat = U a := by
  have h := U_cast a
  rw [BitVec.toNat_ofInt]
  omega
theorem U_wrap_nat (n : Nat) (h : n < 18446744073709551616) : U (IntKind.i64.wrap (n : Int)) = n := by
  have h1 := U_cast (IntKind.i64.wrap (n : Int))
  rw [IntKind.wrap_i64] at h1 ⊢
  have h2 := U_cast (wrap64 (n : Int))
  rw [wrap64_mod] at h2
  omega
theorem U_and (a b : Int) : U (bits .and .i64 a b) = U a &&& U b := by
  show U (IntKind.i64.wrap (((BitVec.ofInt 64 a) &&& (BitVec.ofInt 64 b)).toNat : Int)) = _
  rw [U_wrap_nat _ (BitVec.isLt _), BitVec.toNat_and, U_ofInt, U_ofInt]
theorem U_or (a b : Int) : U (bits .or .i64 a b) = U a ||| U b := by
  show U (IntKind.i64.wrap (((BitVec.ofInt 64 a) ||| (BitVec.ofInt 64 b)).toNat : Int)) = _
  rw [U_wrap_nat _ (BitVec.isLt _), BitVec.toNat_or, U_ofInt, U_ofInt]
theorem U_xor (a b : Int) : U (bits .xor .i64 a b) = U a ^^^ U b := by
  show U (IntKind.i64.wrap (((BitVec.ofInt 64 a) ^^^ (BitVec.ofInt 64 b)).toNat : Int)) = _
  rw [U_wrap_nat _ (BitVec.isLt _), BitVec.toNat_xor, U_ofInt, U_ofInt]
theorem and_bit (a b : Int) (j : Nat) : bit (U (bits .and .i64 a b)) j = bit (U a) j * bit (U b) j := by
  rw [U_and, bit_tb, bit_tb, bit_tb, Nat.testBit_and]
  cases (U a).testBit j <;> cases (U b).testBit j <;> rfl
theorem or_bit (a b : Int) (j : Nat) : bit (U (bits .or .i64 a b)) j = max (bit (U a) j) (bit (U b) j) := by
  rw [U_or, bit_tb, bit_tb, bit_tb, Nat.testBit_or]
  cases (U a).testBit j <;> cases (U b).testBit j <;> rfl
theorem xor_bit (a b : Int) (j : Nat) : bit (U (bits .xor .i64 a b)) j = (bit (U a) j + bit (U b) j) % 2 := by
  rw [U_xor, bit_tb, bit_tb, bit_tb, Nat.testBit_xor]
  cases (U a).testBit j <;> cases (U b).testBit j <;> rfl
theorem and_any (a b : Int) (w : World) : Calls Try.prog 23 #[.int .i64 a, .int .i64 b] w fun e w' => e = .returned (.int .i64 (bits .and .i64 a b)) ∧ w = w' := by
  go_enter Try.func23, Try.ntmps23
  go_wp2
  go_ret
  exact ⟨rfl, rfl⟩
theorem or_any (a b : Int) (w : World) : Calls Try.prog 24 #[.int .i64 a, .int .i64 b] w fun e w' => e = .returned (.int .i64 (bits .or .i64 a b)) ∧ w = w' := by
  go_enter Try.func24, Try.ntmps24
  go_wp2
  go_ret
  exact ⟨rfl, rfl⟩
theorem xor_any (a b : Int) (w : World) : Calls Try.prog 25 #[.int .i64 a, .int .i64 b] w fun e w' => e = .returned (.int .i64 (bits .xor .i64 a b)) ∧ w = w' := by
  go_enter Try.func25, Try.ntmps25
  go_wp2
  go_ret
  exact ⟨rfl, rfl⟩
/-- How far a shift goes, of the bits. -/
theorem far_bits (b : Int) : bit (U b) 0 + 2 * bit (U b) 1 + 4 * bit (U b) 2 + 8 * bit (U b) 3 + 16 * bit (U b) 4 + 32 * bit (U b) 5 = far b := by
  have h := U_cast b
  unfold bit far
  omega
end Go.Proofs.Ytofodcnfdmlemaa
