/- Contracts of num.Left, Right, Logical: a shift goes by the last six bits of how far. -/
import Derived.Test.YthmeehmobcaadaaNum5
namespace Go.Proofs.Ythmeehmobcaadaa.Nu
open Go.RowKit Go.ChangeShapes Go.WideShapes Go.ChangeAt

/-- How far: the last six bits. -/
def far (n : Int) : Nat := (n % 64).toNat
theorem far_lt (n : Int) : far n < 64 := by unfold far; omega
theorem and_far (n : Int) : bits .and .i64 n 63 = ((far n : Nat) : Int) := by
  show IntKind.i64.wrap (((BitVec.ofInt 64 n) &&& (BitVec.ofInt 64 63)).toNat : Int) = _
  have e : (BitVec.ofInt 64 63).toNat = 2 ^ 6 - 1 := by decide
  rw [BitVec.toNat_and, e, Nat.and_two_pow_sub_one_eq_mod, BitVec.toNat_ofInt, IntKind.wrap_i64]
  have e2 : (2 : Nat) ^ 64 = 18446744073709551616 := by decide
  have e3 : (2 : Nat) ^ 6 = 64 := by decide
  rw [e2, e3]
  unfold far
  omega
theorem min_far (n : Int) : min (far n) 64 = far n := by have := far_lt n; omega

theorem left_any (a n : Int) (w : World) :
    Calls Try.prog 38 #[.int .i64 a, .int .i64 n] w fun e w' => e = .returned (.int .i64 (wrap64 (a * 2 ^ far n))) ∧ w = w' := by
  have h := and_far n
  have h0 : 0 ≤ ((far n : Nat) : Int) := by omega
  go_enter Try.func38, Try.ntmps38
  go_wp2
  go_ret
  exact ⟨ret_i64 (by rw [min_far]), rfl⟩
theorem right_any (a n : Int) (w : World) :
    Calls Try.prog 39 #[.int .i64 a, .int .i64 n] w fun e w' => e = .returned (.int .i64 (a / 2 ^ far n)) ∧ w = w' := by
  have h := and_far n
  have h0 : 0 ≤ ((far n : Nat) : Int) := by omega
  go_enter Try.func39, Try.ntmps39
  go_wp2
  go_ret
  exact ⟨ret_i64 (by rw [min_far]), rfl⟩
theorem logical_any (a n : Int) (w : World) :
    Calls Try.prog 40 #[.int .i64 a, .int .i64 n] w fun e w' => e = .returned (.int .i64 (wrap64 (((U a / 2 ^ far n : Nat)) : Int))) ∧ w = w' := by
  have h := and_far n
  have h0 : 0 ≤ ((far n : Nat) : Int) := by omega
  go_enter Try.func40, Try.ntmps40
  go_wp2
  go_ret
  exact ⟨ret_i64 (by rw [min_far, Int.natCast_ediv, U_cast, ← IntKind.wrap_u64]; simp), rfl⟩

/-! the bits, shifted -/
def shl (u m i : Nat) : Nat := if m ≤ i then bit u (i - m) else 0
def shr (u m fill i : Nat) : Nat := if i + m < 64 then bit u (i + m) else fill
theorem shl_le (u m i : Nat) : shl u m i ≤ 1 := by unfold shl; split; exact bit_le _ _; omega
theorem shr_le (u m fill i : Nat) (h : fill ≤ 1) : shr u m fill i ≤ 1 := by unfold shr; split; exact bit_le _ _; exact h
theorem shl_lo0 (u m : Nat) : ∀ n, n ≤ m → lo (shl u m) n = 0
  | 0, _ => rfl
  | n + 1, h => by rw [lo, shl_lo0 u m n (by omega), shl, if_neg (by omega)]; simp
theorem shl_lo (u m : Nat) : ∀ n, lo (shl u m) (m + n) = 2 ^ m * lo (bit u) n
  | 0 => by rw [Nat.add_zero, shl_lo0 u m m (by omega)]; simp [lo]
  | n + 1 => by
    rw [← Nat.add_assoc, lo, shl_lo u m n, lo, shl, if_pos (by omega), show m + n - m = n from by omega, Nat.mul_add, Nat.pow_add, Nat.mul_assoc]
theorem shl_64 (u m : Nat) (hm : m < 64) : lo (shl u m) 64 = u * 2 ^ m % 18446744073709551616 := by
  have h := shl_lo u m (64 - m)
  rw [show m + (64 - m) = 64 from by omega] at h
  rw [h, lo_bit, ← Nat.mul_mod_mul_left, ← Nat.pow_add, show m + (64 - m) = 64 from by omega, Nat.mul_comm]
theorem bit_shift (u m i : Nat) : bit (u / 2 ^ m) i = bit u (i + m) := by
  unfold bit; rw [Nat.div_div_eq_div_mul, ← Nat.pow_add, Nat.add_comm]
theorem shr_lo (u m fill : Nat) (_ : m ≤ 64) : ∀ n, n + m ≤ 64 → lo (shr u m fill) n = lo (bit (u / 2 ^ m)) n
  | 0, _ => rfl
  | n + 1, h => by rw [lo, shr_lo u m fill (by omega) n (by omega), lo, shr, if_pos (by omega), bit_shift]
theorem shr_hi (u m fill : Nat) (hm : m ≤ 64) : ∀ n, n ≤ m → lo (shr u m fill) (64 - m + n) + 2 ^ (64 - m) * fill = lo (shr u m fill) (64 - m) + 2 ^ (64 - m + n) * fill
  | 0, _ => rfl
  | n + 1, h => by
    have ih := shr_hi u m fill hm n (by omega)
    rw [← Nat.add_assoc, lo, shr, if_neg (by omega), Nat.pow_succ, Nat.mul_assoc, Nat.mul_left_comm]
    omega
theorem shr_64 (u m fill : Nat) (hu : u < 18446744073709551616) (hm : m < 64) : lo (shr u m fill) 64 + 2 ^ (64 - m) * fill = u / 2 ^ m + 18446744073709551616 * fill := by
  have h := shr_hi u m fill (by omega) m (by omega)
  rw [show 64 - m + m = 64 from by omega] at h
  rw [h, shr_lo u m fill (by omega) _ (by omega), lo_bit, Nat.mod_eq_of_lt]
  refine Nat.div_lt_of_lt_mul ?_
  rw [← Nat.pow_add, show m + (64 - m) = 64 from by omega]
  exact hu
theorem left_wrap (a : Int) (m : Nat) (hm : m < 64) : wrap64 ((lo (shl (U a) m) 64 : Nat) : Int) = wrap64 (a * 2 ^ m) := by
  rw [shl_64 _ _ hm]
  refine wrap_of_mod ?_
  rw [Int.natCast_emod, Int.natCast_mul, U_cast, Int.natCast_pow]
  show (_ % 18446744073709551616) % 18446744073709551616 = _
  rw [Int.emod_emod, Int.mul_emod, Int.emod_emod, ← Int.mul_emod]
  rfl
theorem logic_wrap (a : Int) (m : Nat) (hm : m < 64) : wrap64 ((lo (shr (U a) m 0) 64 : Nat) : Int) = wrap64 (((U a / 2 ^ m : Nat)) : Int) := by
  have h := shr_64 (U a) m 0 (U_lt a) hm
  rw [Nat.mul_zero, Nat.mul_zero, Nat.add_zero, Nat.add_zero] at h
  rw [h]
theorem right_wrap (a : Int) (h1 : -9223372036854775808 ≤ a) (h2 : a ≤ 9223372036854775807) (m : Nat) (hm : m < 64) : wrap64 ((lo (shr (U a) m (bit (U a) 63)) 64 : Nat) : Int) = a / 2 ^ m := by
  have h := shr_64 (U a) m (bit (U a) 63) (U_lt a) hm
  have hu := U_cast a
  have hp : (2 : Int) ^ m * 2 ^ (64 - m) = 18446744073709551616 := by
    rw [← Int.pow_add, show m + (64 - m) = 64 from by omega]; rfl
  have hpos : (0 : Int) < 2 ^ m := Int.pow_pos (by omega)
  by_cases ha : a < 0
  · have hb : bit (U a) 63 = 1 := by
      unfold bit
      have e : (2 : Nat) ^ 63 = 9223372036854775808 := by decide
      rw [e]; omega
    rw [hb]
    rw [hb, Nat.mul_one, Nat.mul_one] at h
    have hU : ((U a : Nat) : Int) = a + 2 ^ (64 - m) * 2 ^ m := by rw [Int.mul_comm, hp]; omega
    have hd : ((U a / 2 ^ m : Nat) : Int) = a / 2 ^ m + 2 ^ (64 - m) := by
      rw [Int.natCast_ediv, Int.natCast_pow, hU]
      exact Int.add_mul_ediv_right _ _ (by exact Int.ne_of_gt hpos)
    have hc : ((2 ^ (64 - m) : Nat) : Int) = 2 ^ (64 - m) := by rw [Int.natCast_pow]; rfl
    have hq : a / 2 ^ m < 0 := Int.ediv_neg_of_neg_of_pos ha hpos
    have hq2 : a ≤ a / 2 ^ m := by
      have := Int.le_ediv_of_mul_le hpos (a := a) (b := a) (by
        have : (1 : Int) ≤ 2 ^ m := hpos
        have h5 : a * 2 ^ m ≤ a * 1 := Int.mul_le_mul_of_nonpos_left (by omega) this
        omega)
      exact this
    rw [← hc] at hd
    have h' := congrArg (fun n : Nat => (n : Int)) h
    simp only [Int.natCast_add] at h'
    rw [hd] at h'
    rw [wrap_of_mod (b := a / 2 ^ m) (by omega)]
    unfold wrap64; omega
  · have hb : bit (U a) 63 = 0 := by
      unfold bit
      have e : (2 : Nat) ^ 63 = 9223372036854775808 := by decide
      rw [e]; omega
    rw [hb]
    rw [hb, Nat.mul_zero, Nat.mul_zero, Nat.add_zero, Nat.add_zero] at h
    have hU : ((U a : Nat) : Int) = a := by omega
    have hd : ((U a / 2 ^ m : Nat) : Int) = a / 2 ^ m := by
      rw [Int.natCast_ediv, Int.natCast_pow, hU]; rfl
    have hq : 0 ≤ a / 2 ^ m := Int.ediv_nonneg (by omega) (by omega)
    have hq2 : a / 2 ^ m ≤ a := Int.ediv_le_self _ (by omega)
    rw [h, hd]
    unfold wrap64; omega
end Go.Proofs.Ythmeehmobcaadaa.Nu
