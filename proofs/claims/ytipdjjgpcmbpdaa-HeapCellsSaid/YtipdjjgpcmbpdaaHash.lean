/- Plain lemmas: the mixing of a number of 64 bits can be undone, step by step. -/
import Derived.Test.YtipdjjgpcmbpdaaPlain
import Derived.Laws.Bits64
namespace Go.Proofs.Ytipdjjgpcmbpdaa.Nu
open Go.RowKit

theorem xs_back (x k : Nat) (h : x < 2 ^ (3 * k)) : (x ^^^ x >>> k) ^^^ (x ^^^ x >>> k) >>> k ^^^ (x ^^^ x >>> k) >>> (2 * k) = x := by
  have h0 : x >>> (k + 2 * k) = 0 := by
    rw [Nat.shiftRight_eq_div_pow, Nat.div_eq_of_lt]
    rwa [show k + 2 * k = 3 * k from by omega]
  rw [Nat.shiftRight_xor_distrib, Nat.shiftRight_xor_distrib, ← Nat.shiftRight_add, ← Nat.shiftRight_add, h0, Nat.xor_zero, show k + k = 2 * k from by omega]
  generalize x >>> k = p
  generalize x >>> (2 * k) = q
  rw [Nat.xor_assoc, Nat.xor_assoc, Nat.xor_assoc p q, Nat.xor_self, Nat.xor_zero, Nat.xor_self, Nat.xor_zero]
theorem xs_inj (k s : Nat) (hs : s = 2 ^ k) (hk : 64 ≤ 3 * k) {x y : Nat} (hx : x < 18446744073709551616) (hy : y < 18446744073709551616) (h : x ^^^ x / s = y ^^^ y / s) : x = y := by
  subst hs
  rw [← Nat.shiftRight_eq_div_pow, ← Nat.shiftRight_eq_div_pow] at h
  have h2 : (2 : Nat) ^ 64 ≤ 2 ^ (3 * k) := Nat.pow_le_pow_right (by omega) hk
  have h3 : (2 : Nat) ^ 64 = 18446744073709551616 := by decide
  rw [← xs_back x k (by omega), ← xs_back y k (by omega), h]
theorem xs_lt (s x : Nat) (hx : x < 18446744073709551616) : x ^^^ x / s < 18446744073709551616 := by
  have h3 : (2 : Nat) ^ 64 = 18446744073709551616 := by decide
  rw [← h3] at hx ⊢
  exact Nat.xor_lt_two_pow hx (Nat.lt_of_le_of_lt (Nat.div_le_self _ _) hx)
theorem mul_inj (C D : Nat) (h1 : C * D % 18446744073709551616 = 1) {x y : Nat} (hx : x < 18446744073709551616) (hy : y < 18446744073709551616) (h : x * C % 18446744073709551616 = y * C % 18446744073709551616) : x = y := by
  have back : ∀ z, z < 18446744073709551616 → z * C % 18446744073709551616 * D % 18446744073709551616 = z := fun z hz => by
    rw [Nat.mod_mul_mod, Nat.mul_assoc, Nat.mul_mod, h1, Nat.mul_one, Nat.mod_mod, Nat.mod_eq_of_lt hz]
  rw [← back x hx, ← back y hy, h]
/-- One step of the mixing. -/
def mixN (X s C : Nat) : Nat := (X ^^^ X / s) * C % 18446744073709551616
theorem mixN_lt (X s C : Nat) : mixN X s C < 18446744073709551616 := Nat.mod_lt _ (by omega)
def hashN (u : Nat) : Nat :=
  mixN (mixN u 1073741824 13787848793156543929) 134217728 10723151780598845931 ^^^ mixN (mixN u 1073741824 13787848793156543929) 134217728 10723151780598845931 / 2147483648
theorem hash_inj {u v : Nat} (hu : u < 18446744073709551616) (hv : v < 18446744073709551616) (h : hashN u = hashN v) : u = v := by
  unfold hashN at h
  have h1 := xs_inj 31 2147483648 (by decide) (by omega) (mixN_lt _ _ _) (mixN_lt _ _ _) h
  have h2 := mul_inj 10723151780598845931 3573116690164977347 (by decide) (xs_lt _ _ (mixN_lt _ _ _)) (xs_lt _ _ (mixN_lt _ _ _)) h1
  have h3 := xs_inj 27 134217728 (by decide) (by omega) (mixN_lt _ _ _) (mixN_lt _ _ _) h2
  have h4 := mul_inj 13787848793156543929 10871156337175269513 (by decide) (xs_lt _ _ hu) (xs_lt _ _ hv) h3
  exact xs_inj 30 1073741824 (by decide) (by omega) hu hv h4
theorem hash_lt (u : Nat) : hashN u < 18446744073709551616 := xs_lt _ _ (mixN_lt _ _ _)
theorem mix1 (X : Nat) (hX : X < 18446744073709551616) : IntKind.u64.wrap (bits .xor .u64 (X : Int) ((X : Int) / 1073741824) * 13787848793156543929) = ((mixN X 1073741824 13787848793156543929 : Nat) : Int) := mixStep_u64 X 1073741824 13787848793156543929 hX
theorem mix2 (X : Nat) (hX : X < 18446744073709551616) : IntKind.u64.wrap (bits .xor .u64 (X : Int) ((X : Int) / 134217728) * 10723151780598845931) = ((mixN X 134217728 10723151780598845931 : Nat) : Int) := mixStep_u64 X 134217728 10723151780598845931 hX
theorem mix3 (X : Nat) (hX : X < 18446744073709551616) : bits .xor .u64 (X : Int) ((X : Int) / 2147483648) = ((X ^^^ X / 2147483648 : Nat) : Int) := xorShift_u64 X 2147483648 hX
end Go.Proofs.Ytipdjjgpcmbpdaa.Nu
