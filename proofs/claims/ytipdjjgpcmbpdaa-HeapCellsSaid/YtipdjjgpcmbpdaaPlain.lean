/- Plain lemmas on the 64 bits of a number, no Go in sight: what a row of bits counts, sums with a carry, the other bits, products bit by bit, shifts. -/
import Derived.WalkKit
import Derived.ProofKit
namespace Go.Proofs.Ytipdjjgpcmbpdaa.Nu
open Go.RowKit

/-- A number's last 64 bits, as a natural number. -/
def U (a : Int) : Nat := (a % 18446744073709551616).toNat
theorem U_cast (a : Int) : ((U a : Nat) : Int) = a % 18446744073709551616 := by unfold U; omega
theorem U_lt (a : Int) : U a < 18446744073709551616 := by unfold U; omega
theorem wrap_U (a : Int) : wrap64 ((U a : Nat) : Int) = wrap64 a := by rw [U_cast]; unfold wrap64; omega
theorem wrap_of_mod {a b : Int} (h : a % 18446744073709551616 = b % 18446744073709551616) : wrap64 a = wrap64 b := by unfold wrap64; omega
theorem mod_of_wrap {a b : Int} (h : wrap64 a = wrap64 b) : a % 18446744073709551616 = b % 18446744073709551616 := by unfold wrap64 at h; omega
theorem wrap64_mod (a : Int) : wrap64 a % 18446744073709551616 = a % 18446744073709551616 := by unfold wrap64; omega
theorem U_wrap (a : Int) : U (wrap64 a) = U a := by unfold U; rw [wrap64_mod]

/-- Bit j of a number. -/
def bit (u j : Nat) : Nat := u / 2 ^ j % 2
theorem bit_le (u j : Nat) : bit u j ≤ 1 := by unfold bit; omega
theorem bit_lt (u j : Nat) : bit u j < 2 := by unfold bit; omega
theorem bit_step (u i : Nat) : u / 2 ^ i / 2 = u / 2 ^ (i + 1) := by rw [Nat.div_div_eq_div_mul, Nat.pow_succ]

/-- What the first n bits count. -/
def lo (f : Nat → Nat) : Nat → Nat
  | 0 => 0
  | n + 1 => lo f n + 2 ^ n * f n
/-- What the n highest of 64 bits count, the lowest of these as 1. -/
def hi (f : Nat → Nat) : Nat → Nat
  | 0 => 0
  | n + 1 => hi f n * 2 + f (63 - n)

theorem lo_congr {f g : Nat → Nat} : ∀ n, (∀ j, j < n → f j = g j) → lo f n = lo g n
  | 0, _ => rfl
  | n + 1, h => by simp only [lo]; rw [lo_congr n (fun j hj => h j (by omega)), h n (by omega)]
theorem lo_bit (u : Nat) : ∀ n, lo (bit u) n = u % 2 ^ n
  | 0 => by simp [lo, Nat.mod_one]
  | n + 1 => by rw [lo, lo_bit u n, Nat.pow_succ, Nat.mod_mul]; rfl
theorem lo_bit64 (u : Nat) (h : u < 18446744073709551616) : lo (bit u) 64 = u := by
  rw [lo_bit, Nat.mod_eq_of_lt]; exact h
theorem lo_lt {f : Nat → Nat} : ∀ n, (∀ j, j < n → f j ≤ 1) → lo f n < 2 ^ n
  | 0, _ => by simp [lo]
  | n + 1, h => by
    have h1 := lo_lt n (fun j hj => h j (by omega))
    have h2 := h n (by omega)
    have h3 : 2 ^ n * f n ≤ 2 ^ n * 1 := Nat.mul_le_mul_left _ h2
    rw [lo, Nat.pow_succ]; omega
theorem hi_lt {f : Nat → Nat} : ∀ n, n ≤ 64 → (∀ j, j < 64 → f j ≤ 1) → hi f n < 2 ^ n
  | 0, _, _ => by simp [hi]
  | n + 1, hn, h => by
    have h1 := hi_lt n (by omega) h
    have h2 := h (63 - n) (by omega)
    rw [hi, Nat.pow_succ]; omega
theorem lo_hi (f : Nat → Nat) : ∀ n, n ≤ 64 → lo f 64 = lo f (64 - n) + 2 ^ (64 - n) * hi f n
  | 0, _ => by simp [hi]
  | n + 1, hn => by
    have ih := lo_hi f n (by omega)
    have e : 64 - n = (63 - n) + 1 := by omega
    have e' : 64 - (n + 1) = 63 - n := by omega
    rw [ih, e', e, lo, hi, Nat.pow_succ, Nat.mul_add, Nat.mul_assoc, Nat.mul_comm 2 (hi f n)]
    omega
theorem hi_64 (f : Nat → Nat) : hi f 64 = lo f 64 := by have := lo_hi f 64 (by omega); simpa [lo] using this.symm
/-- The bounds that a walk wants: below the middle as long as one bit is to come. -/
theorem hi_small {f : Nat → Nat} {n : Nat} (hn : n < 64) (h : ∀ j, j < 64 → f j ≤ 1) : hi f n < 9223372036854775808 := by
  have h1 := hi_lt n (by omega) h
  have h2 : 2 ^ n ≤ 2 ^ 63 := Nat.pow_le_pow_right (by omega) (by omega)
  have h3 : (2 : Nat) ^ 63 = 9223372036854775808 := by decide
  omega
theorem hi_big {f : Nat → Nat} {n : Nat} (hn : n ≤ 64) (h : ∀ j, j < 64 → f j ≤ 1) : hi f n < 18446744073709551616 := by
  have h1 := hi_lt n hn h
  have h2 : 2 ^ n ≤ 2 ^ 64 := Nat.pow_le_pow_right (by omega) (by omega)
  have h3 : (2 : Nat) ^ 64 = 18446744073709551616 := by decide
  omega

/-- The carry into bit n, and bit n, of a sum. -/
def carry (x y : Nat → Nat) : Nat → Nat
  | 0 => 0
  | n + 1 => (x n + y n + carry x y n) / 2
def sum (x y : Nat → Nat) (n : Nat) : Nat := (x n + y n + carry x y n) % 2
theorem sum_le (x y : Nat → Nat) (n : Nat) : sum x y n ≤ 1 := by unfold sum; omega
theorem carry_le {x y : Nat → Nat} (hx : ∀ j, x j ≤ 1) (hy : ∀ j, y j ≤ 1) : ∀ n, carry x y n ≤ 1
  | 0 => by simp [carry]
  | n + 1 => by have := carry_le hx hy n; have := hx n; have := hy n; simp only [carry]; omega
theorem sum_lo (x y : Nat → Nat) : ∀ n, lo (sum x y) n + 2 ^ n * carry x y n = lo x n + lo y n
  | 0 => by simp [lo, carry]
  | n + 1 => by
    have ih := sum_lo x y n
    have e : sum x y n + 2 * carry x y (n + 1) = x n + y n + carry x y n := by simp only [sum, carry]; omega
    have e2 : 2 ^ n * (sum x y n + 2 * carry x y (n + 1)) = 2 ^ n * (x n + y n + carry x y n) := by rw [e]
    simp only [Nat.mul_add] at e2
    simp only [lo]
    rw [Nat.pow_succ, Nat.mul_assoc]
    omega
theorem sum_64 (u v : Nat) (hu : u < 18446744073709551616) (hv : v < 18446744073709551616) : lo (sum (bit u) (bit v)) 64 = (u + v) % 18446744073709551616 := by
  have h := sum_lo (bit u) (bit v) 64
  rw [lo_bit64 u hu, lo_bit64 v hv] at h
  have h2 := lo_lt (f := sum (bit u) (bit v)) 64 (fun j _ => sum_le _ _ _)
  have h3 : (2 : Nat) ^ 64 = 18446744073709551616 := by decide
  rw [h3] at h h2
  rw [← h, Nat.add_mul_mod_self_left, Nat.mod_eq_of_lt h2]
theorem not_lo (x : Nat → Nat) (hx : ∀ j, x j ≤ 1) : ∀ n, lo (fun j => 1 - x j) n + lo x n + 1 = 2 ^ n
  | 0 => by simp [lo]
  | n + 1 => by
    have ih := not_lo x hx n
    have e : 2 ^ n * (1 - x n) + 2 ^ n * x n = 2 ^ n := by
      rw [← Nat.mul_add, show 1 - x n + x n = 1 from by have := hx n; omega, Nat.mul_one]
    simp only [lo]
    rw [Nat.pow_succ]
    omega
theorem not_64 (u : Nat) (hu : u < 18446744073709551616) : lo (fun j => 1 - bit u j) 64 = 18446744073709551615 - u := by
  have h := not_lo (bit u) (bit_le u) 64
  rw [lo_bit64 u hu] at h
  have h3 : (2 : Nat) ^ 64 = 18446744073709551616 := by decide
  omega

theorem add_wrap (a b : Int) : wrap64 (((U a + U b) % 18446744073709551616 : Nat) : Int) = wrap64 (a + b) := by
  have := U_cast a; have := U_cast b
  unfold wrap64; omega
theorem not_wrap (a : Int) : wrap64 ((18446744073709551615 - U a : Nat) : Int) = wrap64 (-1 - a) := by
  have := U_cast a; have := U_lt a
  unfold wrap64; omega
theorem wrap_add (a b : Int) : wrap64 (wrap64 a + wrap64 b) = wrap64 (a + b) := by unfold wrap64; omega
theorem wrap_add_left (a b : Int) : wrap64 (wrap64 a + b) = wrap64 (a + b) := by unfold wrap64; omega
theorem wrap_add_right (a b : Int) : wrap64 (a + wrap64 b) = wrap64 (a + b) := by unfold wrap64; omega
theorem wrap_wrap (a : Int) : wrap64 (wrap64 a) = wrap64 a := by unfold wrap64; omega
theorem neg_wrap (a : Int) : wrap64 (wrap64 (-1 - a) + 1) = wrap64 (-a) := by unfold wrap64; omega
theorem sub_wrap (a b : Int) : wrap64 (a + wrap64 (-b)) = wrap64 (a - b) := by unfold wrap64; omega
theorem wrap_mul_mod (a b c : Int) (h : b % 18446744073709551616 = c % 18446744073709551616) : wrap64 (a * b) = wrap64 (a * c) := by
  refine wrap_of_mod ?_
  rw [Int.mul_emod, h, ← Int.mul_emod]
theorem mul_wrap (a b : Int) : wrap64 (a * ((hi (bit (U b)) 64 : Nat) : Int)) = wrap64 (a * b) := by
  rw [hi_64, lo_bit64 _ (U_lt b), U_cast]
  exact wrap_mul_mod _ _ _ (by omega)
/-- One round of the product: doubled, and once more the number where the bit is 1. -/
theorem mul_step0 (a : Int) (f : Nat → Nat) (n : Nat) (h : f (63 - n) = 0) : wrap64 (wrap64 (a * ((hi f n : Nat) : Int)) + wrap64 (a * ((hi f n : Nat) : Int))) = wrap64 (a * ((hi f (n + 1) : Nat) : Int)) := by
  rw [wrap_add, hi, h]
  refine congrArg wrap64 ?_
  rw [Nat.add_zero, Int.natCast_mul, ← Int.mul_assoc, Int.mul_comm _ ((2 : Nat) : Int)]
  omega
theorem mul_step1 (a : Int) (f : Nat → Nat) (n : Nat) (h : f (63 - n) = 1) : wrap64 (wrap64 (wrap64 (a * ((hi f n : Nat) : Int)) + wrap64 (a * ((hi f n : Nat) : Int))) + a) = wrap64 (a * ((hi f (n + 1) : Nat) : Int)) := by
  rw [wrap_add, wrap_add_left, hi, h]
  refine congrArg wrap64 ?_
  rw [Int.natCast_add, Int.natCast_mul, Int.mul_add, ← Int.mul_assoc, Int.mul_comm _ ((2 : Nat) : Int)]
  simp
  omega

/-- A row of 64 numbers, as an array of cells. -/
def row (f : Nat → Nat) : Array Value := Array.ofFn (n := 64) fun j => .int .i64 ((f j.val : Nat) : Int)
theorem row_size (f : Nat → Nat) : (row f).size = 64 := by simp [row]
theorem row_get (f : Nat → Nat) (j : Nat) (h : j < 64) : (row f)[j]? = some (.int .i64 ((f j : Nat) : Int)) := by simp [row, h]
theorem row_set (f : Nat → Nat) (i x : Nat) : (row f).setIfInBounds i (.int .i64 ((x : Nat) : Int)) = row (fun j => if j = i then x else f j) := by
  apply Array.ext
  · simp [row]
  · intro j h1 h2
    rw [Array.getElem_setIfInBounds (by simpa [row] using h1)]
    simp only [row, Array.getElem_ofFn]
    by_cases e : i = j
    · simp [e]
    · rw [if_neg e, if_neg (fun h => e h.symm)]
theorem row_congr {f g : Nat → Nat} (h : ∀ j, j < 64 → f j = g j) : row f = row g := by
  apply Array.ext
  · simp [row]
  · intro j h1 h2
    have hj : j < 64 := by simpa [row] using h1
    simp [row, h j hj]
/-- The first i cells are f's, the others 0. -/
def upto (f : Nat → Nat) (i j : Nat) : Nat := if j < i then f j else 0
theorem row_upto (f : Nat → Nat) (i : Nat) : (row (upto f i)).setIfInBounds i (.int .i64 ((f i : Nat) : Int)) = row (upto f (i + 1)) := by
  rw [row_set]
  refine row_congr fun j _ => ?_
  unfold upto
  by_cases e : j = i
  · subst e; simp
  · rw [if_neg e]; by_cases h : j < i
    · rw [if_pos h, if_pos (by omega)]
    · rw [if_neg h, if_neg (by omega)]
theorem row_full (f : Nat → Nat) : row (upto f 64) = row f := row_congr fun j hj => by unfold upto; rw [if_pos hj]
/-- The first i cells are f's, the others g's. -/
def mix (f g : Nat → Nat) (i j : Nat) : Nat := if j < i then f j else g j
theorem row_mix (f g : Nat → Nat) (i : Nat) : (row (mix f g i)).setIfInBounds i (.int .i64 ((f i : Nat) : Int)) = row (mix f g (i + 1)) := by
  rw [row_set]
  refine row_congr fun j _ => ?_
  unfold mix
  by_cases e : j = i
  · subst e; simp
  · rw [if_neg e]; by_cases h : j < i
    · rw [if_pos h, if_pos (by omega)]
    · rw [if_neg h, if_neg (by omega)]
theorem mix_here (f g : Nat → Nat) (i : Nat) : mix f g i i = g i := by unfold mix; rw [if_neg (by omega)]
theorem row_mixed (f g : Nat → Nat) : row (mix f g 64) = row f := row_congr fun j hj => by unfold mix; rw [if_pos hj]
theorem row_start (g f : Nat → Nat) : row (mix f g 0) = row g := row_congr fun j hj => by unfold mix; rw [if_neg (by omega)]
theorem row_zero (f : Nat → Nat) : row (upto f 0) = row (fun _ => 0) := row_congr fun j _ => by unfold upto; rw [if_neg (by omega)]
theorem row_one (f : Nat → Nat) : (row f).all (·.oneCell') = true := by
  simp only [row, Array.all_eq_true_iff_forall_mem]
  intro v hv
  simp at hv
  obtain ⟨_, rfl⟩ := hv
  rfl
theorem upto_le {f : Nat → Nat} (h : ∀ j, f j ≤ 1) (k j : Nat) : upto f k j ≤ 1 := by unfold upto; split; exact h j; omega
theorem sum_full (a b : Int) {k : Nat} (hk : k = 64) : wrap64 ((lo (upto (sum (bit (U a)) (bit (U b))) k) 64 : Nat) : Int) = wrap64 (a + b) := by
  subst hk
  rw [lo_congr (g := sum (bit (U a)) (bit (U b))) 64 (fun j hj => by unfold upto; rw [if_pos hj]), sum_64 _ _ (U_lt a) (U_lt b), add_wrap]
theorem ret_i64 {a b : Int} (h : a = b) : Ending.returned (.int .i64 a) = .returned (.int .i64 b) := by rw [h]
theorem mix_le {f g : Nat → Nat} (hf : ∀ j, f j ≤ 1) (hg : ∀ j, g j ≤ 1) (k j : Nat) : mix f g k j ≤ 1 := by unfold mix; split; exact hf j; exact hg j
theorem not_full (a : Int) {k : Nat} (hk : k = 64) : wrap64 ((lo (mix (fun j => 1 - bit (U a) j) (bit (U a)) k) 64 : Nat) : Int) = wrap64 (-1 - a) := by
  subst hk
  rw [lo_congr (g := fun j => 1 - bit (U a) j) 64 (fun j hj => by unfold mix; rw [if_pos hj]), not_64 _ (U_lt a), not_wrap]
end Go.Proofs.Ytipdjjgpcmbpdaa.Nu
