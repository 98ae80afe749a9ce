/- Plain functions that layer num computes: digits, numbers written and read; no Go in sight. -/
import Derived.Test.YthjmlgbnpnfkgaaDoorPlain
namespace Go.Proofs.YthjmlgbnpnfkgaaDoor.Nu
open Go.RowKit

/-- A digit's value; 36 of all else. -/
def dv (c : Nat) : Nat := if 48 ≤ c ∧ c ≤ 57 then c - 48 else if 97 ≤ c ∧ c ≤ 122 then c - 97 + 10 else if 65 ≤ c ∧ c ≤ 90 then c - 65 + 10 else 36
theorem dv_le (c : Nat) : dv c ≤ 36 := by unfold dv; split; omega; split; omega; split <;> omega
/-- The byte of a digit. -/
def dig (d : Nat) : UInt8 := if d < 10 then UInt8.ofNat (48 + d) else UInt8.ofNat (87 + d)
theorem dig_nat (d : Nat) (h : d < 36) : (dig d).toNat = if d < 10 then 48 + d else 87 + d := by
  unfold dig; split
  · rw [UInt8.toNat_ofNat']; omega
  · rw [UInt8.toNat_ofNat']; omega
theorem dv_dig (d : Nat) (h : d < 36) : dv (dig d).toNat = d := by
  rw [dig_nat d h]; unfold dv; split
  · rw [if_pos (by omega)]; omega
  · rw [if_neg (by omega), if_pos (by omega)]; omega

/-- The digits of n, ahead of acc. -/
def wr (base : Nat) : Nat → Nat → List UInt8 → List UInt8
  | 0, n, acc => dig n :: acc
  | f + 1, n, acc => if n < base then dig n :: acc else wr base f (n / base) (dig (n % base) :: acc)
/-- What is read of digits: the number and the error. -/
def rd (base : Nat) : List UInt8 → Nat → Bool → Nat × Nat
  | [], n, over => if over then (0, 11) else (n, 0)
  | c :: l, n, over =>
    if base ≤ dv c.toNat then (0, 5)
    else if over = true ∨ (9223372036854775808 - dv c.toNat) / base < n then rd base l n true
    else rd base l (n * base + dv c.toNat) over
/-- A cell row of 65 bytes, the last ones acc. -/
def buf (acc : List UInt8) : Array Value := ((List.replicate (65 - acc.length) (0 : UInt8) ++ acc).map fun c => Value.int .u8 (c.toNat : Int)).toArray
theorem buf_size (acc : List UInt8) (h : acc.length ≤ 65) : (buf acc).size = 65 := by simp [buf]; omega
theorem buf_get (acc : List UInt8) (j : Nat) (hj : j < acc.length) : (buf acc)[65 - acc.length + j]? = some (.int .u8 ((acc[j]).toNat : Int)) := by
  simp only [buf, List.getElem?_toArray, List.getElem?_map]
  rw [List.getElem?_append_right (by simp)]
  simp [hj]
theorem buf_head (acc : List UInt8) (h : acc.length < 65) : ∃ v, (buf acc)[64 - acc.length]? = some v := by
  have : (64 - acc.length) < (buf acc).size := by rw [buf_size _ (by omega)]; omega
  exact ⟨_, Array.getElem?_eq_getElem this⟩
theorem buf_set (acc : List UInt8) (h : acc.length < 65) (c : UInt8) : (buf acc).setIfInBounds (64 - acc.length) (.int .u8 (c.toNat : Int)) = buf (c :: acc) := by
  have e : 65 - acc.length = (64 - acc.length) + 1 := by omega
  simp only [buf, List.length_cons]
  rw [e, show 65 - (acc.length + 1) = 64 - acc.length from by omega]
  rw [List.replicate_succ']
  apply Array.ext'
  simp only [Array.toList_setIfInBounds]
  rw [List.map_append, List.map_append, List.map_append]
  rw [List.append_assoc, List.set_append_right _ _ (by simp)]
  simp
theorem buf_nil : buf [] = (List.replicate 65 (Value.int .u8 0)).toArray := by kernel_rfl

/-! the digits, read back -/
theorem wr_ne (base : Nat) : ∀ f n acc, wr base f n acc ≠ []
  | 0, n, acc => by simp [wr]
  | f + 1, n, acc => by rw [wr]; split; simp; exact wr_ne base f _ _
/-- What wr lays ahead of acc. -/
def ds (base : Nat) : Nat → Nat → List UInt8
  | 0, n => [dig n]
  | f + 1, n => if n < base then [dig n] else ds base f (n / base) ++ [dig (n % base)]
theorem wr_ds (base : Nat) : ∀ f n acc, wr base f n acc = ds base f n ++ acc
  | 0, n, acc => by simp [wr, ds]
  | f + 1, n, acc => by
    rw [wr, ds]; split
    · simp
    · rw [wr_ds base f]; simp
theorem rd_never (base : Nat) : ∀ (l : List UInt8) (n n' : Nat), rd base l n true ≠ (n', 0)
  | [], n, n', h => by simp [rd] at h
  | c :: l, n, n', h => by
    rw [rd] at h
    split at h
    · simp at h
    · rw [if_pos (Or.inl rfl)] at h; exact rd_never base l n n' h
theorem rd_append (base : Nat) : ∀ (l m : List UInt8) (n n' : Nat), rd base l n false = (n', 0) → rd base (l ++ m) n false = rd base m n' false
  | [], m, n, n', h => by simp [rd] at h; subst h; rfl
  | c :: l, m, n, n', h => by
    rw [rd] at h
    rw [List.cons_append, rd]
    split at h
    · simp at h
    · rename_i hb
      rw [if_neg hb]
      split at h
      · exfalso; exact absurd h (rd_never base l n _)
      · rename_i ho
        rw [if_neg ho]
        exact rd_append base l m _ _ h
/-- The digits of a number up to 2^63 are read as it. -/
theorem rd_ds (base : Nat) (hb : 2 ≤ base) (hB : base ≤ 36) : ∀ f n, n ≤ 9223372036854775808 → n < base ^ (f + 1) → rd base (ds base f n) 0 false = (n, 0)
  | 0, n, hn, hf => by
    have hn' : n < base := by simpa using hf
    simp only [ds, rd]
    rw [dv_dig n (by omega), if_neg (by omega), if_neg (by simp)]
    simp
  | f + 1, n, hn, hf => by
    rw [ds]; split
    · rename_i h
      simp only [rd]
      rw [dv_dig n (by omega), if_neg (by omega), if_neg (by simp)]
      simp
    · have h1 : n / base ≤ n := Nat.div_le_self _ _
      have h2 : n / base < base ^ (f + 1) := by
        rw [Nat.pow_succ, Nat.mul_comm] at hf
        exact Nat.div_lt_of_lt_mul hf
      have ih := rd_ds base hb hB f (n / base) (by omega) h2
      rw [rd_append base _ _ _ _ ih]
      have hm : n % base < base := Nat.mod_lt _ (by omega)
      have hd := Nat.div_add_mod n base
      simp only [rd]
      rw [dv_dig (n % base) (by omega), if_neg (by omega)]
      have hq : ¬ (9223372036854775808 - n % base) / base < n / base := by
        rw [Nat.not_lt]
        rw [Nat.le_div_iff_mul_le (by omega), Nat.mul_comm]
        omega
      rw [if_neg (by simp; omega)]
      simp
      rw [Nat.mul_comm]; omega
/-- Each digit is one of the base; the first one is 0 alone of 0. -/
theorem ds_all (base : Nat) (hb : 2 ≤ base) (hB : base ≤ 36) : ∀ f n, n < base ^ (f + 1) → ∀ c ∈ ds base f n, ∃ d, d < base ∧ c = dig d
  | 0, n, hf, c, hc => by simp [ds] at hc; exact ⟨n, by simpa using hf, hc⟩
  | f + 1, n, hf, c, hc => by
    rw [ds] at hc; split at hc
    · rename_i h; simp at hc; exact ⟨n, h, hc⟩
    · have h2 : n / base < base ^ (f + 1) := by
        rw [Nat.pow_succ, Nat.mul_comm] at hf
        exact Nat.div_lt_of_lt_mul hf
      rw [List.mem_append] at hc
      rcases hc with hc | hc
      · exact ds_all base hb hB f _ h2 c hc
      · simp at hc; exact ⟨n % base, Nat.mod_lt _ (by omega), hc⟩
theorem ds_head (base : Nat) (hb : 2 ≤ base) : ∀ f n, 1 ≤ n → n < base ^ (f + 1) → ∃ d l, ds base f n = dig d :: l ∧ 1 ≤ d ∧ d < base
  | 0, n, h1, hf => ⟨n, [], by simp [ds], h1, by simpa using hf⟩
  | f + 1, n, h1, hf => by
    rw [ds]; split
    · rename_i h; exact ⟨n, [], rfl, h1, h⟩
    · rename_i h
      have h2 : n / base < base ^ (f + 1) := by
        rw [Nat.pow_succ, Nat.mul_comm] at hf
        exact Nat.div_lt_of_lt_mul hf
      have h3 : 1 ≤ n / base := by rw [Nat.le_div_iff_mul_le (by omega)]; omega
      obtain ⟨d, l, e, hd1, hd⟩ := ds_head base hb f (n / base) h3 h2
      exact ⟨d, l ++ [dig (n % base)], by rw [e]; rfl, hd1, hd⟩
theorem ds_zero (base : Nat) (hb : 2 ≤ base) : ∀ f, ds base f 0 = [dig 0]
  | 0 => rfl
  | f + 1 => by rw [ds, if_pos (by omega)]
theorem ds_len (base : Nat) : ∀ f n, (ds base f n).length ≤ f + 1
  | 0, n => by simp [ds]
  | f + 1, n => by
    rw [ds]; split
    · simp
    · have := ds_len base f (n / base); simp; omega
theorem letters_all : ∀ d : Fin 36, ((⟨#[48, 49, 50, 51, 52, 53, 54, 55, 56, 57, 97, 98, 99, 100, 101, 102, 103, 104, 105, 106, 107, 108, 109, 110, 111, 112, 113, 114, 115, 116, 117, 118, 119, 120, 121, 122]⟩ : ByteArray)[d.val]'d.isLt) = dig d.val := by decide
theorem letters_at (i d : Nat) (h : i < (⟨#[48, 49, 50, 51, 52, 53, 54, 55, 56, 57, 97, 98, 99, 100, 101, 102, 103, 104, 105, 106, 107, 108, 109, 110, 111, 112, 113, 114, 115, 116, 117, 118, 119, 120, 121, 122]⟩ : ByteArray).size) (e : i = d) : ((⟨#[48, 49, 50, 51, 52, 53, 54, 55, 56, 57, 97, 98, 99, 100, 101, 102, 103, 104, 105, 106, 107, 108, 109, 110, 111, 112, 113, 114, 115, 116, 117, 118, 119, 120, 121, 122]⟩ : ByteArray)[i]'h) = dig d := by
  subst e; exact letters_all ⟨i, h⟩
theorem ds_step (base f n : Nat) (h : base ≤ n) : ds base (f + 1) n = ds base f (n / base) ++ [dig (n % base)] := by rw [ds, if_neg (by omega)]
theorem ds_last (base n : Nat) (h : n < base) : ∀ f, ds base f n = [dig n]
  | 0 => rfl
  | f + 1 => by rw [ds, if_pos h]
theorem pow_small {n k : Nat} (h2 : 2 ≤ n) (h : n < 2 ^ k) : 2 ≤ k := by
  rcases Nat.lt_or_ge k 2 with h3 | h3
  · have : 2 ^ k ≤ 2 ^ 1 := Nat.pow_le_pow_right (by omega) (by omega)
    omega
  · exact h3
theorem pow_div {base n k : Nat} (hb : 2 ≤ base) (h : n < 2 ^ k) (hk : 1 ≤ k) : n / base < 2 ^ (k - 1) := by
  obtain ⟨j, rfl⟩ : ∃ j, k = j + 1 := ⟨k - 1, by omega⟩
  rw [Nat.pow_succ] at h
  have h1 : n / base ≤ n / 2 := Nat.div_le_div_left hb (by omega)
  simp only [Nat.add_sub_cancel]
  omega
/-- The text of a number. -/
def txt (a : Int) (base : Nat) : List UInt8 := (if a < 0 then [45] else []) ++ ds base 63 a.natAbs
/-- What read answers: of no bytes there is no number. -/
def rdv (base : Nat) (l : List UInt8) : Nat × Nat := if l = [] then (0, 5) else rd base l 0 false
theorem rd_bad (base : Nat) (c : UInt8) (l : List UInt8) (n : Nat) (o : Bool) (h : base ≤ dv c.toNat) : rd base (c :: l) n o = (0, 5) := by rw [rd, if_pos h]
theorem rd_over (base : Nat) (c : UInt8) (l : List UInt8) (n : Nat) (h : dv c.toNat < base) : rd base (c :: l) n true = rd base l n true := by rw [rd, if_neg (by omega), if_pos (Or.inl rfl)]
theorem rd_much (base : Nat) (c : UInt8) (l : List UInt8) (n : Nat) (h : dv c.toNat < base) (h2 : (9223372036854775808 - dv c.toNat) / base < n) : rd base (c :: l) n false = rd base l n true := by rw [rd, if_neg (by omega), if_pos (Or.inr h2)]
theorem rd_more (base : Nat) (c : UInt8) (l : List UInt8) (n : Nat) (h : dv c.toNat < base) (h2 : ¬ (9223372036854775808 - dv c.toNat) / base < n) : rd base (c :: l) n false = rd base l (n * base + dv c.toNat) false := by
  rw [rd, if_neg (by omega), if_neg (by intro h3; rcases h3 with h3 | h3; simp at h3; exact h2 h3)]
theorem mul_room {n base d : Nat} (hb : 2 ≤ base) (hd : d < 36) (h2 : ¬ (9223372036854775808 - d) / base < n) : n * base + d ≤ 9223372036854775808 := by
  rw [Nat.not_lt, Nat.le_div_iff_mul_le (by omega)] at h2
  omega
theorem quo_cast (d base : Nat) (hd : d < 36) : (9223372036854775808 - (d : Int)) / (base : Int) = (((9223372036854775808 - d) / base : Nat) : Int) := by
  rw [Int.natCast_ediv]; congr 1; omega
theorem rd_bound (base : Nat) (hb : 2 ≤ base) : ∀ (l : List UInt8) (n : Nat) (o : Bool), n ≤ 9223372036854775808 → (rd base l n o).1 ≤ 9223372036854775808
  | [], n, o, h => by rw [rd]; split; exact Nat.zero_le _; exact h
  | c :: l, n, o, h => by
    rw [rd]; split
    · exact Nat.zero_le _
    · rename_i hd
      split
      · exact rd_bound base hb l n true h
      · rename_i h2
        have h3 : ¬ (9223372036854775808 - dv c.toNat) / base < n := fun h3 => h2 (Or.inr h3)
        refine rd_bound base hb l _ o ?_
        rw [Nat.not_lt, Nat.le_div_iff_mul_le (by omega)] at h3
        have := dv_le c.toNat
        omega
theorem rdv_bound (base : Nat) (hb : 2 ≤ base) (l : List UInt8) : (rdv base l).1 ≤ 9223372036854775808 := by
  unfold rdv; split; exact Nat.zero_le _; exact rd_bound base hb l 0 false (by omega)
/-- Parse's answer, by what read answers of the digits. -/
def pv (below : Bool) (r : Nat × Nat) : Int × Nat :=
  if r.2 = 0 then (if below then (-(r.1 : Int), 0) else if r.1 = 9223372036854775808 then (0, 11) else ((r.1 : Int), 0)) else (0, r.2)
/-- Parse's answer. -/
def parse (base : Nat) (l : List UInt8) : Int × Nat := match l with
  | c :: m => if c = 45 then pv true (rdv base m) else pv false (rdv base l)
  | [] => pv false (rdv base l)
theorem parse_minus (base : Nat) (m : List UInt8) : parse base (45 :: m) = pv true (rdv base m) := by simp [parse]
theorem parse_plain (base : Nat) (l : List UInt8) (h : l.head? ≠ some 45) : parse base l = pv false (rdv base l) := by
  cases l with
  | nil => rfl
  | cons c m => simp at h; simp [parse, h]
theorem neg_room (n : Nat) (h : n ≤ 9223372036854775808) : wrap64 (-(wrap64 (n : Int))) = -(n : Int) := by unfold wrap64; omega
theorem pv_bad (b : Bool) (n er : Nat) (h : er ≠ 0) : pv b (n, er) = (0, er) := by simp [pv, h]
theorem pv_below (n : Nat) : pv true (n, 0) = (-(n : Int), 0) := by simp [pv]
theorem pv_great : pv false (9223372036854775808, 0) = (0, 11) := by simp [pv]
theorem pv_above (n : Nat) (h : n ≠ 9223372036854775808) : pv false (n, 0) = ((n : Int), 0) := by simp [pv, h]
end Go.Proofs.YthjmlgbnpnfkgaaDoor.Nu
