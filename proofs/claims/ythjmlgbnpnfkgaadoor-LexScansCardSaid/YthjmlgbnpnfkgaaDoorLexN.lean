/- The number that dreyref08.Number tells is numV's (pure). -/
import Derived.Test.YthjmlgbnpnfkgaaDoorLexB
set_option linter.unusedVariables false
namespace Go.Proofs.YthjmlgbnpnfkgaaDoor.Lx
open Go.RowKit Go.ChangeShapes Go.WideShapes Go.ChangeAt Go.Proofs.YthjmlgbnpnfkgaaDoor.Nu

/-- The number of digits, up to 64 bits; none: it is too great already. -/
def rn (base : Nat) : List UInt8 → Option Nat → Int × Nat
  | [], none => (0, 11)
  | [], some n => if base = 10 ∧ 9223372036854775807 < n then (0, 11) else (wrap64 (n : Int), 0)
  | c :: l, none => if base ≤ dv c.toNat then (0, 5) else rn base l none
  | c :: l, some n =>
    if base ≤ dv c.toNat then (0, 5)
    else if (18446744073709551615 - dv c.toNat) / base < n then rn base l none
    else rn base l (some (n * base + dv c.toNat))
theorem rn_bad {base : Nat} {c : UInt8} {l : List UInt8} {o : Option Nat} (h : base ≤ dv c.toNat) : rn base (c :: l) o = (0, 5) := by cases o <;> rw [rn, if_pos h]
theorem rn_none {base : Nat} {c : UInt8} {l : List UInt8} (h : ¬ base ≤ dv c.toNat) : rn base (c :: l) none = rn base l none := by rw [rn, if_neg h]
theorem rn_over {base n : Nat} {c : UInt8} {l : List UInt8} (h : ¬ base ≤ dv c.toNat) (h2 : (18446744073709551615 - dv c.toNat) / base < n) : rn base (c :: l) (some n) = rn base l none := by rw [rn, if_neg h, if_pos h2]
theorem rn_more {base n : Nat} {c : UInt8} {l : List UInt8} (h : ¬ base ≤ dv c.toNat) (h2 : ¬ (18446744073709551615 - dv c.toNat) / base < n) : rn base (c :: l) (some n) = rn base l (some (n * base + dv c.toNat)) := by rw [rn, if_neg h, if_neg h2]
theorem wrap_id (n : Nat) (h : n < 9223372036854775808) : wrap64 (n : Int) = (n : Int) := by unfold wrap64; omega
theorem rn_ten_big : ∀ (l : List UInt8) (m : Nat), 9223372036854775808 ≤ m → rn 10 l (some m) = rn 10 l none
  | [], m, h => by rw [rn, rn, if_pos ⟨rfl, by omega⟩]
  | c :: l, m, h => by
    by_cases h1 : 10 ≤ dv c.toNat
    · rw [rn_bad h1, rn_bad h1]
    · rw [rn_none h1, rn_over h1 (by omega)]
theorem rd_ten_over : ∀ (l : List UInt8) (n : Nat), pv false (rd 10 l n true) = rn 10 l none
  | [], n => by rw [rd, if_pos rfl, rn, pv_bad _ _ _ (by decide)]
  | c :: l, n => by
    by_cases h1 : 10 ≤ dv c.toNat
    · rw [rd_bad _ _ _ _ _ h1, rn_bad h1, pv_bad _ _ _ (by decide)]
    · rw [rd_over _ _ _ _ (by omega), rn_none h1, rd_ten_over l n]
theorem rd_ten : ∀ (l : List UInt8) (n : Nat), n ≤ 9223372036854775808 → pv false (rd 10 l n false) = rn 10 l (some n)
  | [], n, h => by
    rw [rd, if_neg (by simp), rn]
    by_cases h1 : n = 9223372036854775808
    · rw [if_pos ⟨rfl, by omega⟩, h1, pv_great]
    · rw [if_neg (by omega), pv_above _ h1, wrap_id n (by omega)]
  | c :: l, n, h => by
    by_cases h1 : 10 ≤ dv c.toNat
    · rw [rd_bad _ _ _ _ _ h1, rn_bad h1, pv_bad _ _ _ (by decide)]
    · by_cases h2 : (9223372036854775808 - dv c.toNat) / 10 < n
      · rw [rd_much _ _ _ _ (by omega) h2, rd_ten_over]
        by_cases h3 : (18446744073709551615 - dv c.toNat) / 10 < n
        · rw [rn_over h1 h3]
        · rw [rn_more h1 h3, rn_ten_big]; omega
      · rw [rd_more _ _ _ _ (by omega) h2, rn_more h1 (by omega), rd_ten]
        omega
theorem rd_five : ∀ (base : Nat) (l : List UInt8) (n : Nat) (o : Bool) (m : Nat), rd base l n o = (m, 5) → ∃ c ∈ l, base ≤ dv c.toNat
  | base, [], n, o, m, h => by rw [rd] at h; split at h <;> cases h
  | base, c :: l, n, o, m, h => by
    rw [rd] at h
    split at h
    · rename_i h1; exact ⟨c, List.mem_cons_self, h1⟩
    · split at h
      · obtain ⟨d, h2, h3⟩ := rd_five base l _ _ _ h; exact ⟨d, List.mem_cons_of_mem _ h2, h3⟩
      · obtain ⟨d, h2, h3⟩ := rd_five base l _ _ _ h; exact ⟨d, List.mem_cons_of_mem _ h2, h3⟩
theorem rn_five (base : Nat) : ∀ (l : List UInt8) (o : Option Nat), (∃ c ∈ l, base ≤ dv c.toNat) → rn base l o = (0, 5)
  | [], o, h => by obtain ⟨c, h, _⟩ := h; cases h
  | c :: l, o, h => by
    by_cases h1 : base ≤ dv c.toNat
    · rw [rn_bad h1]
    · have h2 : ∃ d ∈ l, base ≤ dv d.toNat := by
        obtain ⟨d, h3, h4⟩ := h
        rcases List.mem_cons.1 h3 with rfl | h3
        · exact absurd h4 h1
        · exact ⟨d, h3, h4⟩
      cases o with
      | none => rw [rn_none h1, rn_five base l _ h2]
      | some n =>
        by_cases h5 : (18446744073709551615 - dv c.toNat) / base < n
        · rw [rn_over h1 h5, rn_five base l _ h2]
        · rw [rn_more h1 h5, rn_five base l _ h2]
theorem rd_codes : ∀ (base : Nat) (l : List UInt8) (n : Nat) (o : Bool), (rd base l n o).2 = 0 ∨ (rd base l n o).2 = 5 ∨ (rd base l n o).2 = 11
  | base, [], n, o => by rw [rd]; split <;> simp
  | base, c :: l, n, o => by
    rw [rd]
    split
    · simp
    · split
      · exact rd_codes base l _ _
      · exact rd_codes base l _ _
theorem rd_good : ∀ (base : Nat) (l : List UInt8) (n : Nat) (o : Bool), (rd base l n o).2 ≠ 5 → ∀ c ∈ l, dv c.toNat < base
  | base, [], n, o, h, c, hc => by cases hc
  | base, d :: l, n, o, h, c, hc => by
    rw [rd] at h
    split at h
    · exact absurd rfl h
    · rename_i h1
      rcases List.mem_cons.1 hc with rfl | hc
      · omega
      · split at h
        · exact rd_good base l _ _ h c hc
        · exact rd_good base l _ _ h c hc
theorem rd_zero16 : ∀ (l : List UInt8) (n m : Nat), rd 16 l n false = (m, 0) → m < 9223372036854775808 → rn 16 l (some n) = ((m : Int), 0)
  | [], n, m, h, hm => by
    rw [rd, if_neg (by simp)] at h
    cases h
    rw [rn, if_neg (by omega), wrap_id _ hm]
  | c :: l, n, m, h, hm => by
    by_cases h1 : 16 ≤ dv c.toNat
    · rw [rd_bad _ _ _ _ _ h1] at h; cases h
    · by_cases h2 : (9223372036854775808 - dv c.toNat) / 16 < n
      · rw [rd_much _ _ _ _ (by omega) h2] at h
        exact absurd h (rd_never 16 l n m)
      · rw [rd_more _ _ _ _ (by omega) h2] at h
        rw [rn_more h1 (by omega)]
        exact rd_zero16 l _ m h hm
/-- The plain number of digits to the base 16. -/
def fv : List UInt8 → Nat → Nat
  | [], n => n
  | c :: l, n => fv l (n * 16 + dv c.toNat)
theorem fv_lt : ∀ (l : List UInt8) (n j : Nat), (∀ c ∈ l, dv c.toNat < 16) → n < 16 ^ j → fv l n < 16 ^ (j + l.length)
  | [], n, j, _, h => h
  | c :: l, n, j, hg, h => by
    rw [fv, List.length_cons, show j + (l.length + 1) = j + 1 + l.length by omega]
    have := hg c List.mem_cons_self
    exact fv_lt l _ (j + 1) (fun d hd => hg d (List.mem_cons_of_mem _ hd)) (by rw [Nat.pow_succ]; omega)
theorem fv_append : ∀ (l m : List UInt8) (n : Nat), fv (l ++ m) n = fv m (fv l n)
  | [], m, n => rfl
  | c :: l, m, n => by rw [List.cons_append, fv, fv, fv_append l m]
theorem fv_add : ∀ (l : List UInt8) (n : Nat), fv l n = n * 16 ^ l.length + fv l 0
  | [], n => by simp [fv]
  | c :: l, n => by
    rw [fv, fv, fv_add l (n * 16 + _), fv_add l (0 * 16 + _), List.length_cons, Nat.pow_succ, Nat.add_mul, Nat.zero_mul, Nat.zero_add, Nat.mul_assoc, Nat.mul_comm 16]
    omega
theorem pow_le2 {j : Nat} (h : j ≤ 16) : 16 ^ j ≤ 18446744073709551616 := Nat.le_trans (Nat.pow_le_pow_right (by decide) h) (by decide)
theorem rn_fv : ∀ (l : List UInt8) (n j : Nat), (∀ c ∈ l, dv c.toNat < 16) → n < 16 ^ j → j + l.length ≤ 16 → rn 16 l (some n) = (wrap64 ((fv l n : Nat) : Int), 0)
  | [], n, j, _, _, _ => by rw [rn, if_neg (by omega), fv]
  | c :: l, n, j, hg, h, hj => by
    rw [List.length_cons] at hj
    have hc := hg c List.mem_cons_self
    have hp := pow_le15 (show j ≤ 15 by omega)
    rw [rn_more (by omega) (by omega), fv]
    exact rn_fv l _ (j + 1) (fun d hd => hg d (List.mem_cons_of_mem _ hd)) (by rw [Nat.pow_succ]; omega) (by omega)
theorem rd_fv : ∀ (l : List UInt8) (n j : Nat), (∀ c ∈ l, dv c.toNat < 16) → n < 16 ^ j → j + l.length ≤ 15 → rd 16 l n false = (fv l n, 0)
  | [], n, j, _, _, _ => by rw [rd, if_neg (by simp), fv]
  | c :: l, n, j, hg, h, hj => by
    rw [List.length_cons] at hj
    have hc := hg c List.mem_cons_self
    have hp := pow_le (show j ≤ 14 by omega)
    rw [rd_more _ _ _ _ hc (by omega), fv]
    exact rd_fv l _ (j + 1) (fun d hd => hg d (List.mem_cons_of_mem _ hd)) (by rw [Nat.pow_succ]; omega) (by omega)
theorem rn_long_none : ∀ (l : List UInt8), (∀ c ∈ l, dv c.toNat < 16) → rn 16 l none = (0, 11)
  | [], _ => rfl
  | c :: l, hg => by
    have hc := hg c List.mem_cons_self
    rw [rn_none (by omega)]
    exact rn_long_none l (fun d hd => hg d (List.mem_cons_of_mem _ hd))
theorem rn_long : ∀ (l : List UInt8) (n j : Nat), (∀ c ∈ l, dv c.toNat < 16) → 16 ^ j ≤ n → n ≤ 18446744073709551615 → 16 ≤ j + l.length → rn 16 l (some n) = (0, 11)
  | [], n, j, _, h, h2, hj => by
    have : 16 ^ 16 ≤ 16 ^ j := Nat.pow_le_pow_right (by decide) (by simpa using hj)
    omega
  | c :: l, n, j, hg, h, h2, hj => by
    have hc := hg c List.mem_cons_self
    by_cases h3 : (18446744073709551615 - dv c.toNat) / 16 < n
    · rw [rn_over (by omega) h3]
      exact rn_long_none l (fun d hd => hg d (List.mem_cons_of_mem _ hd))
    · rw [rn_more (by omega) h3]
      rw [List.length_cons] at hj
      exact rn_long l _ (j + 1) (fun d hd => hg d (List.mem_cons_of_mem _ hd)) (by rw [Nat.pow_succ]; omega) (by omega) (by omega)
theorem rn_trim : ∀ l : List UInt8, rn 16 (Lib.trimLeftB l 48) (some 0) = rn 16 l (some 0)
  | [] => rfl
  | c :: l => by
    by_cases h : c = 48
    · subst h
      rw [rn_more (by decide) (by decide), show 0 * 16 + dv (48 : UInt8).toNat = 0 from rfl, ← rn_trim l]
      simp [Lib.trimLeftB]
    · have : Lib.trimLeftB (c :: l) 48 = c :: l := by simp [Lib.trimLeftB, h]
      rw [this]
theorem trim_head (l : List UInt8) (c : UInt8) (m : List UInt8) (h : Lib.trimLeftB l 48 = c :: m) : c ≠ 48 := by
  induction l with
  | nil => cases h
  | cons d l ih =>
    by_cases hd : d = 48
    · subst hd
      refine ih ?_
      rw [← h]; simp [Lib.trimLeftB]
    · have : Lib.trimLeftB (d :: l) 48 = d :: l := by simp [Lib.trimLeftB, hd]
      rw [this] at h
      cases h
      exact hd
theorem or_two (h l : Nat) (hh : h < 4294967296) (hl : l < 4294967296) : bits .or .i64 (wrap64 ((h : Int) * 4294967296)) (l : Int) = wrap64 ((h * 4294967296 + l : Nat) : Int) := by
  show IntKind.i64.wrap (((BitVec.ofInt 64 (wrap64 ((h : Int) * 4294967296))) ||| (BitVec.ofInt 64 (l : Int))).toNat : Int) = _
  rw [IntKind.wrap_i64, BitVec.toNat_or, BitVec.toNat_ofInt, BitVec.toNat_ofInt]
  have e1 : (wrap64 ((h : Int) * 4294967296) % ((2 ^ 64 : Nat) : Int)).toNat = h * 4294967296 := by
    rw [show ((2 ^ 64 : Nat) : Int) = 18446744073709551616 from rfl]; unfold wrap64; omega
  have e2 : ((l : Int) % ((2 ^ 64 : Nat) : Int)).toNat = l := by
    rw [show ((2 ^ 64 : Nat) : Int) = 18446744073709551616 from rfl]; omega
  rw [e1, e2]
  have h1 := Nat.two_pow_add_eq_or_of_lt (i := 32) (b := l) (by omega) h
  rw [show (2 : Nat) ^ 32 = 4294967296 from rfl] at h1
  rw [Nat.mul_comm h, h1]
  unfold wrap64
  with_reducible rfl
theorem dv_zero {c : UInt8} (h : dv c.toNat = 0) : c = 48 := by
  refine u8_eq.2 ?_
  show c.toNat = 48
  unfold dv at h
  split at h
  · omega
  · split at h
    · omega
    · split at h <;> omega
theorem hex_rn (l : List UInt8) (hl : l ≠ []) : hexV l = rn 16 l (some 0) := by
  unfold hexV
  have hp : p16 l = pv false (rd 16 l 0 false) := by unfold p16 rdv; rw [if_neg hl]
  by_cases h11 : (p16 l).2 = 11
  · rw [if_pos h11]
    have hlen := p16_len h11
    have hgood : ∀ c ∈ l, dv c.toNat < 16 := rd_good 16 l 0 false (fun h5 => by
      rw [hp] at h11
      generalize rd 16 l 0 false = r at *
      obtain ⟨m, e⟩ := r
      dsimp only at h5
      subst h5
      rw [pv_bad _ _ _ (by decide)] at h11
      cases h11)
    have hgt : ∀ c ∈ Lib.trimLeftB l 48, dv c.toNat < 16 := fun c hc => hgood c (List.dropWhile_sublist _ |>.subset hc)
    have hhd := trim_head l
    rw [← rn_trim]
    generalize Lib.trimLeftB l 48 = t at *
    by_cases h16 : 16 < t.length
    · rw [if_pos h16]
      cases t with
      | nil => simp at h16
      | cons c m =>
        have hc := hgt c List.mem_cons_self
        have hne := hhd c m rfl
        rw [rn_more (by omega) (by omega), rn_long m _ 0 (fun d hd => hgt d (List.mem_cons_of_mem _ hd)) (by
          have : dv c.toNat ≠ 0 := fun h => hne (dv_zero h)
          omega) (by omega) (by rw [List.length_cons] at h16; omega)]
    · rw [if_neg h16]
      have ht : t.length = 16 := by omega
      have g1 : ∀ c ∈ t.take 8, dv c.toNat < 16 := fun c hc => hgt c (List.mem_of_mem_take hc)
      have g2 : ∀ c ∈ t.drop 8, dv c.toNat < 16 := fun c hc => hgt c (List.mem_of_mem_drop hc)
      have l1 : (t.take 8).length = 8 := by rw [List.length_take]; omega
      have l2 : (t.drop 8).length = 8 := by rw [List.length_drop]; omega
      have f1 := fv_lt (t.take 8) 0 0 g1 (by decide)
      have f2 := fv_lt (t.drop 8) 0 0 g2 (by decide)
      rw [l1] at f1
      rw [l2] at f2
      have e1 : p16 (t.take 8) = (((fv (t.take 8) 0 : Nat) : Int), 0) := by
        unfold p16 rdv
        rw [if_neg (by intro h; rw [h] at l1; cases l1), rd_fv _ 0 0 g1 (by decide) (by omega), pv_above _ (by omega)]
      have e2 : p16 (t.drop 8) = (((fv (t.drop 8) 0 : Nat) : Int), 0) := by
        unfold p16 rdv
        rw [if_neg (by intro h; rw [h] at l2; cases l2), rd_fv _ 0 0 g2 (by decide) (by omega), pv_above _ (by omega)]
      rw [e1, e2, rn_fv t 0 0 hgt (by decide) (by omega)]
      dsimp only
      rw [or_two _ _ (by omega) (by omega)]
      congr 3
      have h7 := fv_append (t.take 8) (t.drop 8) 0
      rw [List.take_append_drop, fv_add (t.drop 8), l2] at h7
      rw [h7]
  · rw [if_neg h11, hp]
    rw [hp] at h11
    have hb := rd_bound 16 (by decide) l 0 false (by decide)
    rcases rd_codes 16 l 0 false with h | h | h
    · generalize hr : rd 16 l 0 false = r at *
      obtain ⟨m, e⟩ := r
      dsimp only at h hb
      subst h
      by_cases hm : m = 9223372036854775808
      · subst hm; exact absurd (by rw [pv_great]) h11
      · rw [pv_above _ hm, rd_zero16 l 0 m hr (by omega)]
    · generalize hr : rd 16 l 0 false = r at *
      obtain ⟨m, e⟩ := r
      dsimp only at h
      subst h
      rw [pv_bad _ _ _ (by decide), rn_five 16 l _ (rd_five 16 l 0 false m hr)]
    · generalize hr : rd 16 l 0 false = r at *
      obtain ⟨m, e⟩ := r
      dsimp only at h
      subst h
      exact absurd (by rw [pv_bad _ _ _ (by decide)]) h11
theorem ten_rn (l : List UInt8) (hl : l ≠ []) : pv false (rdv 10 l) = rn 10 l (some 0) := by
  unfold rdv
  rw [if_neg hl, rd_ten l 0 (by decide)]
end Go.Proofs.YthjmlgbnpnfkgaaDoor.Lx
