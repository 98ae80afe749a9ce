/- What is cut does not hang on what stands behind a blank or a line end (no program's run here). -/
import Derived.Test.YthjmlgbnpnfkgaaDoorLexA
set_option linter.unusedVariables false
namespace Go.Proofs.YthjmlgbnpnfkgaaDoor.Lx
open Go.RowKit Go.ChangeShapes Go.WideShapes Go.ChangeAt Go.Proofs.YthjmlgbnpnfkgaaDoor.Nu

theorem ll_nil : ll [] = 0 := rfl
theorem ll_cons (c : UInt8) (m : List UInt8) : ll (c :: m) = if c = 10 then 0 else ll m + 1 := by
  have hge := Lib.indexByte_ge m 10
  unfold ll
  rw [Lib.indexByte]
  by_cases h : c = 10
  · subst h; simp
  · have h1 : (c == 10) = false := by rw [beq_eq_false_iff_ne]; exact h
    simp only [h1, Bool.false_eq_true, if_false, if_neg h]
    by_cases h2 : Lib.indexByte m 10 = -1
    · simp [h2]
    · have h3 : (Lib.indexByte m 10 == -1) = false := by rw [beq_eq_false_iff_ne]; exact h2
      simp only [h3, Bool.false_eq_true, if_false]
      have h4 : 0 ≤ Lib.indexByte m 10 := by omega
      have h5 : 0 ≤ Lib.indexByte m 10 + 1 := by omega
      rw [if_pos h5, if_pos h4]; omega
theorem ll_in : ∀ (x z : List UInt8), 10 ∈ x → ll (x ++ z) = ll x
  | [], z, h => by cases h
  | c :: m, z, h => by
    rw [List.cons_append, ll_cons, ll_cons]
    by_cases hc : c = 10
    · rw [if_pos hc, if_pos hc]
    · rw [if_neg hc, if_neg hc, ll_in m z (by rcases List.mem_cons.1 h with h1 | h1; exact absurd h1.symm hc; exact h1)]
theorem ll_out : ∀ (x r : List UInt8), 10 ∉ x → ll x = x.length ∧ ll (x ++ 10 :: r) = x.length
  | [], r, h => ⟨rfl, by rw [List.nil_append, ll_cons, if_pos rfl]; rfl⟩
  | c :: m, r, h => by
    have hc : ¬ c = 10 := fun e => h (by rw [e]; exact List.mem_cons_self)
    obtain ⟨h1, h2⟩ := ll_out m r (fun e => h (List.mem_cons_of_mem _ e))
    rw [List.cons_append, ll_cons, ll_cons, if_neg hc, if_neg hc, h1, h2, List.length_cons]
    exact ⟨rfl, rfl⟩
theorem index_in : ∀ (u z : List UInt8), 0 ≤ Lib.index u [42, 47] → Lib.index (u ++ z) [42, 47] = Lib.index u [42, 47]
  | [], z, h => by exact absurd h (by decide)
  | b :: l, z, h => by
    rw [Lib.index] at h
    rw [List.cons_append, Lib.index, Lib.index]
    by_cases h1 : List.isPrefixOf [42, 47] (b :: l) = true
    · have h2 : List.isPrefixOf [42, 47] (b :: (l ++ z)) = true := by
        rw [List.isPrefixOf_iff_prefix] at h1 ⊢
        exact h1.trans (by rw [← List.cons_append]; exact List.prefix_append _ _)
      rw [if_pos h1, if_pos h2]
    · rw [if_neg h1] at h ⊢
      by_cases h3 : Lib.index l [42, 47] = -1
      · rw [h3] at h; exact absurd h (by decide)
      · have hge := Lib.index_ge l [42, 47]
        have h4 : (Lib.index l [42, 47] == -1) = false := by rw [beq_eq_false_iff_ne]; exact h3
        have h2 : ¬ List.isPrefixOf [42, 47] (b :: (l ++ z)) = true := by
          cases l with
          | nil => exact absurd rfl h3
          | cons d l => simpa using h1
        rw [if_neg h2, index_in l z (by omega)]
theorem nl_app (x z : List UInt8) (h2 : 2 ≤ x.length) (h : nl x ≠ 0) : nl (x ++ z) = nl x := by
  unfold nl at h ⊢
  by_cases h1 : 0 ≤ Lib.index (x.drop 2) [42, 47]
  · rw [List.drop_append_of_le_length h2, index_in _ z h1]
  · rw [if_neg h1] at h; exact absurd rfl h
theorem hp2_app (c c0 p q : UInt8) (m r : List UInt8) (h : ¬ c0 = q) : Lib.hasPrefix (c :: (m ++ c0 :: r)) [p, q] = Lib.hasPrefix (c :: m) [p, q] := by
  cases m with
  | nil =>
    have : (q == c0) = false := by rw [beq_eq_false_iff_ne]; exact fun e => h e.symm
    simp [Lib.hasPrefix, List.isPrefixOf, this]
  | cons d m => simp [Lib.hasPrefix, List.isPrefixOf]
theorem wl_app {c0 : UInt8} (h0 : isW c0 = false) : ∀ (x r : List UInt8), wl (x ++ c0 :: r) = wl x
  | [], r => by rw [List.nil_append, wl_no h0]; rfl
  | c :: m, r => by rw [List.cons_append, wl, wl, wl_app h0 m r]
theorem qeF_app (q : UInt8) : ∀ (x z : List UInt8) (a : Nat) (b : Bool), qeF q x a b ≠ 0 → qeF q (x ++ z) a b = qeF q x a b
  | [], z, a, b, h => absurd rfl h
  | c :: m, z, a, b, h => by
    rw [qeF] at h
    rw [List.cons_append, qeF, qeF]
    by_cases h1 : c = 10
    · rw [if_pos h1] at h; exact absurd rfl h
    · rw [if_neg h1] at h ⊢
      rw [if_neg h1]
      by_cases h2 : c = q ∧ b = false
      · rw [if_pos h2, if_pos h2]
      · rw [if_neg h2] at h ⊢
        rw [if_neg h2, qeF_app q m z _ _ h]
/-- A byte that parts tokens. -/
def Sep (c : UInt8) : Prop := c = 10 ∨ c = 32
theorem sep_w {c : UInt8} (h : Sep c) : isW c = false := by rcases h with rfl | rfl <;> rfl
theorem sep_sign {c : UInt8} (h : Sep c) : ∀ s ∈ signs, c ∉ s := by rcases h with rfl | rfl <;> decide
theorem sign_no {c : UInt8} (h : Sep c) {l : List UInt8} (hl : c ∈ l) : signs.contains l = false := by
  rw [← Bool.not_eq_true, List.contains_iff_mem]
  exact fun hm => sep_sign h l hm hl
theorem take_mid (x r : List UInt8) (c0 : UInt8) (j : Nat) (h : x.length < j) : c0 ∈ (x ++ c0 :: r).take j := by
  obtain ⟨k, rfl⟩ : ∃ k, j = x.length + (k + 1) := ⟨j - x.length - 1, by omega⟩
  rw [List.take_length_add_append, List.take_succ_cons]
  exact List.mem_append_right _ List.mem_cons_self
theorem sg_app {c0 : UInt8} (h0 : Sep c0) (x r : List UInt8) : sg (x ++ c0 :: r) = sg x := by
  have key : ∀ j, (j ≤ (x ++ c0 :: r).length ∧ signs.contains ((x ++ c0 :: r).take j) = true) ↔ (j ≤ x.length ∧ signs.contains (x.take j) = true) := fun j => by
    by_cases hj : j ≤ x.length
    · rw [List.take_append_of_le_length hj]
      simp only [List.length_append, List.length_cons]
      exact ⟨fun h => ⟨hj, h.2⟩, fun h => ⟨by omega, h.2⟩⟩
    · rw [sign_no h0 (take_mid x r c0 j (by omega))]
      exact ⟨fun h => (by cases h.2), fun h => absurd h.1 hj⟩
  unfold sg
  simp only [key]
theorem frs_app {c0 : UInt8} (h0 : Sep c0) (c : UInt8) (m r : List UInt8) (hc : (frs (c :: m)).c = 0) : frs (c :: m ++ c0 :: r) = frs (c :: m) := by
  have hw : wl (c :: m ++ c0 :: r) = wl (c :: m) := wl_app (sep_w h0) (c :: m) r
  have ht : (c :: m ++ c0 :: r).take (wl (c :: m)) = (c :: m).take (wl (c :: m)) := List.take_append_of_le_length (wl_le _)
  rw [frs_cons] at hc
  rw [List.cons_append, frs_cons, frs_cons, ← List.cons_append]
  by_cases h1 : dgB c.toNat = true
  · rw [if_pos h1, if_pos h1]
    unfold frD
    rw [hw, ht]
  · rw [if_neg h1] at hc ⊢
    rw [if_neg h1]
    by_cases h2 : c = 39 ∨ c = 34
    · rw [if_pos h2] at hc ⊢
      rw [if_pos h2]
      have hq : qe (c :: m) ≠ 0 := fun e => by
        unfold frQ at hc; rw [if_pos e] at hc
        exact absurd hc (by show ¬ (5 : Int) = 0; decide)
      have hq2 : qe (c :: m ++ c0 :: r) = qe (c :: m) := qeF_app c m (c0 :: r) 1 false hq
      have hlt := (qe_lt (c :: m)).resolve_left hq
      have hi : inq (c :: m ++ c0 :: r) (qe (c :: m)) = inq (c :: m) (qe (c :: m)) := by
        unfold inq
        have : ((c :: m ++ c0 :: r).drop 1).take (qe (c :: m) - 1) = ((c :: m).drop 1).take (qe (c :: m) - 1) := by
          show (m ++ c0 :: r).take _ = m.take _
          rw [List.length_cons] at hlt
          exact List.take_append_of_le_length (by omega)
        rw [this]
      have ht2 : (c :: m ++ c0 :: r).take (qe (c :: m) + 1) = (c :: m).take (qe (c :: m) + 1) := List.take_append_of_le_length (by omega)
      unfold frQ
      rw [hq2, hi, ht2]
      rfl
    · rw [if_neg h2] at hc ⊢
      rw [if_neg h2]
      by_cases h3 : stB c.toNat = true
      · rw [if_pos h3, if_pos h3]
        unfold frN
        rw [hw, ht]
      · rw [if_neg h3, if_neg h3]
        unfold frS
        rw [sg_app h0, List.take_append_of_le_length (sg_le (c :: m)).1]
theorem gapF_shift (k : Nat) : ∀ (f : Nat) (x : List UInt8) (a : Nat) (b : Bool), gapF f x (a + k) b = ((gapF f x a b).1 + k, (gapF f x a b).2)
  | 0, x, a, b => rfl
  | f + 1, [], a, b => rfl
  | f + 1, c :: m, a, b => by
    rw [gapF, gapF]
    split
    · rw [show a + k + 1 = a + 1 + k by omega]; exact gapF_shift k f _ _ _
    · split
      · rw [show a + k + 1 = a + 1 + k by omega]; exact gapF_shift k f _ _ _
      · split
        · rw [show a + k + ll (c :: m) = a + ll (c :: m) + k by omega]; exact gapF_shift k f _ _ _
        · split
          · split
            · rfl
            · rw [show a + k + nl (c :: m) = a + nl (c :: m) + k by omega]; exact gapF_shift k f _ _ _
          · rfl
theorem nl_le' (x : List UInt8) (h : nl x ≠ 0) : 2 ≤ nl x := by
  unfold nl at h ⊢
  split
  · omega
  · rename_i h1; rw [if_neg h1] at h; exact absurd rfl h
theorem gapF_fuel : ∀ (f g : Nat) (x : List UInt8) (a : Nat) (b : Bool), x.length ≤ f → x.length ≤ g → gapF f x a b = gapF g x a b
  | f, g, [], a, b, _, _ => by rw [gap_nil, gap_nil]
  | 0, g, c :: m, a, b, h, _ => by simp at h
  | f + 1, 0, c :: m, a, b, _, h => by simp at h
  | f + 1, g + 1, c :: m, a, b, h1, h2 => by
    rw [List.length_cons] at h1 h2
    rw [gapF, gapF]
    split
    · exact gapF_fuel f g m _ _ (by omega) (by omega)
    · rename_i h10
      split
      · exact gapF_fuel f g m _ _ (by omega) (by omega)
      · split
        · have := ll_pos (m := m) h10
          exact gapF_fuel f g _ _ _ (by rw [List.length_drop, List.length_cons]; omega) (by rw [List.length_drop, List.length_cons]; omega)
        · split
          · split
            · rfl
            · rename_i hn
              have := nl_le' _ hn
              exact gapF_fuel f g _ _ _ (by rw [List.length_drop, List.length_cons]; omega) (by rw [List.length_drop, List.length_cons]; omega)
          · rfl
/-- A line end ahead is told, and changes nothing else. -/
theorem gapF_true : ∀ (f : Nat) (x : List UInt8) (a : Nat) (b : Bool), (gapF f x a true).1 = (gapF f x a b).1 ∧ (gapF f x a true).2.2 = (gapF f x a b).2.2 ∧ ((gapF f x a b).2.2 = true → (gapF f x a true).2.1 = true)
  | 0, x, a, b => ⟨rfl, rfl, fun _ => rfl⟩
  | f + 1, [], a, b => ⟨rfl, rfl, fun _ => rfl⟩
  | f + 1, c :: m, a, b => by
    rw [gapF, gapF]
    split
    · exact gapF_true f m _ true
    · split
      · exact gapF_true f m _ b
      · split
        · exact gapF_true f _ _ b
        · split
          · split
            · exact ⟨rfl, rfl, fun h => by cases h⟩
            · rw [Bool.true_or]; exact gapF_true f _ _ _
          · exact ⟨rfl, rfl, fun _ => rfl⟩
end Go.Proofs.YthjmlgbnpnfkgaaDoor.Lx
