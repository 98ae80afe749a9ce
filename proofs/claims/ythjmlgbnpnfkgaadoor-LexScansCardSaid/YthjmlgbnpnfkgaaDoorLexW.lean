/- LexWhole is true: the walk. -/
import Derived.Test.YthjmlgbnpnfkgaaDoorLexV
import Derived.Test.YthjmlgbnpnfkgaaDoorLexK
import Derived.Test.YthjmlgbnpnfkgaaDoorLexH
set_option linter.unusedVariables false
namespace Go.Proofs.YthjmlgbnpnfkgaaDoor.Lx
open Go.RowKit Go.ChangeShapes Go.WideShapes Go.ChangeAt Go.Proofs.YthjmlgbnpnfkgaaDoor.Nu

theorem scanF_ext (l : List UInt8) : ∀ (f e : Nat) (acc L : List Tk), e ≤ l.length → l.length + 1 ≤ f + e → scanF f l e acc = (L, 0, 0) → ∃ r, L = acc ++ r ∧ r ≠ []
  | 0, e, acc, L, he, hf, h => by omega
  | f + 1, e, acc, L, he, hf, h => by
    obtain ⟨p1, p2⟩ := gap_le l e he
    rw [scanF_succ] at h
    generalize gap l e = G at *
    obtain ⟨n, ln, ok⟩ := G
    unfold stp at h
    dsimp only at p1 p2 h
    split at h
    · exact absurd (Prod.mk.inj (Prod.mk.inj h).2).1 (by decide)
    · split at h
      · exact ⟨_, (Prod.mk.inj h).1.symm, by simp⟩
      · split at h
        · exact absurd (Prod.mk.inj (Prod.mk.inj h).2).1 (by decide)
        · rename_i hne _
          obtain ⟨c, m, hcm⟩ : ∃ c m, l.drop n = c :: m := by
            cases hx : l.drop n with
            | nil => have := congrArg List.length hx; rw [List.length_drop] at this; simp at this; omega
            | cons c m => exact ⟨c, m, rfl⟩
          have hb := frs_bd c m
          have hlen : (c :: m).length = l.length - n := by rw [← hcm, List.length_drop]
          rw [hcm] at h
          split at h
          · rename_i hc
            have hb1 : 1 ≤ (frs (c :: m)).n ∧ (frs (c :: m)).n ≤ (c :: m).length := by
              rcases hb with hb | hb
              · exact hb.2
              · exact absurd hc hb.1
            obtain ⟨r, e1, e2⟩ := scanF_ext l f _ _ L (by omega) (by omega) h
            exact ⟨_, by rw [e1, List.append_assoc], by simp⟩
          · rename_i hc
            exact absurd (Prod.mk.inj (Prod.mk.inj h).2).1 hc
theorem frs_k (l : List UInt8) : (frs l).k ≠ 6 := by
  cases l with
  | nil => show (0 : Int) ≠ 6; decide
  | cons c l =>
    rw [frs_cons]
    split
    · unfold frD; split
      · show (3 : Int) ≠ 6; decide
      · show (0 : Int) ≠ 6; decide
    · split
      · unfold frQ; split
        · show (0 : Int) ≠ 6; decide
        · split
          · split
            · show (4 : Int) ≠ 6; decide
            · split
              · show (3 : Int) ≠ 6; decide
              · show (0 : Int) ≠ 6; decide
          · show (0 : Int) ≠ 6; decide
      · split
        · unfold frN; dsimp only; split <;> decide
        · unfold frS; split
          · show (0 : Int) ≠ 6; decide
          · show (5 : Int) ≠ 6; decide
/-- So far the tokens are cut. -/
def Cut (l : List UInt8) (L : List Tk) (i e : Nat) : Prop := i ≤ L.length ∧ e ≤ l.length ∧ ∃ f, l.length + 1 ≤ f + e ∧ scanF f l e (L.take i) = (L, 0, 0)
theorem cut_next {l : List UInt8} {L : List Tk} {i e : Nat} (h : Cut l L i e) : ∃ n ln, gap l e = (n, ln, true) ∧ e ≤ n ∧ n ≤ l.length ∧ ∃ h : i < L.length, L[i].a = (n : Int) ∧ L[i].b = ln ∧
    ((L[i].k = 6 ∧ n = l.length) ∨ (L[i].k ≠ 6 ∧ n < l.length ∧ (frs (l.drop n)).c = 0 ∧ 1 ≤ (frs (l.drop n)).n ∧ Cut l L (i + 1) (n + (frs (l.drop n)).n))) := by
  obtain ⟨hi, he, f, hf, hs⟩ := h
  have hext := scanF_ext l f e _ L he hf hs
  obtain ⟨p1, p2⟩ := gap_le l e he
  have hlen : (L.take i).length = i := by rw [List.length_take]; omega
  have hiL : i < L.length := by
    obtain ⟨r, h1, h2⟩ := hext
    have := congrArg List.length h1
    rw [List.length_append, hlen] at this
    have : 0 < r.length := List.length_pos_iff.2 h2
    omega
  obtain ⟨f, rfl⟩ : ∃ g, f = g + 1 := ⟨f - 1, by omega⟩
  rw [scanF_succ] at hs
  generalize gap l e = G at *
  obtain ⟨n, ln, ok⟩ := G
  unfold stp at hs
  dsimp only at p1 p2 hs
  have hat : ∀ (t : Tk) (r : List Tk), L = L.take i ++ t :: r → L[i] = t := fun t r h => by
    have h2 : L[i]? = some t := by rw [h, List.getElem?_append_right (by omega), hlen, Nat.sub_self]; rfl
    rw [List.getElem?_eq_getElem hiL] at h2
    exact Option.some.inj h2
  split at hs
  · exact absurd (Prod.mk.inj (Prod.mk.inj hs).2).1 (by decide)
  · rename_i hok
    have hok2 : ok = true := by
      cases ok
      · exact absurd rfl hok
      · rfl
    subst hok2
    split at hs
    · rename_i hn
      have h1 := (Prod.mk.inj hs).1
      have h2 := hat _ [] h1.symm
      exact ⟨n, ln, rfl, p1, p2, hiL, by rw [h2], by rw [h2], .inl ⟨by rw [h2], hn⟩⟩
    · split at hs
      · exact absurd (Prod.mk.inj (Prod.mk.inj hs).2).1 (by decide)
      · rename_i hne _
        obtain ⟨c, m, hcm⟩ : ∃ c m, l.drop n = c :: m := by
          cases hx : l.drop n with
          | nil => have := congrArg List.length hx; rw [List.length_drop] at this; simp at this; omega
          | cons c m => exact ⟨c, m, rfl⟩
        have hb := frs_bd c m
        have hlen2 : (c :: m).length = l.length - n := by rw [← hcm, List.length_drop]
        split at hs
        · rename_i hc
          rw [← hcm] at hb
          have hb1 : 1 ≤ (frs (l.drop n)).n ∧ (frs (l.drop n)).n ≤ (l.drop n).length := by
            rcases hb with hb | hb
            · exact hb.2
            · exact absurd hc hb.1
          rw [List.length_drop] at hb1
          obtain ⟨r, e1, e2⟩ := scanF_ext l f _ _ L (by omega) (by omega) hs
          have h3 := e1
          rw [List.append_assoc] at h3
          have h2 := hat _ r h3
          refine ⟨n, ln, rfl, p1, p2, hiL, by rw [h2], by rw [h2], .inr ⟨by rw [h2]; exact frs_k _, by omega, hc, hb1.1, by omega, by omega, f, by omega, ?_⟩⟩
          rw [List.take_succ_eq_append_getElem hiL, h2]
          exact hs
        · rename_i hc
          exact absurd (Prod.mk.inj (Prod.mk.inj hs).2).1 hc
theorem cut_zero {l : List UInt8} {L : List Tk} (h : scan l = (L, 0, 0)) : Cut l L 0 0 := by
  unfold scan at h
  split at h
  · exact absurd (Prod.mk.inj (Prod.mk.inj h).2).1 (by decide)
  · exact ⟨Nat.zero_le _, Nat.zero_le _, _, by omega, h⟩
/-- Between two tokens, from where a piece of the text begins. -/
theorem gap_piece (l : List UInt8) (e : Nat) (h : e ≤ l.length) : gap l e = ((gapF (l.drop e).length (l.drop e) 0 false).1 + e, (gapF (l.drop e).length (l.drop e) 0 false).2) := by
  unfold gap
  have h1 := gapF_shift e l.length (l.drop e) 0 false
  rw [Nat.zero_add] at h1
  rw [h1, gapF_fuel l.length (l.drop e).length _ 0 false (by rw [List.length_drop]; omega) (Nat.le_refl _)]
end Go.Proofs.YthjmlgbnpnfkgaaDoor.Lx
