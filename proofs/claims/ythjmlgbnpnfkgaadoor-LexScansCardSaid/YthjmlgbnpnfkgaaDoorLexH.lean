/- What Join writes is cut as what was joined (pure). -/
import Derived.Test.YthjmlgbnpnfkgaaDoorLexG
set_option linter.unusedVariables false
namespace Go.Proofs.YthjmlgbnpnfkgaaDoor.Lx
open Go.RowKit Go.ChangeShapes Go.WideShapes Go.ChangeAt Go.Proofs.YthjmlgbnpnfkgaaDoor.Nu

/-- A token but for where it stands. -/
def una (t : Tk) : Tk := { t with a := 0 }
/-- How many bytes some tokens have at most, shown, with what parts them. -/
def tot : List Tk → Nat
  | [] => 0
  | t :: L => (1 + (shw t).length) + tot L
theorem tot_append : ∀ L M : List Tk, tot (L ++ M) = tot L + tot M
  | [], M => by rw [List.nil_append, tot, Nat.zero_add]
  | t :: L, M => by rw [List.cons_append, tot, tot, tot_append L M]; omega
theorem joi_le : ∀ (b : Bool) (L : List Tk), (joi b L).length ≤ tot L
  | b, [] => by rw [joi_nil]; exact Nat.zero_le _
  | b, t :: L => by
    have := joi_le false L
    rw [joi_cons, tot, List.length_append, List.length_append]
    have : (if t.b then [10] else if b then [] else [32] : List UInt8).length ≤ 1 := by split; decide; split <;> decide
    omega
theorem scanF_good (l : List UInt8) : ∀ (f e : Nat) (acc L : List Tk), e ≤ l.length → l.length + 1 ≤ f + e → (∀ u ∈ acc, Good u) → acc.length ≤ e → tot acc ≤ 5 * e → scanF f l e acc = (L, 0, 0) →
    ∃ (A : List Tk) (t : Tk), L = A ++ [t] ∧ (∀ u ∈ A, Good u) ∧ A.length ≤ l.length ∧ tot A ≤ 5 * l.length ∧ t.k = 6 ∧ t.x = [] ∧ t.v = 0
  | 0, e, acc, L, he, hf, _, _, _, h => by omega
  | f + 1, e, acc, L, he, hf, hg, ha, ht, h => by
    obtain ⟨p1, p2⟩ := gap_le l e he
    rw [scanF_succ] at h
    generalize gap l e = G at *
    obtain ⟨n, ln, ok⟩ := G
    unfold stp at h
    dsimp only at p1 p2 h
    split at h
    · exact absurd (Prod.mk.inj (Prod.mk.inj h).2).1 (by decide)
    · split at h
      · rename_i hn
        exact ⟨acc, _, (Prod.mk.inj h).1.symm, hg, by omega, by omega, rfl, rfl, rfl⟩
      · split at h
        · exact absurd (Prod.mk.inj (Prod.mk.inj h).2).1 (by decide)
        · rename_i hne _
          obtain ⟨c, m, hcm⟩ : ∃ c m, l.drop n = c :: m := by
            cases hx : l.drop n with
            | nil => have := congrArg List.length hx; rw [List.length_drop] at this; simp at this; omega
            | cons c m => exact ⟨c, m, rfl⟩
          have hb := frs_bd c m
          have hlen : (c :: m).length = l.length - n := by rw [← hcm, List.length_drop]
          rw [hcm] at h
          split at h
          · rename_i hc
            obtain ⟨g1, g2⟩ := good_of c m hc (n : Int) ln
            have hb1 : 1 ≤ (frs (c :: m)).n ∧ (frs (c :: m)).n ≤ (c :: m).length := by
              rcases hb with hb | hb
              · exact hb.2
              · exact absurd hc hb.1
            refine scanF_good l f _ _ L (by omega) (by omega) ?_ ?_ ?_ h
            · intro u hu
              rcases List.mem_append.1 hu with hu | hu
              · exact hg u hu
              · rw [List.mem_singleton.1 hu]; exact g1
            · rw [List.length_append, List.length_singleton]; omega
            · rw [tot_append, tot, tot]; omega
          · rename_i hc
            exact absurd (Prod.mk.inj (Prod.mk.inj h).2).1 hc
/-- What stands behind a token that is shown. -/
theorem joi_sep (u : Tk) (L : List Tk) : ∃ c0 r, Sep c0 ∧ joi false (u :: L) = c0 :: r := by
  rw [joi_cons]
  by_cases h : u.b = true
  · rw [if_pos h]; exact ⟨10, _, Or.inl rfl, rfl⟩
  · rw [if_neg h, if_neg (by decide)]; exact ⟨32, _, Or.inr rfl, rfl⟩
theorem rescan (W : List UInt8) (t : Tk) (hk : t.k = 6) (hx : t.x = []) (hv : t.v = 0) : ∀ (A : List Tk) (g e : Nat) (b : Bool) (acc : List Tk), (∀ u ∈ A, Good u) → e ≤ W.length → W.drop e = joi b (A ++ [t]) → W.length + 1 ≤ g + e → acc.length + A.length < 65536 →
    ∃ L, scanF g W e acc = (L, 0, 0) ∧ L.map una = (acc ++ (A ++ [t])).map una
  | A, 0, e, b, acc, _, he, _, hg, _ => by omega
  | [], g + 1, e, b, acc, _, he, hW, hg, _ => by
    rw [List.nil_append, joi_cons, joi_nil, List.append_nil, show shw t = [] by rw [shw_else (by rw [hk]; decide), hx], List.append_nil] at hW
    have hG : gap W e = (W.length, t.b, true) := by
      have hl := congrArg List.length hW
      rw [List.length_drop] at hl
      unfold gap
      rw [hW]
      by_cases h1 : t.b = true
      · rw [if_pos h1] at hl ⊢
        obtain ⟨j, hj⟩ : ∃ j, W.length = j + 1 := ⟨W.length - 1, by simp at hl; omega⟩
        rw [hj, gap_line rfl, gap_nil, h1]
        simp at hl
        rw [show e + 1 = j + 1 by omega]
      · rw [if_neg h1] at hl ⊢
        rw [Bool.not_eq_true] at h1
        by_cases h2 : b = true
        · rw [if_pos h2] at hl ⊢
          simp at hl
          rw [gap_nil, h1, show e = W.length by omega]
        · rw [if_neg h2] at hl ⊢
          obtain ⟨j, hj⟩ : ∃ j, W.length = j + 1 := ⟨W.length - 1, by simp at hl; omega⟩
          simp at hl
          rw [hj, gap_blank (by decide) (by decide), gap_nil, h1, show e + 1 = j + 1 by omega]
    refine ⟨acc ++ [⟨6, (W.length : Int), [], 0, t.b⟩], ?_, ?_⟩
    · rw [scanF_succ, hG]
      unfold stp
      rw [if_neg (by simp), if_pos rfl]
    · rw [List.map_append, List.map_append]
      congr 1
      obtain ⟨k, a, x, v, bb⟩ := t
      dsimp only at hk hx hv
      subst hk hx hv
      rfl
  | u :: A, g + 1, e, b, acc, hgd, he, hW, hg, hl => by
    have gu := hgd u List.mem_cons_self
    obtain ⟨c0, r, hs, hz⟩ : ∃ c0 r, Sep c0 ∧ joi false (A ++ [t]) = c0 :: r := by
      cases A with
      | nil => exact joi_sep t []
      | cons v A => exact joi_sep v (A ++ [t])
    rw [List.cons_append, joi_cons, hz] at hW
    generalize hsp : (if u.b then [10] else if b then [] else [32] : List UInt8) = sp at hW
    have hlen := congrArg List.length hW
    rw [List.length_drop, List.length_append, List.length_append, List.length_cons] at hlen
    have hng := ng_gap gu.ng
    have hG : gap W e = (e + sp.length, u.b, true) := by
      unfold gap
      rw [hW, ← hsp]
      obtain ⟨j, hj⟩ : ∃ j, W.length = j + 1 + 1 := ⟨W.length - 2, by
        obtain ⟨d, m, hd, _⟩ := gu.ng
        rw [hd] at hlen; simp at hlen; omega⟩
      by_cases h1 : u.b = true
      · rw [if_pos h1, hj, List.cons_append, gap_line rfl, List.nil_append, hng _ _ _ _ (Or.inr ⟨c0, r, hs, rfl⟩), h1]; rfl
      · rw [if_neg h1]
        rw [Bool.not_eq_true] at h1
        by_cases h2 : b = true
        · rw [if_pos h2, hj, List.nil_append, hng _ _ _ _ (Or.inr ⟨c0, r, hs, rfl⟩), h1]; rfl
        · rw [if_neg h2, hj, List.cons_append, gap_blank (by decide) (by decide), List.nil_append, hng _ _ _ _ (Or.inr ⟨c0, r, hs, rfl⟩), h1]; rfl
    have hd2 : W.drop (e + sp.length) = shw u ++ c0 :: r := by
      rw [← List.drop_drop, hW, List.drop_append, List.drop_length, Nat.sub_self]; rfl
    obtain ⟨d, m, hdm, _⟩ := gu.ng
    have hF : frs (shw u ++ c0 :: r) = ⟨u.k, u.x, u.v, (shw u).length, 0, 0⟩ := by
      rw [hdm, frs_app hs d m r (by rw [← hdm, gu.cut]), ← hdm, gu.cut]
    have hpos : 1 ≤ (shw u).length := by rw [hdm]; simp
    rw [List.length_cons] at hl
    rw [scanF_succ, hG]
    unfold stp
    dsimp only
    rw [if_neg (by simp), if_neg (by omega), if_neg (by omega), hd2, hF]
    dsimp only
    rw [if_pos rfl]
    obtain ⟨L, e1, e2⟩ := rescan W t hk hx hv A g (e + sp.length + (shw u).length) false (acc ++ [⟨u.k, ((e + sp.length : Nat) : Int), u.x, u.v, u.b⟩]) (fun v hv => hgd v (List.mem_cons_of_mem _ hv)) (by omega) (by
      rw [← List.drop_drop, hd2, List.drop_append, List.drop_length, Nat.sub_self, hz]; rfl) (by omega) (by rw [List.length_append, List.length_singleton]; omega)
    refine ⟨L, e1, ?_⟩
    rw [e2, List.append_assoc, List.map_append, List.map_append (l₁ := acc)]
    congr 1
theorem scan_back (l : List UInt8) (h : l.length ≤ 2000) (L : List Tk) (hs : scan l = (L, 0, 0)) : (joi true L).length ≤ 20000 ∧ L.length ≤ 2001 ∧ 0 < L.length ∧ ∃ M, scan (joi true L) = (M, 0, 0) ∧ M.map una = L.map una := by
  unfold scan at hs
  rw [if_neg (by omega)] at hs
  obtain ⟨A, t, rfl, hg, hA, ht, hk, hx, hv⟩ := scanF_good l _ 0 [] L (by omega) (by omega) (fun u hu => by cases hu) (by simp) (by rw [tot]; omega) hs
  have hj := joi_le true (A ++ [t])
  have e : shw t = [] := by rw [shw_else (by rw [hk]; decide), hx]
  rw [tot_append, tot, tot, e, List.length_nil] at hj
  refine ⟨by omega, by simp; omega, by simp, ?_⟩
  unfold scan
  rw [if_neg (by omega)]
  have := rescan (joi true (A ++ [t])) t hk hx hv A ((joi true (A ++ [t])).length + 1) 0 true [] hg (by omega) (by rw [List.drop_zero]) (by omega) (by simp; omega)
  rw [List.nil_append] at this
  exact this
theorem una_at {L M : List Tk} (h : M.map una = L.map una) : M.length = L.length ∧ ∀ (i : Nat) (hi : i < L.length) (hi' : i < M.length), M[i].k = L[i].k ∧ M[i].x = L[i].x ∧ M[i].v = L[i].v ∧ M[i].b = L[i].b := by
  have hl : M.length = L.length := by have := congrArg List.length h; simpa using this
  refine ⟨hl, fun i hi hi' => ?_⟩
  have h2 : (M.map una)[i]? = (L.map una)[i]? := by rw [h]
  rw [List.getElem?_map, List.getElem?_map, List.getElem?_eq_getElem hi, List.getElem?_eq_getElem hi'] at h2
  have h3 : una M[i] = una L[i] := Option.some.inj h2
  exact ⟨(congrArg Tk.k h3 : (una M[i]).k = (una L[i]).k), (congrArg Tk.x h3 : (una M[i]).x = (una L[i]).x), (congrArg Tk.v h3 : (una M[i]).v = (una L[i]).v), (congrArg Tk.b h3 : (una M[i]).b = (una L[i]).b)⟩
/-- What is wrong has no tokens. -/
theorem scanF_none : ∀ (f : Nat) (l : List UInt8) (e : Nat) (acc : List Tk), (scanF f l e acc).2.1 ≠ 0 → (scanF f l e acc).1 = []
  | 0, l, e, acc => fun h => absurd rfl h
  | f + 1, l, e, acc => by
    rw [scanF_succ]
    generalize gap l e = G at *
    obtain ⟨n, ln, ok⟩ := G
    unfold stp
    dsimp only
    split
    · exact fun _ => rfl
    · split
      · exact fun h => absurd rfl h
      · split
        · exact fun _ => rfl
        · split
          · exact scanF_none f l _ _
          · exact fun _ => rfl
theorem scan_none {l : List UInt8} : (scan l).2.1 ≠ 0 → (scan l).1 = [] := by
  unfold scan
  split
  · exact fun _ => rfl
  · exact scanF_none _ _ _ _
end Go.Proofs.YthjmlgbnpnfkgaaDoor.Lx
