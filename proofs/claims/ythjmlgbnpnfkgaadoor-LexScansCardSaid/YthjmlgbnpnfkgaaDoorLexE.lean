/- Two sources with a line end between (no program's run here). -/
import Derived.Test.YthjmlgbnpnfkgaaDoorLexD
set_option linter.unusedVariables false
namespace Go.Proofs.YthjmlgbnpnfkgaaDoor.Lx
open Go.RowKit Go.ChangeShapes Go.WideShapes Go.ChangeAt Go.Proofs.YthjmlgbnpnfkgaaDoor.Nu

theorem gap_app (lb : List UInt8) : ∀ (f : Nat) (x : List UInt8) (a : Nat) (b : Bool) (n : Nat) (ln : Bool) (g : Nat), x.length ≤ f → (x ++ 10 :: lb).length ≤ g → gapF f x a b = (n, ln, true) →
    (n < a + x.length ∧ gapF g (x ++ 10 :: lb) a b = (n, ln, true)) ∨ (n = a + x.length ∧ gapF g (x ++ 10 :: lb) a b = gapF lb.length lb (a + x.length + 1) true)
  | f, [], a, b, n, ln, g, hf, hg, h => by
    rw [gap_nil] at h
    obtain ⟨rfl, h⟩ := Prod.mk.inj h
    obtain ⟨q, rfl⟩ : ∃ q, g = q + 1 := ⟨g - 1, by simp at hg; omega⟩
    refine Or.inr ⟨rfl, ?_⟩
    rw [List.nil_append, gap_line rfl]
    exact gapF_fuel q lb.length lb _ _ (by simp at hg; omega) (Nat.le_refl _)
  | 0, c :: m, a, b, n, ln, g, hf, hg, h => by simp at hf
  | f + 1, c :: m, a, b, n, ln, 0, hf, hg, h => by simp at hg
  | f + 1, c :: m, a, b, n, ln, g + 1, hf, hg, h => by
    have hf' : m.length ≤ f := by simpa using hf
    have hg' : (m ++ 10 :: lb).length ≤ g := by simpa using hg
    have hlen : a + (c :: m).length = a + 1 + m.length := by rw [List.length_cons]; omega
    rw [gapF] at h
    rw [List.cons_append, gapF]
    by_cases h1 : c = 10
    · rw [if_pos h1] at h ⊢
      rw [hlen]
      exact gap_app lb f m _ _ n ln g hf' hg' h
    · rw [if_neg h1] at h ⊢
      by_cases h2 : c = 32 ∨ c = 9 ∨ c = 13
      · rw [if_pos h2] at h ⊢
        rw [hlen]
        exact gap_app lb f m _ _ n ln g hf' hg' h
      · rw [if_neg h2] at h ⊢
        rw [hp2_app c 10 47 47 m lb (by decide), hp2_app c 10 47 42 m lb (by decide)]
        by_cases h3 : c = 35 ∨ Lib.hasPrefix (c :: m) [47, 47] = true
        · rw [if_pos h3] at h ⊢
          obtain ⟨p1, p2⟩ := ll_pos (m := m) h1
          by_cases hin : 10 ∈ c :: m
          · have e1 : ll (c :: (m ++ 10 :: lb)) = ll (c :: m) := by rw [← List.cons_append]; exact ll_in _ _ hin
            have e2 : (c :: (m ++ 10 :: lb)).drop (ll (c :: m)) = (c :: m).drop (ll (c :: m)) ++ 10 :: lb := by rw [← List.cons_append]; exact List.drop_append_of_le_length p2
            rw [e1, e2]
            have e3 : a + (c :: m).length = a + ll (c :: m) + ((c :: m).drop (ll (c :: m))).length := by rw [List.length_drop]; omega
            rw [e3]
            exact gap_app lb f _ _ _ n ln g (by rw [List.length_drop, List.length_cons]; omega) (by simp only [List.length_append, List.length_drop, List.length_cons] at hg' ⊢; omega) h
          · obtain ⟨e1, e2⟩ := ll_out (c :: m) lb hin
            have e3 : (c :: (m ++ 10 :: lb)).drop (c :: m).length = 10 :: lb := by rw [← List.cons_append]; exact List.drop_left
            rw [e1, List.drop_length, gap_nil] at h
            obtain ⟨rfl, h⟩ := Prod.mk.inj h
            obtain ⟨q, rfl⟩ : ∃ q, g = q + 1 := ⟨g - 1, by simp at hg'; omega⟩
            refine Or.inr ⟨rfl, ?_⟩
            rw [show ll (c :: (m ++ 10 :: lb)) = (c :: m).length from e2, e3, gap_line rfl]
            exact gapF_fuel q lb.length lb _ _ (by simp at hg'; omega) (Nat.le_refl _)
        · rw [if_neg h3] at h ⊢
          by_cases h4 : Lib.hasPrefix (c :: m) [47, 42] = true
          · rw [if_pos h4] at h ⊢
            by_cases h5 : nl (c :: m) = 0
            · rw [if_pos h5] at h; cases (Prod.mk.inj (Prod.mk.inj h).2).2
            · rw [if_neg h5] at h
              have p1 := nl_le' _ h5
              have p2 := nl_le (c :: m)
              have e1 : nl (c :: (m ++ 10 :: lb)) = nl (c :: m) := by rw [← List.cons_append]; exact nl_app _ _ (by cases m with | nil => simp [Lib.hasPrefix, List.isPrefixOf] at h4 | cons d m => simp) h5
              have e2 : (c :: (m ++ 10 :: lb)).drop (nl (c :: m)) = (c :: m).drop (nl (c :: m)) ++ 10 :: lb := by rw [← List.cons_append]; exact List.drop_append_of_le_length p2
              have e4 : (c :: (m ++ 10 :: lb)).take (nl (c :: m)) = (c :: m).take (nl (c :: m)) := by rw [← List.cons_append]; exact List.take_append_of_le_length p2
              rw [e1, e2, e4, if_neg h5]
              have e3 : a + (c :: m).length = a + nl (c :: m) + ((c :: m).drop (nl (c :: m))).length := by rw [List.length_drop]; omega
              rw [e3]
              exact gap_app lb f _ _ _ n ln g (by rw [List.length_drop, List.length_cons]; omega) (by simp only [List.length_append, List.length_drop, List.length_cons] at hg' ⊢; omega) h
          · rw [if_neg h4] at h ⊢
            have h6 := (Prod.mk.inj h).1
            have h7 := (Prod.mk.inj (Prod.mk.inj h).2).1
            exact Or.inl ⟨by rw [List.length_cons]; omega, by rw [h6, h7]⟩
/-- A step of Scan, behind the gap. -/
def stp (f : Nat) (l : List UInt8) (acc : List Tk) (G : Nat × Bool × Bool) : List Tk × Int × Int :=
  if G.2.2 = false then ([], 5, (G.1 : Int))
  else if G.1 = l.length then (acc ++ [⟨6, (G.1 : Int), [], 0, G.2.1⟩], 0, 0)
  else if acc.length = 65536 then ([], 2, (G.1 : Int))
  else if (frs (l.drop G.1)).c = 0 then scanF f l (G.1 + (frs (l.drop G.1)).n) (acc ++ [⟨(frs (l.drop G.1)).k, (G.1 : Int), (frs (l.drop G.1)).x, (frs (l.drop G.1)).v, G.2.1⟩])
  else ([], (frs (l.drop G.1)).c, (G.1 : Int) + (frs (l.drop G.1)).a)
theorem scanF_succ (f : Nat) (l : List UInt8) (e : Nat) (acc : List Tk) : scanF (f + 1) l e acc = stp f l acc (gap l e) := rfl
def sh (k : Nat) (t : Tk) : Tk := { t with a := t.a + (k : Int) }
/-- The same tokens so much later, the first of them with a line's mark of its own; or the same fault so much later. -/
def Later (k : Nat) (ln ln' : Bool) (acc accb : List Tk) (R Rb : List Tk × Int × Int) : Prop :=
  ∃ (t : Tk) (T : List Tk) (c a : Int), (c = 0 → t.b = ln) ∧ Rb = (if c = 0 then (accb ++ t :: T, 0, 0) else ([], c, a)) ∧ R = (if c = 0 then (acc ++ (sh k { t with b := ln' }) :: T.map (sh k), 0, 0) else ([], c, a + k))
def Late (k : Nat) (acc accb : List Tk) (R Rb : List Tk × Int × Int) : Prop :=
  ∃ (T : List Tk) (c a : Int), Rb = (if c = 0 then (accb ++ T, 0, 0) else ([], c, a)) ∧ R = (if c = 0 then (acc ++ T.map (sh k), 0, 0) else ([], c, a + k))
theorem late_of {k : Nat} {ln : Bool} {acc accb : List Tk} {R Rb : List Tk × Int × Int} (h : Later k ln ln acc accb R Rb) : Late k acc accb R Rb := by
  obtain ⟨t, T, c, a, h1, h2, h3⟩ := h
  refine ⟨t :: T, c, a, h2, ?_⟩
  rw [h3]
  by_cases hc : c = 0
  · rw [if_pos hc, if_pos hc, ← h1 hc]; rfl
  · rw [if_neg hc, if_neg hc]
theorem frs_cd (l : List UInt8) (h : 0 < l.length) : ((frs l).c = 0 ∧ 1 ≤ (frs l).n ∧ (frs l).n ≤ l.length) ∨ (frs l).c ≠ 0 := by
  cases l with
  | nil => cases h
  | cons c m => rcases frs_bd c m with h1 | h1; exact Or.inl h1; exact Or.inr h1.1
theorem stp_later {f g : Nat} {W lb : List UInt8} {k : Nat} (hW : W.drop k = lb) (hk : W.length = k + lb.length)
    (ih : ∀ (e : Nat) (acc accb : List Tk), e ≤ lb.length → lb.length + 1 ≤ f + e → lb.length + 1 ≤ g + e → acc.length + (lb.length - e) < 65536 → accb.length + (lb.length - e) < 65536 → Late k acc accb (scanF g W (e + k) acc) (scanF f lb e accb))
    (n : Nat) (hn : n ≤ lb.length) (ln ln' ok : Bool) (acc accb : List Tk) (hf : lb.length + 1 ≤ f + 1 + n) (hg : lb.length + 1 ≤ g + 1 + n) (h1 : acc.length + (lb.length - n) < 65536) (h2 : accb.length + (lb.length - n) < 65536) :
    Later k ln ln' acc accb (stp g W acc (n + k, ln', ok)) (stp f lb accb (n, ln, ok)) := by
  have hd : W.drop (n + k) = lb.drop n := by rw [← hW, List.drop_drop, Nat.add_comm]
  unfold stp
  dsimp only
  cases ok
  · rw [if_pos rfl, if_pos rfl]
    exact ⟨⟨0, 0, [], 0, false⟩, [], 5, n, (fun h => absurd h (by decide)), rfl, by rw [if_neg (by decide)]; simp⟩
  · rw [if_neg (show ¬ true = false by decide), if_neg (show ¬ true = false by decide), hd]
    by_cases hend : n = lb.length
    · rw [if_pos (show n + k = W.length by omega), if_pos hend]
      refine ⟨⟨6, n, [], 0, ln⟩, [], 0, 0, (fun _ => rfl), rfl, ?_⟩
      rw [if_pos rfl]
      simp [sh]
    · rw [if_neg (show ¬ n + k = W.length by omega), if_neg hend, if_neg (show ¬ acc.length = 65536 by omega), if_neg (show ¬ accb.length = 65536 by omega)]
      have hb := frs_cd (lb.drop n) (by rw [List.length_drop]; omega)
      rw [List.length_drop] at hb
      generalize frs (lb.drop n) = F at *
      rcases hb with ⟨hc, hn1, hn2⟩ | hc
      · rw [if_pos hc, if_pos hc]
        have hi := ih (n + F.n) (acc ++ [⟨F.k, ((n + k : Nat) : Int), F.x, F.v, ln'⟩]) (accb ++ [⟨F.k, (n : Int), F.x, F.v, ln⟩]) (by omega) (by omega) (by omega) (by rw [List.length_append, List.length_singleton]; omega) (by rw [List.length_append, List.length_singleton]; omega)
        obtain ⟨T, c, a, e1, e2⟩ := hi
        refine ⟨⟨F.k, (n : Int), F.x, F.v, ln⟩, T, c, a, (fun _ => rfl), ?_, ?_⟩
        · rw [e1]; simp
        · rw [show n + k + F.n = n + F.n + k by omega, e2]; simp [sh]
      · rw [if_neg hc, if_neg hc]
        refine ⟨⟨0, 0, [], 0, false⟩, [], F.c, (n : Int) + F.a, (fun h => absurd h hc), by rw [if_neg hc], ?_⟩
        rw [if_neg hc, Int.natCast_add]
        have : (n : Int) + (k : Int) + F.a = (n : Int) + F.a + (k : Int) := by omega
        rw [this]
theorem scan_late {W lb : List UInt8} {k : Nat} (hW : W.drop k = lb) (hk : W.length = k + lb.length) : ∀ (f g e : Nat) (acc accb : List Tk), e ≤ lb.length → lb.length + 1 ≤ f + e → lb.length + 1 ≤ g + e → acc.length + (lb.length - e) < 65536 → accb.length + (lb.length - e) < 65536 → Late k acc accb (scanF g W (e + k) acc) (scanF f lb e accb)
  | 0, g, e, acc, accb, h1, h2, h3, h4, h5 => by omega
  | f + 1, 0, e, acc, accb, h1, h2, h3, h4, h5 => by omega
  | f + 1, g + 1, e, acc, accb, h1, h2, h3, h4, h5 => by
    rw [scanF_succ, scanF_succ]
    have hd : W.drop (e + k) = lb.drop e := by rw [← hW, List.drop_drop, Nat.add_comm]
    have hgap : gap W (e + k) = ((gap lb e).1 + k, (gap lb e).2.1, (gap lb e).2.2) := by
      unfold gap
      rw [hd, gapF_shift, gapF_fuel W.length lb.length _ _ _ (by rw [List.length_drop]; omega) (by rw [List.length_drop]; omega)]
    obtain ⟨g1, g2⟩ := gap_le lb e h1
    rw [hgap]
    exact late_of (stp_later hW hk (fun e' acc' accb' => scan_late hW hk f g e' acc' accb') (gap lb e).1 g2 (gap lb e).2.1 (gap lb e).2.1 (gap lb e).2.2 acc accb (by omega) (by omega) (by omega) (by omega))
/-- What a source has, and what is behind it, a line end between. -/
theorem scan_front (la lb : List UInt8) : ∀ (f g e : Nat) (acc L : List Tk), e ≤ la.length → la.length + 1 ≤ f + e → (la ++ 10 :: lb).length + 1 ≤ g + e → acc.length ≤ e → la.length < 65536 → scanF f la e acc = (L, 0, 0) →
    ∃ (acc' : List Tk) (t : Tk) (g' : Nat), L = acc' ++ [t] ∧ acc'.length ≤ la.length ∧ lb.length + 1 ≤ g' + 1 ∧ scanF g (la ++ 10 :: lb) e acc = stp g' (la ++ 10 :: lb) acc' (gapF lb.length lb (la.length + 1) true)
  | 0, g, e, acc, L, h1, h2, h3, h4, h5, h => by omega
  | f + 1, 0, e, acc, L, h1, h2, h3, h4, h5, h => by rw [List.length_append] at h3; omega
  | f + 1, g + 1, e, acc, L, h1, h2, h3, h4, h5, h => by
    rw [scanF_succ] at h
    rw [scanF_succ]
    obtain ⟨p1, p2⟩ := gap_le la e h1
    have hd : ∀ n, n ≤ la.length → (la ++ 10 :: lb).drop n = la.drop n ++ 10 :: lb := fun n hn => List.drop_append_of_le_length hn
    have hgp : ∀ n ln, gap la e = (n, ln, true) → (n < la.length ∧ gap (la ++ 10 :: lb) e = (n, ln, true)) ∨ (n = la.length ∧ gap (la ++ 10 :: lb) e = gapF lb.length lb (la.length + 1) true) := fun n ln hG => by
      have := gap_app lb la.length (la.drop e) e false n ln (la ++ 10 :: lb).length (by rw [List.length_drop]; omega) (by rw [← hd e h1, List.length_drop]; omega) hG
      rw [List.length_drop, show e + (la.length - e) = la.length by omega] at this
      unfold gap
      rw [hd e h1]; exact this
    generalize gap la e = G at *
    obtain ⟨n, ln, ok⟩ := G
    unfold stp at h
    dsimp only at h p1 p2
    cases ok
    · rw [if_pos rfl] at h
      exact absurd (Prod.mk.inj (Prod.mk.inj h).2).1 (by decide)
    · rw [if_neg (by simp)] at h
      rcases hgp n ln rfl with ⟨q1, q2⟩ | ⟨q1, q2⟩
      · rw [if_neg (by omega), if_neg (by omega)] at h
        rw [q2]
        unfold stp
        dsimp only
        rw [if_neg (by simp), if_neg (by rw [List.length_append]; omega), if_neg (by omega), hd n (by omega)]
        obtain ⟨c, m, hcm⟩ : ∃ c m, la.drop n = c :: m := by
          cases hx : la.drop n with
          | nil => have := congrArg List.length hx; rw [List.length_drop] at this; simp at this; omega
          | cons c m => exact ⟨c, m, rfl⟩
        have hb := frs_bd c m
        rw [← hcm] at hb
        by_cases hc : (frs (la.drop n)).c = 0
        · have hfa : frs (la.drop n ++ 10 :: lb) = frs (la.drop n) := by rw [hcm] at hc ⊢; exact frs_app (Or.inl rfl) c m lb hc
          rw [if_pos hc] at h
          rw [hfa, if_pos hc]
          have hb2 := hb.resolve_right (fun x => x.1 hc)
          rw [List.length_drop] at hb2
          exact scan_front la lb f g _ _ L (by omega) (by omega) (by omega) (by rw [List.length_append, List.length_singleton]; omega) h5 h
        · rw [if_neg hc] at h
          exact absurd (Prod.mk.inj (Prod.mk.inj h).2).1 hc
      · rw [if_pos q1] at h
        rw [q2]
        exact ⟨acc, _, g, (Prod.mk.inj h).1.symm, by omega, by rw [List.length_append, List.length_cons] at h3; omega, rfl⟩
/-- What two sources have, a line end between. -/
theorem scan_two_of (la lb : List UInt8) (ha : la.length ≤ 1000) (hb : lb.length ≤ 1000) (La : List Tk) (h : scan la = (La, 0, 0)) :
    ∃ (acc : List Tk) (t : Tk), La = acc ++ [t] ∧ acc.length ≤ 1000 ∧ ∃ (t1 : Tk) (T : List Tk) (c a : Int), scan lb = (if c = 0 then (t1 :: T, 0, 0) else ([], c, a)) ∧
      scan (la ++ 10 :: lb) = (if c = 0 then (acc ++ (sh (la.length + 1) { t1 with b := true }) :: T.map (sh (la.length + 1)), 0, 0) else ([], c, a + ((la.length + 1 : Nat) : Int))) := by
  unfold scan at h ⊢
  rw [if_neg (by omega)] at h
  have hlen : (la ++ 10 :: lb).length = la.length + 1 + lb.length := by rw [List.length_append, List.length_cons]; omega
  obtain ⟨acc, t, g', e1, e2, e3, e4⟩ := scan_front la lb _ ((la ++ 10 :: lb).length + 1) 0 [] La (by omega) (by omega) (by omega) (by simp) (by omega) h
  refine ⟨acc, t, e1, by omega, ?_⟩
  rw [if_neg (by omega), if_neg (by omega), e4, scanF_succ]
  have hdrop : (la ++ 10 :: lb).drop (la.length + 1) = lb := by
    rw [List.drop_append, List.drop_eq_nil_of_le (by omega), List.nil_append, show la.length + 1 - la.length = 1 by omega]; rfl
  have hgl := gap_le lb 0 (by omega)
  have htr := gapF_true lb.length lb 0 false
  have hG : gap lb 0 = gapF lb.length lb 0 false := by unfold gap; rw [List.drop_zero]
  rw [← hG] at htr
  have hsh := gapF_shift (la.length + 1) lb.length lb 0 true
  rw [Nat.zero_add] at hsh
  generalize gap lb 0 = G at *
  obtain ⟨n, ln, ok⟩ := G
  generalize gapF lb.length lb 0 true = G2 at *
  obtain ⟨n2, ln2, ok2⟩ := G2
  dsimp only at htr hgl hsh
  obtain ⟨rfl, rfl, hl2⟩ := htr
  rw [hsh]
  have key := stp_later (f := lb.length) (g := g') hdrop hlen (fun e acc accb => scan_late hdrop hlen lb.length g' e acc accb) n2 (by omega) ln ln2 ok2 acc [] (by omega) (by omega) (by omega) (by simp; omega)
  obtain ⟨t1, T, c, a, k1, k2, k3⟩ := key
  refine ⟨t1, T, c, a, by rw [k2]; rfl, ?_⟩
  rw [k3]
  by_cases hc : c = 0
  · rw [if_pos hc, if_pos hc]
    have hok : ok2 = true := by
      cases ok2
      · unfold stp at k2
        rw [if_pos rfl, if_pos hc] at k2
        exact absurd (Prod.mk.inj (Prod.mk.inj k2).2).1 (by decide)
      · rfl
    rw [hl2 hok]
  · rw [if_neg hc, if_neg hc]
end Go.Proofs.YthjmlgbnpnfkgaaDoor.Lx
