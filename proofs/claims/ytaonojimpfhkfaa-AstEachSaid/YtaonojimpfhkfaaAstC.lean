/- kids: has a node the kids that it needs? -/
import Derived.Test.YtaonojimpfhkfaaAstB
namespace Go.Proofs.Ytaonojimpfhkfaa.As
open Go.RowKit Go.ChangeShapes Go.WideShapes Go.ChangeAt

set_option maxRecDepth 100000 in
set_option maxHeartbeats 4000000 in
theorem kids_any {B B2 cb kb db cap c : Nat} {A KA : Option Addr} {w : World} {L : List Nd} {K : List Bool} {D : List Int} {ks : List Int} (n : Nd) (h : Ck B cb kb db A cap w L K D) (hl : L.length ≤ 1000000) (hr : RowI w w.heap.size KA ks) (hk : ks.length ≤ 1000000) (hkc : ks.length ≤ c)
    (hn : RowI w B2 n.ka n.kids) (hB2 : B2 ≤ w.heap.size) (hnl : n.kids.length = ks.length) (hnc : n.kids.length ≤ n.kc)
    (hx : headB ks .e (.one [24]) = true → ∀ x ∈ n.kids.drop 1, ∃ (i : Nat) (m : Nd) (y : Int) (r : List Int), x = (i : Int) ∧ L[i]? = some m ∧ m.kids = y :: r) :
    Calls Try.prog 44 #[.pointer (some ⟨cb, 0, none⟩), nv n, .slice KA ks.length c] w fun e w' => e = .returned (.bool (kidsB L n ks)) ∧ Below w.heap.size w w' := by
  generalize hR : kidsB L n ks = R
  have HR := Lib.hid hR
  clear hR
  obtain ⟨k, loc, text, num, kids, ka, kc⟩ := n
  unfold nv
  simp only at hn hnl hnc hx ⊢
  have hb := bel1 w (.cells #[.int .i64 k, .int .i64 loc, .string text, .int .i64 num, .slice ka kids.length kc] 37)
  have hnew := new1 w (.cells #[.int .i64 k, .int .i64 loc, .string text, .int .i64 num, .slice ka kids.length kc] 37)
  have HB := Lib.hid hb
  have HN := Lib.hid hnew
  have hkb : ks.length ≤ 1000000 := hk
  by_cases h34 : k = 34
  · subst h34
    have HE : Hid (kidsB L ⟨34, loc, text, num, kids, ka, kc⟩ ks = (headB ks .e (.one [24]) && decide (defs L (kids.drop 1) ≤ 1))) := rfl
    cases hhb : headB ks .e (.one [24])
    · have HHB := Lib.hid hhb
      have HKR := Lib.hid hr
      clear h hr hn hx hhb hb hnew hnl hnc hk hl HN HB
      go_enter Try.func44, Try.ntmps44
      go_wp2_with fail
      refine (mkone_any (w := (w.alloc (.cells #[.int .i64 34, .int .i64 loc, .string text, .int .i64 num, .slice ka kids.length kc] 37)).alloc (.cells #[.int .i64 24] 3)) (ks := [24]) (c := 1) (rowI_new (new2 w _ _) (by simp)) (by decide)).mono ?_
      rintro e w1 ⟨v1, rfl, hv1, hb1⟩
      have hz := (bel2 w (.cells #[.int .i64 34, .int .i64 loc, .string text, .int .i64 num, .slice ka kids.length kc] 37) (.cells #[.int .i64 24] 3)).trans (hb1.mono (by simp; omega))
      have hC := headed_e (w := w1) (B2 := 0) (B3 := w1.heap.size) (c := c) (v := .func (.func 21) #[] #[]) (.one [24]) (HKR.out.below (B' := w.heap.size) hz (Nat.le_refl _) (Nat.le_refl _)) hkb hkc rfl hv1
      rw [HHB.out] at hC
      have HC := Lib.hid hC
      have HZ := Lib.hid hz
      clear hC hz hv1 hb1
      go_wp2_with fail
      refine HC.out.mono ?_
      rintro e w' ⟨rfl, rfl⟩
      go_wp2_with fail
      go_ret
      exact ⟨ret_b (by rw [← HR.out, HE.out, HHB.out]; rfl), HZ.out⟩
    · have HHB := Lib.hid hhb
      have HKR := Lib.hid hr
      have HH := Lib.hid h
      have HL := Lib.hid hl
      have hX := hx hhb
      have hpos : 0 < ks.length := by
        cases ks with
        | nil => cases hhb
        | cons _ _ => simp
      obtain ⟨y, r, rfl⟩ : ∃ y r, kids = y :: r := by
        cases kids with
        | nil => simp at hnl; omega
        | cons y r => exact ⟨y, r, rfl⟩
      obtain ⟨g, o, rfl, hg, _⟩ := hn.some_
      have HT := Lib.hid hn.tail
      replace hX : ∀ x ∈ r, ∃ (i : Nat) (m : Nd) (y : Int) (r : List Int), x = (i : Int) ∧ L[i]? = some m ∧ m.kids = y :: r := hX
      have HX := Lib.hid hX
      have HRL : Hid ((y :: r).length = r.length + 1) := rfl
      have hrl : r.length ≤ 1000000 := by simp at hnl; omega
      have HRB := Lib.hid hrl
      generalize hN : (y :: r).length = N at *
      have hN1 : (1 : Int) ≤ (N : Int) := by have := HRL.out; omega
      have hN2 : ¬ (N : Int) < 1 := by omega
      have hNc : (N : Int) ≤ (kc : Int) := by omega
      have hd := Nat.le_trans (defs_le L r) hrl
      have HDB := Lib.hid hd
      have HE2 : Hid (kidsB L ⟨34, loc, text, num, y :: r, some ⟨g, o, none⟩, kc⟩ ks = decide (defs L r ≤ 1)) := by
        show _ = _
        rw [HE.out, HHB.out]; rfl
      have HN0 := Lib.hid hN
      clear h hr hn hx hX hhb hb hnew hnl hk hl HN HB hrl hd hN HE
      by_cases hc1 : kc = 1
      · subst hc1
        have hr0 : r = [] := List.eq_nil_of_length_eq_zero (by have := HRL.out; omega)
        subst hr0
        have HD0 : Hid (∀ W, Below w.heap.size w W → Calls Try.prog 55 #[.pointer (some ⟨cb, 0, none⟩), .slice (some ⟨g, o, none⟩) 0 0] W fun e w' => e = .returned (.int .i64 0) ∧ W = w') := fun W hW =>
          defaults_any (kc := 0) (HH.out.below hW) HL.out (RowI.below (w := W) (B := 0) (C := 0) (Or.inl rfl) (Below.refl _ _) (Nat.le_refl _) (Nat.le_refl 0)) (by simp) (fun x hx => by simp at hx)
        go_enter Try.func44, Try.ntmps44
        go_wp2_with fail
        refine (mkone_any (w := (w.alloc (.cells #[.int .i64 34, .int .i64 loc, .string text, .int .i64 num, .slice (some ⟨g, o, none⟩) N 1] 37)).alloc (.cells #[.int .i64 24] 3)) (ks := [24]) (c := 1) (rowI_new (new2 w _ _) (by simp)) (by decide)).mono ?_
        rintro e w1 ⟨v1, rfl, hv1, hb1⟩
        have hz := (bel2 w (.cells #[.int .i64 34, .int .i64 loc, .string text, .int .i64 num, .slice (some ⟨g, o, none⟩) N 1] 37) (.cells #[.int .i64 24] 3)).trans (hb1.mono (by simp; omega))
        have hbox : w1.heap[w.heap.size]? = some (.cells #[.int .i64 34, .int .i64 loc, .string text, .int .i64 num, .slice (some ⟨g, o, none⟩) N 1] 37 (0, 0)) := (hb1.block _ (by simp; omega)).trans ((heap_alloc_old _ _ (by simp)).trans (new1 w _))
        have f4 : w1.cell? ⟨w.heap.size, 4, none⟩ = some (.slice (some ⟨g, o, none⟩) N 1) := by rw [cell_of_row _ _ _ _ _ _ hbox]; rfl
        have hC := headed_e (w := w1) (B2 := 0) (B3 := w1.heap.size) (c := c) (v := .func (.func 21) #[] #[]) (.one [24]) (HKR.out.below (B' := w.heap.size) hz (Nat.le_refl _) (Nat.le_refl _)) hkb hkc rfl hv1
        rw [HHB.out] at hC
        have HC := Lib.hid hC
        have HD := Lib.hid (HD0.out w1 hz)
        have HZ := Lib.hid hz
        clear hC hz hv1 hb1 hbox
        go_wp2_with fail
        refine HC.out.mono ?_
        rintro e w' ⟨rfl, rfl⟩
        go_wp2_with fail
        refine HD.out.mono ?_
        rintro e w' ⟨rfl, rfl⟩
        go_wp2_with fail
        go_ret
        exact ⟨ret_b (by rw [← HR.out, HE2.out, decide_eq_true (show defs L [] ≤ 1 from Nat.zero_le 1)]), HZ.out⟩
      · have HD0 : Hid (∀ W, Below w.heap.size w W → Calls Try.prog 55 #[.pointer (some ⟨cb, 0, none⟩), .slice (some ⟨g, o + 1, none⟩) (N - 1) (kc - 1)] W fun e w' => e = .returned (.int .i64 (defs L r : Nat)) ∧ W = w') := fun W hW => by
          have := defaults_any (kc := kc - 1) (HH.out.below hW) HL.out (HT.out.below (B' := w.heap.size) hW hB2 hB2) HRB.out HX.out
          rw [show r.length = N - 1 by have := HRL.out; omega] at this
          exact this
        generalize defs L r = d at *
        have hd0 := HDB.out
        by_cases hd1 : d ≤ 1
        · have hd2 : (d : Int) ≤ 1 := by omega
          go_enter Try.func44, Try.ntmps44
          go_wp2_with fail
          refine (mkone_any (w := (w.alloc (.cells #[.int .i64 34, .int .i64 loc, .string text, .int .i64 num, .slice (some ⟨g, o, none⟩) N kc] 37)).alloc (.cells #[.int .i64 24] 3)) (ks := [24]) (c := 1) (rowI_new (new2 w _ _) (by simp)) (by decide)).mono ?_
          rintro e w1 ⟨v1, rfl, hv1, hb1⟩
          have hz := (bel2 w (.cells #[.int .i64 34, .int .i64 loc, .string text, .int .i64 num, .slice (some ⟨g, o, none⟩) N kc] 37) (.cells #[.int .i64 24] 3)).trans (hb1.mono (by simp; omega))
          have hbox : w1.heap[w.heap.size]? = some (.cells #[.int .i64 34, .int .i64 loc, .string text, .int .i64 num, .slice (some ⟨g, o, none⟩) N kc] 37 (0, 0)) := (hb1.block _ (by simp; omega)).trans ((heap_alloc_old _ _ (by simp)).trans (new1 w _))
          have f4 : w1.cell? ⟨w.heap.size, 4, none⟩ = some (.slice (some ⟨g, o, none⟩) N kc) := by rw [cell_of_row _ _ _ _ _ _ hbox]; rfl
          have hC := headed_e (w := w1) (B2 := 0) (B3 := w1.heap.size) (c := c) (v := .func (.func 21) #[] #[]) (.one [24]) (HKR.out.below (B' := w.heap.size) hz (Nat.le_refl _) (Nat.le_refl _)) hkb hkc rfl hv1
          rw [HHB.out] at hC
          have HC := Lib.hid hC
          have HD := Lib.hid (HD0.out w1 hz)
          have HZ := Lib.hid hz
          clear hC hz hv1 hb1 hbox
          go_wp2_with fail
          refine HC.out.mono ?_
          rintro e w' ⟨rfl, rfl⟩
          go_wp2_with fail
          refine HD.out.mono ?_
          rintro e w' ⟨rfl, rfl⟩
          go_wp2_with fail
          go_ret
          exact ⟨ret_b (by rw [← HR.out, HE2.out, decide_eq_true hd1]), HZ.out⟩
        · have hd2 : ¬ (d : Int) ≤ 1 := by omega
          go_enter Try.func44, Try.ntmps44
          go_wp2_with fail
          refine (mkone_any (w := (w.alloc (.cells #[.int .i64 34, .int .i64 loc, .string text, .int .i64 num, .slice (some ⟨g, o, none⟩) N kc] 37)).alloc (.cells #[.int .i64 24] 3)) (ks := [24]) (c := 1) (rowI_new (new2 w _ _) (by simp)) (by decide)).mono ?_
          rintro e w1 ⟨v1, rfl, hv1, hb1⟩
          have hz := (bel2 w (.cells #[.int .i64 34, .int .i64 loc, .string text, .int .i64 num, .slice (some ⟨g, o, none⟩) N kc] 37) (.cells #[.int .i64 24] 3)).trans (hb1.mono (by simp; omega))
          have hbox : w1.heap[w.heap.size]? = some (.cells #[.int .i64 34, .int .i64 loc, .string text, .int .i64 num, .slice (some ⟨g, o, none⟩) N kc] 37 (0, 0)) := (hb1.block _ (by simp; omega)).trans ((heap_alloc_old _ _ (by simp)).trans (new1 w _))
          have f4 : w1.cell? ⟨w.heap.size, 4, none⟩ = some (.slice (some ⟨g, o, none⟩) N kc) := by rw [cell_of_row _ _ _ _ _ _ hbox]; rfl
          have hC := headed_e (w := w1) (B2 := 0) (B3 := w1.heap.size) (c := c) (v := .func (.func 21) #[] #[]) (.one [24]) (HKR.out.below (B' := w.heap.size) hz (Nat.le_refl _) (Nat.le_refl _)) hkb hkc rfl hv1
          rw [HHB.out] at hC
          have HC := Lib.hid hC
          have HD := Lib.hid (HD0.out w1 hz)
          have HZ := Lib.hid hz
          clear hC hz hv1 hb1 hbox
          go_wp2_with fail
          refine HC.out.mono ?_
          rintro e w' ⟨rfl, rfl⟩
          go_wp2_with fail
          refine HD.out.mono ?_
          rintro e w' ⟨rfl, rfl⟩
          go_wp2_with fail
          go_ret
          exact ⟨ret_b (by rw [← HR.out, HE2.out, decide_eq_false hd1]; simp; omega), HZ.out⟩
  · have h34b : (k == 34) = false := by simpa using h34
    have HKR := Lib.hid hr
    cases hs : isS k
    · have HE : Hid (exB ⟨k, loc, text, num, kids, ka, kc⟩ ks = R) := by
        show _ = _
        rw [← HR.out]
        unfold kidsB
        simp only
        rw [if_neg h34, hs, if_neg (by decide)]
      have HS : Hid (∀ W, Calls Try.prog 23 #[.int .i64 k] W fun e w' => e = .returned (.bool false) ∧ W = w') := fun W => by have := stmt_any k W; rw [hs] at this; exact this
      have HC := Lib.hid (exprKids_any (c := c) ⟨k, loc, text, num, kids, ka, kc⟩ (hr.below (B' := (w.alloc (.cells #[.int .i64 k, .int .i64 loc, .string text, .int .i64 num, .slice ka kids.length kc] 37)).heap.size) hb (Nat.le_refl _) (by simp)) hkb hkc)
      unfold nv at HC
      simp only at HC
      clear h hr hn hx hb hnew hnl hnc hk hl h34 hs
      go_enter Try.func44, Try.ntmps44
      go_wp2_with fail
      refine (HS.out _).mono ?_
      rintro e w' ⟨rfl, rfl⟩
      go_wp2_with fail
      refine HC.out.mono ?_
      rintro e w' ⟨rfl, hb2⟩
      go_wp2_with fail
      go_ret
      exact ⟨ret_b HE.out, HB.out.trans (hb2.mono (by simp))⟩
    · have HE : Hid (stB k ks = R) := by
        show _ = _
        rw [← HR.out]
        unfold kidsB
        simp only
        rw [if_neg h34, hs, if_pos rfl]
      have HS : Hid (∀ W, Calls Try.prog 23 #[.int .i64 k] W fun e w' => e = .returned (.bool true) ∧ W = w') := fun W => by have := stmt_any k W; rw [hs] at this; exact this
      have HC := Lib.hid (stmtKids_any (c := c) k (hr.below (B' := (w.alloc (.cells #[.int .i64 k, .int .i64 loc, .string text, .int .i64 num, .slice ka kids.length kc] 37)).heap.size) hb (Nat.le_refl _) (by simp)) hkb)
      clear h hr hn hx hb hnew hnl hnc hk hl h34 hs
      go_enter Try.func44, Try.ntmps44
      go_wp2_with fail
      refine (HS.out _).mono ?_
      rintro e w' ⟨rfl, rfl⟩
      go_wp2_with fail
      refine HC.out.mono ?_
      rintro e w' ⟨rfl, hb2⟩
      go_wp2_with fail
      go_ret
      exact ⟨ret_b HE.out, HB.out.trans (hb2.mono (by simp))⟩
end Go.Proofs.Ytaonojimpfhkfaa.As
