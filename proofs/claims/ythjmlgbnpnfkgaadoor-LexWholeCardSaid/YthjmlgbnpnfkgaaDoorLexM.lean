/- Where three rows of tokens lie. -/
import Derived.Test.YthjmlgbnpnfkgaaDoorLexE
import Derived.Test.YthjmlgbnpnfkgaaDoorLexS
set_option linter.unusedVariables false
namespace Go.Proofs.YthjmlgbnpnfkgaaDoor.Lx
open Go.RowKit Go.ChangeShapes Go.WideShapes Go.ChangeAt Go.Proofs.YthjmlgbnpnfkgaaDoor.Nu

theorem scanF_at : ∀ (f : Nat) (l : List UInt8) (e : Nat) (acc : List Tk), e ≤ l.length → 0 ≤ (scanF f l e acc).2.2 ∧ (scanF f l e acc).2.2 ≤ l.length
  | 0, l, e, acc, h => by rw [scanF]; exact ⟨Int.le_refl _, by show (0 : Int) ≤ _; omega⟩
  | f + 1, l, e, acc, h => by
    obtain ⟨p1, p2⟩ := gap_le l e h
    rw [scanF_succ]
    generalize gap l e = G at *
    obtain ⟨n, ln, ok⟩ := G
    unfold stp
    dsimp only at p1 p2 ⊢
    split
    · exact ⟨by show (0 : Int) ≤ (n : Int); omega, by show (n : Int) ≤ _; omega⟩
    · split
      · exact ⟨by show (0 : Int) ≤ 0; omega, by show (0 : Int) ≤ _; omega⟩
      · split
        · exact ⟨by show (0 : Int) ≤ (n : Int); omega, by show (n : Int) ≤ _; omega⟩
        · rename_i hne _
          obtain ⟨c, m, hcm⟩ : ∃ c m, l.drop n = c :: m := by
            cases hx : l.drop n with
            | nil => have := congrArg List.length hx; rw [List.length_drop] at this; simp at this; omega
            | cons c m => exact ⟨c, m, rfl⟩
          have hb := frs_bd c m
          rw [← hcm, List.length_drop] at hb
          generalize frs (l.drop n) = F at *
          split
          · exact scanF_at f l _ _ (by omega)
          · exact ⟨by show (0 : Int) ≤ (n : Int) + F.a; omega, by show (n : Int) + F.a ≤ _; omega⟩
theorem scan_at (l : List UInt8) : 0 ≤ (scan l).2.2 ∧ (scan l).2.2 ≤ l.length := by
  unfold scan
  split
  · exact ⟨Int.le_refl _, by show (0 : Int) ≤ _; omega⟩
  · exact scanF_at _ _ _ _ (Nat.zero_le _)
theorem wrap_small (x : Int) (h0 : -1000000 ≤ x) (h1 : x ≤ 1000000) : wrap64 x = x := by unfold wrap64; omega
theorem same_sh (acc T : List Tk) (k : Nat) (i : Nat) (h : i < (acc ++ T.map (sh k)).length) (h' : i < (acc ++ T).length) :
    (acc ++ T)[i].k = (acc ++ T.map (sh k))[i].k ∧ (acc ++ T)[i].x = (acc ++ T.map (sh k))[i].x ∧ (acc ++ T)[i].v = (acc ++ T.map (sh k))[i].v ∧ (acc ++ T)[i].b = (acc ++ T.map (sh k))[i].b := by
  by_cases hi : i < acc.length
  · rw [List.getElem_append_left hi, List.getElem_append_left hi]; exact ⟨rfl, rfl, rfl, rfl⟩
  · rw [List.getElem_append_right (by omega), List.getElem_append_right (by omega), List.getElem_map]; exact ⟨rfl, rfl, rfl, rfl⟩
theorem flatT_mark (t : Tk) (T : List Tk) : (flatT (t :: T)).set 4 (.bool true) = flatT ({ t with b := true } :: T) := rfl
theorem flatT_oneCell : ∀ (L : List Tk), ∀ u ∈ flatT L, u.oneCell' = true
  | [], u, h => by cases h
  | t :: L, u, h => by
    have h1 : flatT (t :: L) = celT t ++ flatT L := rfl
    rw [h1, List.mem_append] at h
    rcases h with h | h
    · exact celT_cells t u h
    · exact flatT_oneCell L u h
theorem row_src {w : World} {g : Nat} {L : List Tk} (h : Row w g L) : ∀ j u, (flatT L)[j]? = some u → w.cell? ((⟨g, 0, none⟩ : Addr).add j) = some u := fun j u hj => by
  rw [Go.WideShapes.add_plain, Nat.zero_add]; exact h j u hj
theorem row_other {w : World} {g g2 o : Nat} {v : Value} {L : List Tk} (h : Row w g L) (hg : g ≠ g2) : Row (w.setCell ⟨g2, o, none⟩ v) g L := fun j u hj => by
  rw [World.cell?_setCell_other _ _ _ _ (by simp only [ne_eq, Addr.mk.injEq, not_and]; intro e; omega)]; exact h j u hj
theorem pairs_mem {B1 B2 B3 : Nat} {W : World} {v1 v2 v3 : Value} {L1 T L3 : List Tk} {t1 : Tk} (ho1 : W.ownsRow B1 33 5 v1 L1.length (flatT L1)) (ho2 : W.ownsRow B2 33 5 v2 (t1 :: T).length (flatT (t1 :: T))) (ho3 : W.ownsRow B3 33 5 v3 L3.length (flatT L3))
    (h1 : 0 < L1.length) (h3 : 0 < L3.length) (hl1 : ∀ k, v1.ownBlock = some k → k < B2) (hl2 : ∀ k, v2.ownBlock = some k → k < B3) :
    ∃ g1 c1 g2 c2 g3 c3, v1 = .slice (some ⟨g1, 0, none⟩) L1.length c1 ∧ v2 = .slice (some ⟨g2, 0, none⟩) (T.length + 1) c2 ∧ v3 = .slice (some ⟨g3, 0, none⟩) L3.length c3 ∧ B1 ≤ g1 ∧ g1 < g2 ∧ g2 < g3 ∧ g3 < W.heap.size ∧
      L1.length ≤ c1 ∧ (c1 : Int) ≤ 9223372036854775807 ∧ T.length + 1 ≤ c2 ∧ W.frozen? ⟨g2, 4, none⟩ = false ∧ W.cell? ⟨g2, 4, none⟩ = some (.bool t1.b) ∧
      Row (W.setCell ⟨g2, 4, none⟩ (.bool true)) g1 L1 ∧ Row (W.setCell ⟨g2, 4, none⟩ (.bool true)) g2 ({ t1 with b := true } :: T) ∧ Row (W.setCell ⟨g2, 4, none⟩ (.bool true)) g3 L3 := by
  obtain ⟨g1, c1, rfl, i1, j1, m1, n1, r1⟩ := own_open ho1 h1
  obtain ⟨g2, c2, rfl, i2, j2, m2, n2, r2⟩ := own_open ho2 (by simp)
  obtain ⟨g3, c3, rfl, i3, j3, m3, n3, r3⟩ := own_open ho3 h3
  have k1 := hl1 g1 rfl
  have k2 := hl2 g2 rfl
  have hst := (World.ownsRow.stored ho2 4 (.bool true)).1
  rw [flatT_mark] at hst
  obtain ⟨_, _, he2, _, _, _, _, r2'⟩ := own_open (L := { t1 with b := true } :: T) hst (by simp)
  simp only [Value.slice.injEq, Option.some.injEq, Addr.mk.injEq, and_true] at he2
  obtain ⟨rfl, _⟩ := he2
  exact ⟨g1, c1, g2, c2, g3, c3, rfl, rfl, rfl, i1, by omega, by omega, j3, m1, by unfold maxLen at n1; omega, m2, World.ownsRow.frozenAt ho2 4, r2 4 _ rfl,
    row_other r1 (by omega), r2', row_other r3 (by omega)⟩
theorem row_init {w : World} {g : Nat} {acc T : List Tk} (h : Row w g (acc ++ T)) : Row w g acc := fun j u hj => h j u (by
  rw [flatT_append, List.getElem?_append_left]; exact hj
  rcases Nat.lt_or_ge j (flatT acc).length with h5 | h5
  · exact h5
  · rw [List.getElem?_eq_none h5] at hj; cases hj)
theorem row_grown {w w' : World} {g B : Nat} {r : Option Nat} {L : List Tk} (h : Row w g L) (hg : w.grownBy w' r) (hr : ∀ k, r = some k → B ≤ k) (hB : g < B) : Row w' g L := fun j u hj =>
  hg.cell (h j u hj) (fun e => by have := hr g e.symm; omega)
end Go.Proofs.YthjmlgbnpnfkgaaDoor.Lx
