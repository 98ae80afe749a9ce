/- LexBack is true: the walk. -/
import Derived.Test.YthjmlgbnpnfkgaaDoorLexH
import Derived.Test.YthjmlgbnpnfkgaaDoorLexS
set_option linter.unusedVariables false
namespace Go.Proofs.YthjmlgbnpnfkgaaDoor.Lx
open Go.RowKit Go.ChangeShapes Go.WideShapes Go.ChangeAt Go.Proofs.YthjmlgbnpnfkgaaDoor.Nu

theorem zero_of {l : List UInt8} (h : (scan l).2.1 = 0) : scan l = ((scan l).1, 0, 0) := by
  have key : ∀ (f : Nat) (l : List UInt8) (e : Nat) (acc : List Tk), (scanF f l e acc).2.1 = 0 → (scanF f l e acc).2.2 = 0 := by
    intro f
    induction f with
    | zero => intro l e acc _; rw [scanF]
    | succ f ih =>
      intro l e acc
      rw [scanF_succ]
      generalize gap l e = G at *
      obtain ⟨n, ln, ok⟩ := G
      unfold stp
      dsimp only
      split
      · exact fun h => by simp at h
      · split
        · exact fun _ => rfl
        · split
          · exact fun h => by simp at h
          · split
            · exact ih l _ _
            · rename_i hc; exact fun h => absurd h hc
  have h2 : (scan l).2.2 = 0 := by
    revert h
    unfold scan
    split
    · exact fun h => absurd h (by decide)
    · exact key _ _ _ _
  exact Prod.ext rfl (Prod.ext h h2)
set_option maxRecDepth 100000 in
set_option maxHeartbeats 4000000 in
theorem back_in (w : World) (s : ByteArray) (hs : s.size ≤ 2000) (R : List Tk × Int × Int) (h1 : scan s.data.toList = R) (m : Int) (hm : w.cell? ⟨0, 0, none⟩ = some (.int .i64 m))
    (hcase : (R.2.1 ≠ 0 ∧ R.1 = []) ∨ (R.2.1 = 0 ∧ (joi true R.1).length ≤ 20000 ∧ R.1.length ≤ 2001 ∧ 0 < R.1.length ∧ ∃ M, scan (joi true R.1) = (M, 0, 0) ∧ M.map una = R.1.map una)) :
    Calls Tryd.prog 4 #[.string s] w fun e w' => e = .returned (.bool true) ∧ Below w.heap.size w w' := by
  have h0 := pos_of hm
  have HM := Lib.hid hm
  have HS1 := Lib.hid fun w hm => scan_any s m w hm (by omega)
  rw [h1] at HS1
  clear h1
  obtain ⟨L1, c1, a1⟩ := R
  dsimp only at hcase
  go_enter Tryd.func4, Tryd.ntmps4
  go_wp2_with fail
  refine (cuts_any m _ hm).mono ?_
  rintro e w1 ⟨rfl, hb1⟩
  clear hm
  have HB1 := Lib.hid hb1
  clear hb1
  go_wp2_with fail
  refine (HS1.out _ (cell_below HB1.out h0 HM.out)).mono ?_
  rintro e w2 ⟨v1, rfl, ho1, hb2⟩
  dsimp only at ho1 ⊢
  have hq := (Below.refl w2.heap.size w2).alloc (Nat.le_refl _) (.cells #[.int .i64 c1, .int .i64 a1] 26)
  have hA3 := heap_alloc_new w2 (.cells #[.int .i64 c1, .int .i64 a1] 26)
  have HO3 := Lib.hid (row_below ho1 hq)
  have HB3 := Lib.hid (HB1.out.trans ((hb2.trans (hq.mono hb2.size)).mono HB1.out.size))
  clear ho1 hb2 hq HS1
  obtain ⟨e0, e1, _, _⟩ := fault_facts hA3
  have HA3 := Lib.hid hA3
  clear hA3
  rcases hcase with ⟨hc, hl⟩ | ⟨hc, hj, hl, hp, M, hM, hu⟩
  · subst hl
    have hcn : (c1 != 0) = true := by rw [bne_iff_ne]; exact hc
    obtain ⟨ad, cap, rfl⟩ := row_shape HO3.out
    go_wp2_with fail
    go_ret
    exact ⟨rfl, HB3.out⟩
  · subst hc
    obtain ⟨g1, p1, rfl, i1, i2, _, _, r1⟩ := own_open HO3.out hp
    have HR1 := Lib.hid r1
    have HG1 := Lib.hid i2
    have HJ := Lib.hid (fun W h1 h2 => join_any L1 g1 p1 W h1 (by omega) h2 (by omega))
    have HS2 := Lib.hid fun w hm => scan_any ⟨(joi true L1).toArray⟩ m w hm (by rw [size_list2]; omega)
    rw [show (ByteArray.mk (joi true L1).toArray).data.toList = joi true L1 from rfl, hM] at HS2
    obtain ⟨hml, hat⟩ := una_at hu
    have HAT := Lib.hid hat
    have HML := Lib.hid hml
    clear r1 i1 i2 HO3 hM hu hat hml
    generalize hX : (⟨(joi true L1).toArray⟩ : ByteArray) = X at *
    clear hX hj
    go_wp2_with fail
    refine (HJ.out _ HG1.out HR1.out).mono ?_
    rintro e w4 ⟨rfl, hb4⟩
    have HB4 := Lib.hid (HB3.out.trans (hb4.mono HB3.out.size))
    have HR4 := Lib.hid (row_keep HR1.out HG1.out hb4)
    have HG4 := Lib.hid (Nat.lt_of_lt_of_le HG1.out hb4.size)
    clear hb4 HB3 HR1 HG1 e0 e1 HA3
    go_wp2_with fail
    refine (HS2.out _ (cell_below HB4.out h0 HM.out)).mono ?_
    rintro e w5 ⟨v2, rfl, ho2, hb5⟩
    dsimp only at ho2 ⊢
    obtain ⟨g2, p2, rfl, i1, i2, _, _, r2⟩ := own_open ho2 (by rw [HML.out]; exact hp)
    have hq := (Below.refl w5.heap.size w5).alloc (Nat.le_refl _) (.cells #[.int .i64 0, .int .i64 0] 26)
    have hA6 := heap_alloc_new w5 (.cells #[.int .i64 0, .int .i64 0] 26)
    have hb6 := hb5.trans (hq.mono hb5.size)
    have HR6 := Lib.hid (row_keep HR4.out HG4.out hb6)
    have HQ6 := Lib.hid (row_keep r2 i2 hq)
    have HG6 := Lib.hid (And.intro (Nat.lt_of_lt_of_le HG4.out hb6.size) (Nat.lt_of_lt_of_le i2 hq.size))
    have HB6 := Lib.hid (HB4.out.trans (hb6.mono HB4.out.size))
    clear hb5 hq hb6 r2 i1 i2 HR4 HG4 HB4 ho2
    obtain ⟨f0, f1, _, _⟩ := fault_facts hA6
    clear hA6
    rw [HML.out]
    go_wp2_with fail
    refine (same_yes L1 M g1 g2 p1 p2 _ HG6.out.1 HG6.out.2 (by omega) HML.out HR6.out HQ6.out HAT.out).mono ?_
    rintro e w7 ⟨rfl, hb7⟩
    go_wp2_with fail
    go_ret
    exact ⟨rfl, HB6.out.trans (hb7.mono HB6.out.size)⟩
theorem lexBack_walk (w : World) (s : ByteArray) (_ : s.size ≤ maxLen) (m : Int) (hm : w.cell? ⟨0, 0, none⟩ = some (.int .i64 m)) :
    Calls Tryd.prog 4 #[.string s] w fun e w' => e = .returned (.bool true) ∧ Below w.heap.size w w' := by
  by_cases hs : s.size ≤ 2000
  · have hsl : s.data.toList.length ≤ 2000 := by rw [size_list]; exact hs
    refine back_in w s hs _ rfl m hm ?_
    by_cases h : (scan s.data.toList).2.1 = 0
    · obtain ⟨k1, k2, k3, k4⟩ := scan_back _ hsl _ (zero_of h)
      exact .inr ⟨h, k1, k2, k3, k4⟩
    · exact .inl ⟨h, scan_none h⟩
  · go_enter Tryd.func4, Tryd.ntmps4
    go_wp2_with fail
    refine (cuts_any m _ hm).mono ?_
    rintro e w1 ⟨rfl, hb1⟩
    clear hm
    go_wp2_with fail
    go_ret
    exact ⟨rfl, hb1⟩
end Go.Proofs.YthjmlgbnpnfkgaaDoor.Lx
