/- LexScans is true: the walk. -/
import Derived.Test.YthjmlgbnpnfkgaaDoorLexZ
import Derived.Test.YthjmlgbnpnfkgaaDoorLexF
set_option linter.unusedVariables false
namespace Go.Proofs.YthjmlgbnpnfkgaaDoor.Lx
open Go.RowKit Go.ChangeShapes Go.WideShapes Go.ChangeAt Go.Proofs.YthjmlgbnpnfkgaaDoor.Nu

theorem rown_open {B : Nat} {v : Value} {w : World} {L : List Tk} (h : w.ownsRow B 34 5 v L.length (flatT L)) (h0 : 0 < L.length) :
    ∃ g cap, v = .slice (some ⟨g, 0, none⟩) L.length cap ∧ B ≤ g ∧ g < w.heap.size ∧ L.length ≤ cap ∧ cap ≤ maxLen ∧ Row w g L := by
  have h' := h
  rcases h.2 with ⟨_, e⟩ | ⟨g, cap, cur, hv, hB, hg, h1, h2, h3, h4⟩
  · omega
  · subst hv
    refine ⟨g, cap, rfl, hB, lt_of_block hg, h1, h2, fun j u hj => ?_⟩
    have hlt : j < (flatT L).length := by
      rcases Nat.lt_or_ge j (flatT L).length with h5 | h5
      · exact h5
      · rw [List.getElem?_eq_none h5] at hj; cases hj
    rw [flatT_len] at hlt
    rw [World.ownsRow.cellAt h' j hlt]; exact hj
set_option maxRecDepth 100000 in
set_option maxHeartbeats 8000000 in
theorem scans_in (w : World) (s : ByteArray) (hs : s.size ≤ 2000) (R : List Tk × Int × Int) (h1 : scan s.data.toList = R) (hLm : R.1.length ≤ 2001) (m : Int) (hm : w.cell? ⟨0, 0, none⟩ = some (.int .i64 m)) :
    Calls Tryd.prog 3 #[.string s] w fun e w' => e = .returned (.bool true) ∧ Below w.heap.size w w' := by
  have h0 := pos_of hm
  have HM := Lib.hid hm
  have HS1 := Lib.hid fun w hm => scan_any s m w hm (by omega)
  have HS2 := Lib.hid fun w => rscan_any s w hs
  rw [h1] at HS1 HS2
  clear h1
  obtain ⟨L, c1, a1⟩ := R
  dsimp only at hLm
  go_enter Tryd.func3, Tryd.ntmps3
  go_wp2_with fail
  refine (cuts_any m _ hm).mono ?_
  rintro e w1 ⟨rfl, hb1⟩
  clear hm
  have HB1 := Lib.hid hb1
  clear hb1
  go_wp2_with fail
  refine (HS1.out _ (cell_below HB1.out h0 HM.out)).mono ?_
  rintro e w2 ⟨v1, rfl, ho1, hb2⟩
  dsimp only at ho1 ⊢
  have hq := (Below.refl w2.heap.size w2).alloc (Nat.le_refl _) (.cells #[.int .i64 c1, .int .i64 a1] 26)
  have HA3 := Lib.hid (heap_alloc_new w2 (.cells #[.int .i64 c1, .int .i64 a1] 26))
  have HO3 := Lib.hid (row_below ho1 hq)
  have HB3 := Lib.hid (HB1.out.trans ((hb2.trans (hq.mono hb2.size)).mono HB1.out.size))
  clear ho1 hb2 hq HS1
  go_wp2_with fail
  refine (HS2.out _).mono ?_
  rintro e w4 ⟨v2, rfl, ho2, hb4⟩
  dsimp only at ho2 ⊢
  have HO4 := Lib.hid (row_below HO3.out hb4)
  have HP4 := Lib.hid ho2
  have HB4 := Lib.hid (HB3.out.trans (hb4.mono HB3.out.size))
  obtain ⟨e0, e1, _, _⟩ := fault_facts (keep HA3.out hb4)
  clear hb4 ho2 HO3 HB3 HA3 HS2
  by_cases hL : L.length = 0
  · obtain ⟨ad1, p1, rfl⟩ := row_shape HO4.out
    obtain ⟨ad2, p2, rfl⟩ := row_shape HP4.out
    rw [hL]
    go_wp2_with fail
    go_loopw [8, 9, 10, 46] (fun _ _ _ i wr => i = .int .i64 0 ∧ wr = w4) (fun _ _ _ _ _ => 0)
    case atStart => exact ⟨rfl, rfl⟩
    case round =>
      obtain ⟨rfl, rfl⟩ := hrel
      go_wp2_with fail
      go_ret
      exact ⟨rfl, HB4.out⟩
  · obtain ⟨g1, p1, rfl, i1, i2, i3, i4, r1⟩ := own_open HO4.out (by omega)
    obtain ⟨g2, p2, rfl, j1, j2, j3, j4, r2⟩ := rown_open HP4.out (by omega)
    have HR1 := Lib.hid r1
    have HR2 := Lib.hid r2
    have HG := Lib.hid (And.intro i2 j2)
    clear HO4 HP4 r1 r2 i1 i2 i3 i4 j1 j2 j3 j4
    go_wp2_with fail
    clear e0 e1
    go_loopw [8, 9, 10, 46] (fun _ _ _ i wr => ∃ k : Nat, k ≤ L.length ∧ i = .int .i64 (k : Int) ∧ Below w4.heap.size w4 wr) (fun _ _ _ i _ => L.length - (intOf i).toNat)
    case atStart => exact ⟨0, by omega, rfl, Below.refl _ _⟩
    case round =>
      obtain ⟨k, hk, rfl, hb⟩ := hrel
      have hsz := hb.size
      by_cases hlt : k < L.length
      · obtain ⟨r0, r1, r2, r3, r4⟩ := row_at (row_keep HR1.out HG.out.1 hb) k hlt
        have hb5 : Below w4.heap.size w4 (wr.alloc (.cells #[.int .i64 L[k].k, .int .i64 L[k].a, .string ⟨L[k].x.toArray⟩, .int .i64 L[k].v, .bool L[k].b] 33)) := hb.alloc hsz _
        obtain ⟨q0, q1, q2, q3, q4⟩ := row_at (row_keep HR2.out HG.out.2 hb5) k hlt
        have m5 := heap_alloc_new wr (.cells #[.int .i64 L[k].k, .int .i64 L[k].a, .string ⟨L[k].x.toArray⟩, .int .i64 L[k].v, .bool L[k].b] 33)
        generalize (⟨L[k].x.toArray⟩ : ByteArray) = xx at *
        generalize L[k].k = kk at *
        generalize L[k].a = aa at *
        generalize L[k].v = vv at *
        generalize L[k].b = bb at *
        have HB5 := Lib.hid hb5
        have HM5 := Lib.hid m5
        clear hb5 m5 hb hsz
        go_upto_region 12 with (fail)
        generalize wr.alloc (.cells #[.int .i64 kk, .int .i64 aa, .string xx, .int .i64 vv, .bool bb] 33) = W5 at *
        have m6 := heap_alloc_new W5 (.cells #[.int .i64 kk, .int .i64 aa, .string xx, .int .i64 vv, .bool bb] 34)
        have hq6 := (Below.refl W5.heap.size W5).alloc (Nat.le_refl _) (.cells #[.int .i64 kk, .int .i64 aa, .string xx, .int .i64 vv, .bool bb] 34)
        obtain ⟨d0, d1, d2, d3, d4⟩ := five5 (keep HM5.out hq6)
        obtain ⟨e0, e1, e2, e3, e4⟩ := five5 m6
        have HB6 := Lib.hid (HB5.out.trans (hq6.mono HB5.out.size))
        clear m6 hq6 r0 r1 r2 r3 r4
        go_wp2_with fail
        go_roundw
        case rel => exact ⟨k + 1, by omega, by go_num, HB6.out⟩
        case measure => simp [intOf]; omega
      · go_wp2_with fail
        go_ret
        exact ⟨rfl, HB4.out.trans (hb.mono HB4.out.size)⟩
theorem lexScans_walk (w : World) (s : ByteArray) (_ : s.size ≤ maxLen) (m : Int) (hm : w.cell? ⟨0, 0, none⟩ = some (.int .i64 m)) :
    Calls Tryd.prog 3 #[.string s] w fun e w' => e = .returned (.bool true) ∧ Below w.heap.size w w' := by
  by_cases hs : s.size ≤ 2000
  · refine scans_in w s hs _ rfl ?_ m hm
    by_cases h : (scan s.data.toList).2.1 = 0
    · exact (scan_back _ (by rw [size_list]; exact hs) _ (zero_of h)).2.1
    · rw [scan_none h]; decide
  · go_enter Tryd.func3, Tryd.ntmps3
    go_wp2_with fail
    refine (cuts_any m _ hm).mono ?_
    rintro e w1 ⟨rfl, hb1⟩
    clear hm
    go_wp2_with fail
    go_ret
    exact ⟨rfl, hb1⟩
end Go.Proofs.YthjmlgbnpnfkgaaDoor.Lx
