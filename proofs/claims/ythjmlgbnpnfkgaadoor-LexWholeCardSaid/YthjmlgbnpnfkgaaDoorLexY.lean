/- LexWhole is true: the walk. -/
import Derived.Test.YthjmlgbnpnfkgaaDoorLexW
import Derived.Test.YthjmlgbnpnfkgaaDoorLexP
set_option linter.unusedVariables false
namespace Go.Proofs.YthjmlgbnpnfkgaaDoor.Lx
open Go.RowKit Go.ChangeShapes Go.WideShapes Go.ChangeAt Go.Proofs.YthjmlgbnpnfkgaaDoor.Nu

set_option maxRecDepth 100000 in
set_option maxHeartbeats 8000000 in
theorem whole_right (w : World) (s : ByteArray) (hs : s.size ≤ 2000) (L : List Tk) (h1 : scan s.data.toList = (L, 0, 0)) (m : Int) (hm : w.cell? ⟨0, 0, none⟩ = some (.int .i64 m)) :
    Calls Tryd.prog 6 #[.string s] w fun e w' => e = .returned (.bool true) ∧ Below w.heap.size w w' := by
  have h0 := pos_of hm
  have HM := Lib.hid hm
  have HS1 := Lib.hid fun w hm => scan_any s m w hm (by omega)
  rw [h1] at HS1
  have hcut := cut_zero h1
  have hL0 : 0 < L.length := by obtain ⟨n, ln, _, _, _, h, _⟩ := cut_next hcut; exact h
  have HCUT := Lib.hid hcut
  have hsz := size_list s
  have hLm : L.length ≤ 2001 := (scan_back _ (by omega) L h1).2.1
  have HGP : Hid (∀ e, e ≤ s.size → ∀ W, Calls Tryd.prog 14 #[.string (s.extract e s.size)] W fun x w' => x = .returned (.tuple #[.int .i64 (if (gap s.data.toList e).2.2 = true then ((gap s.data.toList e).1 : Int) - e else 0), .bool ((gap s.data.toList e).2.2 && (gap s.data.toList e).2.1), .int .i64 (if (gap s.data.toList e).2.2 = true then -1 else ((gap s.data.toList e).1 : Int) - e)]) ∧ W = w') := fun e he W => by
    have h := rgap_any (s.extract e s.size) (by simp; omega) W
    have hl := Lib.extract_to_end s e
    have hz : (s.extract e s.size).size = (s.data.toList.drop e).length := by rw [← size_list, hl]
    rw [hl, hz] at h
    rw [gap_piece s.data.toList e (by omega)]
    unfold gapR at h
    refine h.mono ?_
    rintro x w' ⟨h2, h3⟩
    refine ⟨?_, h3⟩
    rw [h2]
    dsimp only
    congr 3
    · split <;> simp
  have HFR : Hid (∀ n, n < s.size → (frs (s.data.toList.drop n)).c = 0 → ∀ W, Calls Tryd.prog 15 #[.string (s.extract n s.size)] W fun x w' => (∃ (k v a : Int) (y : ByteArray), x = .returned (.tuple #[.agg #[.int .i64 k, .int .i64 0, .string y, .int .i64 v, .bool false], .int .i64 (frs (s.data.toList.drop n)).n, .int .i64 0, .int .i64 a])) ∧ Below W.heap.size W w') := fun n hn hc W => by
    have h := rfront_any (s.extract n s.size) (by simp; omega) (by simp; omega) W
    rw [Lib.extract_to_end s n] at h
    refine h.mono ?_
    rintro x w' ⟨⟨k, v, j, y, h2, h3⟩, h4⟩
    obtain ⟨_, _, e3, _⟩ := h3 hc
    exact ⟨⟨k, v, _, y, by rw [h2, hc, e3]⟩, h4⟩
  clear h1 hcut
  go_enter Tryd.func6, Tryd.ntmps6
  go_wp2_with fail
  refine (cuts_any m _ hm).mono ?_
  rintro e w1 ⟨rfl, hb1⟩
  clear hm
  have HB1 := Lib.hid hb1
  clear hb1
  go_wp2_with fail
  refine (HS1.out _ (cell_below HB1.out h0 HM.out)).mono ?_
  rintro e w2 ⟨v1, rfl, ho1, hb2⟩
  dsimp only at ho1 ⊢
  have hq := (Below.refl w2.heap.size w2).alloc (Nat.le_refl _) (.cells #[.int .i64 0, .int .i64 0] 26)
  have hA3 := heap_alloc_new w2 (.cells #[.int .i64 0, .int .i64 0] 26)
  obtain ⟨g1, p1, rfl, i1, i2, i3, i4, r1⟩ := own_open (row_below ho1 hq) hL0
  have HR := Lib.hid r1
  have HG := Lib.hid i2
  have HB3 := Lib.hid (HB1.out.trans ((hb2.trans (hq.mono hb2.size)).mono HB1.out.size))
  clear ho1 hb2 hq HS1 r1 i1 i2 i3 i4
  obtain ⟨e0, e1, _, _⟩ := fault_facts hA3
  clear hA3
  go_wp2_with fail
  clear e0 e1
  generalize w2.alloc (.cells #[.int .i64 0, .int .i64 0] 26) = W3 at *
  go_loopw [5, 7, 8, 9, 10, 11, 12, 13, 14, 30] (fun a _ _ _ _ _ _ _ _ i wr => ∃ k e : Nat, i = .int .i64 (k : Int) ∧ a = .int .i64 (e : Int) ∧ Hid (Cut s.data.toList L k e) ∧ Below W3.heap.size W3 wr) (fun _ _ _ _ _ _ _ _ _ i _ => L.length - (intOf i).toNat)
  case atStart => exact ⟨0, 0, rfl, rfl, HCUT.out, Below.refl _ _⟩
  case round =>
    obtain ⟨k, e, rfl, rfl, HC, hb⟩ := hrel
    obtain ⟨n, ln, hg, hn1, hn2, hk, ha, hbb, hrest⟩ := cut_next HC.out
    have hes : e ≤ s.size := by have := HC.out.2.1; omega
    obtain ⟨d, hd⟩ : ∃ d, n = e + d := ⟨n - e, by omega⟩
    have HGK := Lib.hid (HGP.out e hes)
    rw [hg] at HGK
    have HGK2 : Hid (∀ W, Calls Tryd.prog 14 #[.string (s.extract e s.size)] W fun x w' => x = .returned (.tuple #[.int .i64 (d : Int), .bool ln, .int .i64 (-1)]) ∧ W = w') := fun W => (HGK.out W).mono fun x w' ⟨h1, h2⟩ => ⟨by rw [h1]; simp; omega, h2⟩
    have hne : ((n : Int) != (e : Int) + (d : Int)) = false := by rw [bne_eq_false_iff_eq]; omega
    have hed : e + d ≤ 2000 := by omega
    clear hd
    obtain ⟨r0, r1, r2, r3, r4⟩ := row_at (row_keep HR.out HG.out hb) k hk
    rw [ha] at r1
    rw [hbb] at r4
    have hsz2 := hb.size
    have hm5 := heap_alloc_new wr (.cells #[.int .i64 L[k].k, .int .i64 (n : Int), .string ⟨L[k].x.toArray⟩, .int .i64 L[k].v, .bool ln] 33)
    have hb5 : Below W3.heap.size W3 (wr.alloc (.cells #[.int .i64 L[k].k, .int .i64 (n : Int), .string ⟨L[k].x.toArray⟩, .int .i64 L[k].v, .bool ln] 33)) := hb.alloc hsz2 _
    obtain ⟨f0, f1, f2, f3, f4⟩ := five hm5
    have HB5 := Lib.hid hb5
    have HE := Lib.hid hrest
    generalize L[k].k = kk at *
    generalize (⟨L[k].x.toArray⟩ : ByteArray) = xx at *
    generalize L[k].v = vv at *
    clear hb hsz2 hrest hb5 hm5 HGK ha hbb hg HC
    go_wp2_with fail
    refine (HGK2.out _).mono ?_
    rintro x w6 ⟨rfl, rfl⟩
    have hn3 : n ≤ s.size := by omega
    clear r0 r1 r2 r3 r4 f2 f3
    rcases HE.out with ⟨hk6, hnl⟩ | ⟨hk6, hnl, hc, hn1', hcut⟩
    · subst hk6
      have hnz : ((n : Int) == (s.size : Int)) = true := by rw [beq_iff_eq]; omega
      clear HE hnl hn1 hn2 hes
      cases ln
      all_goals
        go_wp2_with fail
        go_ret
        exact ⟨rfl, HB3.out.trans (HB5.out.mono HB3.out.size)⟩
    · have HCC := Lib.hid hcut
      have hnj : n + (frs (s.data.toList.drop n)).n ≤ 2000 := by have := hcut.2.1; omega
      have hq6 : (kk == 6) = false := by rw [beq_eq_false_iff_ne]; exact hk6
      have HF := Lib.hid (HFR.out n (by omega) hc)
      generalize (frs (s.data.toList.drop n)).n = j at *
      clear HE hnl hk6 hcut hc HGP HFR hn1 hn2 hes HGK2
      cases ln
      all_goals
        go_wp2_with fail
        refine (HF.out _).mono ?_
        rintro x w6 ⟨⟨k0, v0, a0, y0, rfl⟩, hb6⟩
        have HB6 := Lib.hid (HB5.out.trans (hb6.mono HB5.out.size))
        clear hb6
        go_wp2_with fail
        go_roundw
        case rel => exact ⟨k + 1, n + j, by go_num, by go_num, HCC.out, HB6.out.alloc HB6.out.size _⟩
        case measure => simp [intOf]; omega
set_option maxRecDepth 100000 in
set_option maxHeartbeats 8000000 in
theorem lexWhole_walk (w : World) (s : ByteArray) (_ : s.size ≤ maxLen) (m : Int) (hm : w.cell? ⟨0, 0, none⟩ = some (.int .i64 m)) :
    Calls Tryd.prog 6 #[.string s] w fun e w' => e = .returned (.bool true) ∧ Below w.heap.size w w' := by
  by_cases hs : s.size ≤ 2000
  · by_cases h : (scan s.data.toList).2.1 = 0
    · exact whole_right w s hs _ (scan_zero h) m hm
    · have h0 := pos_of hm
      have HS1 := Lib.hid fun w hm => scan_any s m w hm (by omega)
      generalize scan s.data.toList = R at *
      obtain ⟨L1, c1, a1⟩ := R
      dsimp only at h
      have hcn : (c1 != 0) = true := by rw [bne_iff_ne]; exact h
      go_enter Tryd.func6, Tryd.ntmps6
      go_wp2_with fail
      refine (cuts_any m _ hm).mono ?_
      rintro e w1 ⟨rfl, hb1⟩
      go_wp2_with fail
      refine (HS1.out _ (cell_below hb1 h0 hm)).mono ?_
      rintro e w2 ⟨v1, rfl, ho1, hb2⟩
      dsimp only at ho1 ⊢
      have hq := (Below.refl w2.heap.size w2).alloc (Nat.le_refl _) (.cells #[.int .i64 c1, .int .i64 a1] 26)
      have hA3 := heap_alloc_new w2 (.cells #[.int .i64 c1, .int .i64 a1] 26)
      have HB3 := Lib.hid (hb1.trans ((hb2.trans (hq.mono hb2.size)).mono hb1.size))
      clear hq ho1 hb1 hb2 hm HS1
      obtain ⟨e0, e1, _, _⟩ := fault_facts hA3
      clear hA3
      go_wp2_with fail
      go_ret
      exact ⟨rfl, HB3.out⟩
  · go_enter Tryd.func6, Tryd.ntmps6
    go_wp2_with fail
    refine (cuts_any m _ hm).mono ?_
    rintro e w1 ⟨rfl, hb1⟩
    clear hm
    go_wp2_with fail
    go_ret
    exact ⟨rfl, hb1⟩
end Go.Proofs.YthjmlgbnpnfkgaaDoor.Lx
