/- TableCursors: the walk. -/
import Derived.Test.YtipdjjgpcmbpdaaTab36
import Derived.Deep.LoopGhost
import Derived.Deep.CutBlock
import Derived.Deep.DeepCutAuto
set_option linter.unusedVariables false
namespace Go.Proofs.Ytipdjjgpcmbpdaa.Ta
open Go.RowKit Go.ChangeShapes Go.WideShapes Go.ChangeAt Go.Proofs.Ytipdjjgpcmbpdaa.Va Go.Maps Go.WideMaps

set_option maxRecDepth 100000 in
set_option maxHeartbeats 8000000 in
theorem tableCursors_walk (ad : Option Addr) (cap : Nat) (L : List (Int × Vl × Vl)) (hL : L.length ≤ maxLen) (hwL : WfL L) (ad2 : Option Addr) (cap2 : Nat) (L2 : List (Int × Vl × Vl)) (hL2 : L2.length ≤ maxLen) (hwL2 : WfL L2) (w : World) (h : InO ad w L) (h2 : InO ad2 w L2) :
    Calls Try.prog 4 #[.slice ad L.length cap, .slice ad2 L2.length cap2] w fun e w' => e = .returned (.bool true) ∧ Below w.heap.size w w' := by
  have HL := Lib.hid hL
  have HL2 := Lib.hid hL2
  have HW := Lib.hid hwL
  have HW2 := Lib.hid hwL2
  have HI0 := Lib.hid h
  have HJ0 := Lib.hid h2
  clear hL hL2 hwL hwL2 h h2
  have hmm := @run_makeMap Try.prog
  go_enter Try.func4, Try.ntmps4
  go_wp2_with fail
  refine (keeps_any _).mono ?_
  rintro e w1 ⟨rfl, hb1⟩
  go_wp2_with fail
  refine (right_any L _ (inO_below (B := 0) HI0.out hb1) HL.out).mono ?_
  rintro e w2 ⟨r, rfl, hr, hb2⟩
  have hz2 := hb1.trans (hb2.mono hb1.size)
  cases r with
  | false =>
    go_wp2_with fail
    go_ret
    exact ⟨rfl, hz2⟩
  | true =>
    have HR1 := Lib.hid (hr rfl).1
    have hr2 := (hr rfl).2
    have HZ2 := Lib.hid hz2
    clear hr hb1 hb2 hz2
    go_wp2_with fail
    refine (right_any L2 _ (inO_below (B := 0) HJ0.out HZ2.out) HL2.out).mono ?_
    rintro e w3 ⟨r, rfl, hr, hb3⟩
    have hz3 := HZ2.out.trans (hb3.mono HZ2.out.size)
    cases r with
    | false =>
      go_wp2_with fail
      go_ret
      exact ⟨rfl, hz3⟩
    | true =>
      have HR3 := Lib.hid (hr rfl).1
      have hr4 := (hr rfl).2
      have HZ := Lib.hid hz3
      clear hr hb3 hz3 HZ2 HL HL2
      go_wp2_with fail
      refine (tnew_any _).mono ?_
      rintro e w4 ⟨b, rfl, hT, hb4⟩
      have HT4 := Lib.hid hT
      have HB4 := Lib.hid hb4
      have HWB := Lib.hid HZ.out.size
      have HZ4 := Lib.hid (HZ.out.trans (hb4.mono HZ.out.size))
      clear hT hb4 HZ
      go_wp2_with fail
      go_loopw [6, 8, 9, 37] (fun m _ _ i wr => ∃ (j sz us : Nat) (E : List (Vl × Vl × Int)) (last : Int) (am : Option Addr) (cm : Nat), j ≤ L.length ∧ i = .int .i64 (j : Int) ∧ m = .slice am E.length cm ∧ Hid (E.length ≤ j ∧ last ≤ j) ∧ Hid (WfE E) ∧ Hid (IsTab w3.heap.size b wr E last sz us) ∧ Hid (OwnM w3.heap.size am cm wr (prs E)) ∧ Hid (w3.heap.size ≤ wr.heap.size) ∧ Hid (Below w.heap.size w wr)) (fun _ _ _ i _ => L.length - (intOf i).toNat)
      case atStart => exact ⟨0, 0, 0, [], 0, none, 0, by omega, rfl, rfl, ⟨Nat.le_refl _, Int.le_refl _⟩, (fun j k v c h => by simp at h), HT4.out, World.ownsRow_nil _ _ _ _, HB4.out.size, HZ4.out⟩
      case round =>
        obtain ⟨j, sz, us, E, last, am, cm, hj, rfl, rfl, HE, HWE, HT, HM, HS, HX⟩ := hrel
        by_cases hlt : j < L.length
        · obtain ⟨⟨kd1, x, y⟩, he⟩ := get_some hlt
          rcases HI0.out with rfl | ⟨g, off, rfl, hg, ha⟩
          · simp at hlt
          obtain ⟨c0, c1, c2, c3, c4, c5, c6⟩ := atO_keep ha (HX.out.block _ hg) j kd1 x y he
          have hq := (Below.refl wr.heap.size wr).alloc (Nat.le_refl _) (opB kd1 x y)
          have hbq := Nat.le_trans HS.out hq.size
          have hok := HR1.out j kd1 x y he
          obtain ⟨E2, last2, hact, hdo⟩ := do_any kd1 x y hok _ hbq (Lib.hid (Nat.le_refl w3.heap.size)) (by have := HE.out; omega) (by have := HE.out; omega) (isTab_below HT.out hq) (ownM_below HM.out hq)
          have hlen := act_len hact
          have HE2 : Hid (E2.length ≤ j + 1 ∧ last2 ≤ ((j + 1 : Nat) : Int)) := by have := HE.out; exact ⟨by omega, by omega⟩
          have HWE2 := Lib.hid (wf_does hact HWE.out (wf_ok hok (HW.out j kd1 x y he)))
          have HDO := Lib.hid hdo
          have HXQ := Lib.hid (HX.out.trans (hq.mono HX.out.size))
          have HSQ := Lib.hid hbq
          have ho := heap_alloc_new wr (opB kd1 x y)
          obtain ⟨d0, d1, d2, d3, d4, d5, d6⟩ := seven ho
          clear hq hbq hact hdo hlen ho HE HWE HT HM HX HS he ha hg hok
          unfold opB at HDO HXQ HSQ d0 d1 d2 d3 d4 d5 d6
          unfold opV at HDO
          go_wp2_with fail
          refine HDO.out.mono ?_
          rintro e w5 ⟨am2, cm2, sz2, us2, rfl, hT5, hM5, hst5⟩
          have HT5 := Lib.hid hT5
          have HM5 := Lib.hid hM5
          have HS5 := Lib.hid (Nat.le_trans HSQ.out hst5.f.size)
          have HX5 := Lib.hid (HXQ.out.trans (hst5.b.mono HWB.out))
          clear hT5 hM5 hst5 HXQ HSQ HDO d0 d1 d2 d3 d4 d5 d6
          go_wp2_with fail
          go_roundw
          case rel => exact ⟨j + 1, sz2, us2, E2, last2, am2, cm2, by omega, by go_num, rfl, HE2.out, HWE2.out, HT5.out, HM5.out, HS5.out, HX5.out⟩
          case measure => simp [intOf]; omega
        · rename World => wz
          have hq1 := (Below.refl wz.heap.size wz).alloc (Nat.le_refl _) (.map #[] 0)
          have hq2 := hq1.alloc hq1.size (.map #[] 0)
          have m1 : SetW (wz.alloc (.map #[] 0)) wz.heap.size 0 (.map []) := World.ownsMap_made wz _ _ _
          have m2 : SetW ((wz.alloc (.map #[] 0)).alloc (.map #[] 0)) (wz.heap.size + 1) 0 (.map []) := by
            have := World.ownsMap_made (H := Unit) (wz.alloc (.map #[] 0)) Try.prog 30 (plainElem Try.prog 4)
            rw [World.size_alloc] at this
            exact this
          have hzr := HX.out.size
          have hlast : 0 ≤ last := by
            obtain ⟨_, _, _, _, _, _, _, hTT, _⟩ := HT.out
            exact hTT.bd.1
          have HC := Lib.hid (show CM w3.heap.size wz.heap.size (wz.heap.size + 1) b sz us E last am cm (.map []) (.map []) 0 w ((wz.alloc (.map #[] 0)).alloc (.map #[] 0)) from ⟨isTab_below HT.out hq2, ownM_below HM.out hq2, m1.alloc _, m2, HX.out.trans (hq2.mono HX.out.size), Nat.le_trans HS.out hq2.size, HWB.out, hzr, by omega, by omega⟩)
          have HTEL := Lib.hid (tel_start E (isTab_rise HT.out).2)
          have HE100 : Hid (E.length ≤ 100 ∧ last ≤ 100 ∧ 0 ≤ last) := by have := HE.out; exact ⟨by omega, by omega, hlast⟩
          have HIM : Hid (IsMap (.map [] : DataW Unit)) := isMap_empty
          clear HX HS HE HT HM HT4 HB4 HZ4 hr2 HR1 hq1 hq2 m1 m2 hzr hlast HI0 HW
          go_wp2_with fail
          go_loopg [6, 10, 13, 14, 15, 16, 17, 18, 19, 20, 21, 22, 23] (L2.length) (fun gh m cu i _ _ _ _ _ _ _ _ _ _ wq => ∃ (j sz us : Nat) (E : List (Vl × Vl × Int)) (last cur : Int) (am : Option Addr) (cm : Nat) (T Bn : DataW Unit), j ≤ L2.length ∧ gh = L2.length - j ∧ i = .int .i64 (j : Int) ∧ m = .slice am E.length cm ∧ cu = .int .i64 cur ∧ Hid (E.length ≤ 100 + j ∧ last ≤ 100 + j ∧ 0 ≤ cur ∧ cur ≤ last) ∧ Hid (WfE E) ∧ Hid (Tel T Bn E cur) ∧ Hid (IsMap T ∧ IsMap Bn) ∧ Hid (CM w3.heap.size wz.heap.size (wz.heap.size + 1) b sz us E last am cm T Bn (2 * j) w wq))
          case atStart => exact ⟨0, sz, us, E, last, 0, am, cm, _, _, by omega, by omega, rfl, rfl, rfl, by have := HE100.out; exact ⟨by omega, by omega, by omega, by omega⟩, HWE.out, HTEL.out, ⟨HIM.out, HIM.out⟩, HC.out⟩
          case round =>
            clear HC HTEL HWE HIM HE100 hlt
            obtain ⟨j, sz, us, E, last, cur, am, cm, T, Bn, hj, rfl, rfl, rfl, rfl, HBD, HWE, HTEL, HIM, HC⟩ := hrel
            have hjn : (j : Int) ≤ (L2.length : Int) := by omega
            have hj100 : (L2.length : Int) ≤ 100 := by omega
            have hEl : E.length ≤ 200 := by have := HBD.out; omega
            rcases first_above cur E with hnone | ⟨t, k, v, c, ht, hc, hb⟩
            · go_wp2_with fail
              refine (next_none _ HC.out.hB HC.out.t hnone).mono ?_
              rintro e w5 ⟨rfl, hT5, hst5⟩
              have hC5 := cm_next HC.out hst5 hT5
              have hq := ((Below.refl w5.heap.size w5).alloc (Nat.le_refl _) (valB nul)).alloc (by simp) (valB nul)
              have HC6 := Lib.hid (cm_below hC5 hq)
              have HNN := Lib.hid hnone
              clear hC5 hq hT5 hst5 HC hnone
              unfold valB nul at HC6
              go_upto_block 4 with fail
              go_cut [18, 19, 20] (fun s18 _ _ wx => s18 = .int .i64 (-1) ∧ Hid (Below ((w5.alloc (.cells #[.int .i64 0, .int .i64 0, .string ⟨#[]⟩] 30)).alloc (.cells #[.int .i64 0, .int .i64 0, .string ⟨#[]⟩] 30)).heap.size ((w5.alloc (.cells #[.int .i64 0, .int .i64 0, .string ⟨#[]⟩] 30)).alloc (.cells #[.int .i64 0, .int .i64 0, .string ⟨#[]⟩] 30)) wx))
              case first =>
                go_wp2_with fail
                go_loopg [18, 19, 20, 69] E.length (fun g s18 _ _ i wx => ∃ n : Nat, n ≤ E.length ∧ g = E.length - n ∧ s18 = .int .i64 (-1) ∧ i = .int .i64 (n : Int) ∧ Hid (Below ((w5.alloc (.cells #[.int .i64 0, .int .i64 0, .string ⟨#[]⟩] 30)).alloc (.cells #[.int .i64 0, .int .i64 0, .string ⟨#[]⟩] 30)).heap.size ((w5.alloc (.cells #[.int .i64 0, .int .i64 0, .string ⟨#[]⟩] 30)).alloc (.cells #[.int .i64 0, .int .i64 0, .string ⟨#[]⟩] 30)) wx))
                case atStart => exact ⟨0, by omega, by omega, rfl, rfl, Below.refl _ _⟩
                case round =>
                  obtain ⟨n, hn, rfl, rfl, rfl, HX⟩ := hrel
                  by_cases hne : n < E.length
                  · obtain ⟨⟨x, y, c2⟩, he⟩ := get_some hne
                    have hC7 := cm_below HC6.out HX.out
                    obtain ⟨gm, hgm, _, _⟩ := row_some hC7.m (by rw [prs_len]; omega)
                    subst hgm
                    obtain ⟨r0, r1, r2, r3, r4, r5⟩ := ownM_at hC7.m (prs_at he)
                    have hq := HX.out.alloc HX.out.size (pairB (x, y))
                    obtain ⟨d0, d1, d2, d3, d4, d5⟩ := sixB (heap_alloc_new wr (pairB (x, y)))
                    have hC8 := cm_below HC6.out hq
                    have hR1 := look_in hC8.tt (HWE.out n x y c2 he)
                    have hR2 := look_in hC8.bn (HWE.out n x y c2 he)
                    have hte := HTEL.out n x y c2 he
                    have HQ := Lib.hid hq
                    have hnl : (n : Int) < (E.length : Int) := by omega
                    unfold pairB at hR1 hR2 HQ d0 d1 d2 d3 d4 d5
                    unfold agV at hR1 hR2
                    have hle := HNN.out n x y c2 he
                    have htx : inS T x = true := by
                      cases h : inS T x with
                      | true => rfl
                      | false => exact absurd (hte.1 (Or.inl h)) (by omega)
                    have hbx : inS Bn x = false := by
                      cases h : inS Bn x with
                      | false => rfl
                      | true => exact absurd (hte.1 (Or.inr h)) (by omega)
                    rw [htx] at hR1
                    rw [hbx] at hR2
                    clear hte hC7 hC8 hq he HX hle hne
                    go_wp2_with fail
                    go_roundg (E.length - (n + 1))
                    case measure => omega
                    case rel => exact ⟨n + 1, by omega, rfl, rfl, by go_num, HQ.out⟩
                  · have hne2 : ¬ (n : Int) < (E.length : Int) := by omega
                    clear hne
                    go_wp2_with fail
                    go_meet
                    exact ⟨rfl, HX.out⟩
              case rest =>
                obtain ⟨rfl, HX⟩ := hcut
                have HC7 := Lib.hid (cm_below HC6.out HX)
                clear HX HC6
                go_wp2_with fail
                go_quiet (fail)
                have HC9 := Lib.hid (cm_mono (cm_below HC7.out (below_drewN (Below.refl wc.heap.size wc) nq)) (Nat.le_succ (2 * j)))
                clear HC7 HNN
                generalize hwd : wc.drewN nq = w8 at *
                clear hwd
                go_upto_region 35 with fail
                obtain ⟨T1, B1, HTt, HIt, HBt, HCt⟩ : ∃ T1 B1, Hid (Tel T1 B1 E cur) ∧ Hid (IsMap T1 ∧ IsMap B1) ∧ Hid (E.length ≤ 100 + j ∧ last ≤ 100 + j ∧ 0 ≤ cur ∧ cur ≤ last) ∧ Hid (CM w3.heap.size wz.heap.size (wz.heap.size + 1) b sz us E last am cm T1 B1 (2 * j + 1) w w8) := ⟨T, Bn, HTEL, HIM, HBD, HC9⟩
                clear HTEL HIM HBD HC9
                by_cases hjl : j = L2.length
                · have hjb : ((j : Int) == (L2.length : Int)) = true := by simp [hjl]
                  clear hjl
                  go_wp2_with fail
                  go_ret
                  exact ⟨rfl, HCt.out.z⟩
                · have hjb : ((j : Int) == (L2.length : Int)) = false := by rw [beq_eq_false_iff_ne]; omega
                  have hlt2 : j < L2.length := by omega
                  have hlt3 : (j : Int) < (L2.length : Int) := by omega
                  have hj0 : (0 : Int) ≤ (j : Int) := by omega
                  obtain ⟨⟨kd, x, y⟩, he⟩ := get_some hlt2
                  rcases HJ0.out with rfl | ⟨g2, off2, rfl, hg2, ha2⟩
                  · simp at hlt2
                  obtain ⟨c0, c1', c2, c3, c4, c5, c6⟩ := atO_keep ha2 (HCt.out.z.block _ hg2) j kd x y he
                  have hq := (Below.refl w8.heap.size w8).alloc (Nat.le_refl _) (opB kd x y)
                  have HC2 := Lib.hid (cm_below HCt.out hq)
                  have ho := heap_alloc_new w8 (opB kd x y)
                  obtain ⟨d0, d1, d2, d3, d4, d5, d6⟩ := seven ho
                  have HOK := Lib.hid (HR3.out j kd x y he)
                  have HWX := Lib.hid (wf_ok HOK.out (HW2.out j kd x y he))
                  have HA := Lib.hid (at_any (prs E) (by rw [prs_len]; omega) x _ HC2.out.m)
                  rw [prs_len] at HA
                  have HO := Lib.hid ho
                  clear hq ho he hjl ha2 hg2 HCt
                  unfold opB at HC2 HO HA d0 d1 d2 d3 d4 d5 d6
                  go_wp2_with fail
                  refine HA.out.mono ?_
                  rintro e wA ⟨rfl, hbA⟩
                  have HC3 := Lib.hid (cm_below HC2.out hbA)
                  have HO1 := Lib.hid ((hbA.block _ (lt_of_block HO.out)).trans HO.out)
                  clear c0 c1' c2 c3 c4 c5 c6 d0 d1 d2 d3 d4 d5 d6 HA HC2 HO hbA
                  obtain ⟨d0, d1, d2, d3, d4, d5, d6⟩ := seven HO1.out
                  obtain ⟨E2, last2, hact, hdo⟩ := do_any kd x y HOK.out wA HC3.out.hB (Lib.hid (Nat.le_refl w3.heap.size)) (by have := HBt.out; omega) (by have := HBt.out; omega) HC3.out.t HC3.out.m
                  have HBn : Hid (E2.length ≤ 100 + (j + 1) ∧ last2 ≤ 100 + ((j + 1 : Nat) : Int) ∧ 0 ≤ cur ∧ cur ≤ last2) := by
                    have h1 := act_len hact
                    have h2 := does_last hact
                    have h3 := HBt.out
                    exact ⟨by omega, by omega, by omega, by omega⟩
                  have HAC := Lib.hid hact
                  have HDO := Lib.hid hdo
                  have HWE2 := Lib.hid (wf_does hact HWE.out HWX.out)
                  have HIX : Hid ((idx x (prs E) 0 < 0 ∧ NoKey E x) ∨ (0 ≤ idx x (prs E) 0 ∧ ∃ (i : Nat) (v : Vl) (c : Int), E[i]? = some (x, v, c))) := by
                    rcases idx_tab x E with ⟨h1, h2⟩ | ⟨i, v', c', h1, h2⟩
                    · exact Or.inl ⟨by omega, Or.inr h2⟩
                    · exact Or.inr ⟨by omega, i, v', c', h1⟩
                  generalize idx x (prs E) 0 = R at *
                  unfold opV at HDO
                  clear hact hdo
                  go_wp2_with fail
                  refine HDO.out.mono ?_
                  rintro e w9 ⟨am2, cm2, sz2, us2, rfl, hT9, hM9, hst9⟩
                  have HC4 := Lib.hid (cm_st HC3.out hst9 hT9 hM9)
                  have HO9 := Lib.hid (box_op hst9.f HO1.out)
                  clear d0 d1 d2 d3 d4 d5 d6 HC3 HO1 hT9 hM9 hst9 HDO
                  obtain ⟨d0, d1, d2, d3, d4, d5, d6⟩ := seven HO9.out
                  go_upto_region 41 with fail
                  go_cut [166] (fun s wx => s = .bool (decide (kd = 0 ∧ R < 0 ∧ x.1 ≠ 0)) ∧ wx = w9)
                  case first =>
                    by_cases h0 : kd = 0
                    · have e0 : (kd == 0) = true := by simp [h0]
                      by_cases hr : 0 ≤ R
                      · have er : decide (0 ≤ R) = true := decide_eq_true hr
                        have hd : Hid (decide (kd = 0 ∧ R < 0 ∧ x.1 ≠ 0) = false) := decide_eq_false (fun h => by omega)
                        clear h0 hr
                        go_wp2_with fail
                        go_meet
                        exact ⟨by rw [hd.out], rfl⟩
                      · have er : decide (0 ≤ R) = false := decide_eq_false hr
                        by_cases hx : x.1 = 0
                        · have ex : (x.1 != 0) = false := by simp [hx]
                          have hd : Hid (decide (kd = 0 ∧ R < 0 ∧ x.1 ≠ 0) = false) := decide_eq_false (fun h => by omega)
                          clear h0 hr hx
                          go_wp2_with fail
                          go_meet
                          exact ⟨by rw [hd.out], rfl⟩
                        · have ex : (x.1 != 0) = true := by simp [hx]
                          have hd : Hid (decide (kd = 0 ∧ R < 0 ∧ x.1 ≠ 0) = true) := decide_eq_true ⟨h0, by omega, hx⟩
                          clear h0 hr hx
                          go_wp2_with fail
                          go_meet
                          exact ⟨by rw [hd.out], rfl⟩
                    · have e0 : (kd == 0) = false := by rw [beq_eq_false_iff_ne]; exact h0
                      have hd : Hid (decide (kd = 0 ∧ R < 0 ∧ x.1 ≠ 0) = false) := decide_eq_false (fun h => h0 h.1)
                      clear h0
                      go_wp2_with fail
                      go_meet
                      exact ⟨by rw [hd.out], rfl⟩
                  case rest =>
                    obtain ⟨rfl, rfl⟩ := hcut
                    go_upto_if 166 with fail
                    go_cut [167] (fun _ wx => ∃ B2 : DataW Unit, Hid (IsMap B2) ∧ Hid (Tel T1 B2 E2 cur) ∧ Hid (CM w3.heap.size wz.heap.size (wz.heap.size + 1) b sz2 us2 E2 last2 am2 cm2 T1 B2 (2 * (j + 1)) w wx))
                    case first =>
                      by_cases hnew : kd = 0 ∧ R < 0 ∧ x.1 ≠ 0
                      · have hd : decide (kd = 0 ∧ R < 0 ∧ x.1 ≠ 0) = true := decide_eq_true hnew
                        have hn : kd = 0 ∧ x ≠ nul ∧ NoKey E x := ⟨hnew.1, fun e => hnew.2.2 (by rw [e]; rfl), by
                          rcases HIX.out with h | h
                          · exact h.2
                          · exact absurd hnew.2.1 (by omega)⟩
                        have HT2 := Lib.hid (tel_new HTt.out HIt.out.2 HWE.out HWX.out (by have := HBt.out; omega) HAC.out hn)
                        have hkey := klit_of HWX.out
                        unfold agV at hkey
                        have HKEY := Lib.hid hkey
                        rw [hd]
                        clear hkey hn hd hnew
                        go_wp2_with (first
                          | (at_mapUpdate; refine wpList_mapUpdate_own _ rfl _ _ _ 39 rfl 30 4 lawK Try.underlying39 _ _ _ _ rfl HC4.out.bn (by unfold maxLen; omega) _ _ _ rfl rfl HKEY.out _ [] (plainElem_bool Try.underlying4 true) ?_; intro wN hownN hgN; have HCN := Lib.hid (cm_born HC4.out hgN hownN (Nat.le_succ _)); clear hownN hgN))
                        go_meet
                        exact ⟨_, IsMap.put HIt.out.2 _ _, HT2.out, HCN.out⟩
                      · have hd : decide (kd = 0 ∧ R < 0 ∧ x.1 ≠ 0) = false := decide_eq_false hnew
                        have hn : ¬ (kd = 0 ∧ x ≠ nul ∧ NoKey E x) := fun h => by
                          rcases HIX.out with h1 | h1
                          · exact hnew ⟨h.1, h1.1, fun e => h.2.1 (HOK.out.2.1 e)⟩
                          · obtain ⟨_, i, v', c', h2⟩ := h1
                            rcases h.2.2 with h3 | h3
                            · exact h.2.1 h3
                            · exact h3 i v' c' h2
                        have HT2 := Lib.hid (tel_old HTt.out HAC.out hn)
                        rw [hd]
                        clear hn hd hnew
                        go_wp2_with fail
                        go_meet
                        exact ⟨_, HIt.out.2, HT2.out, cm_mono HC4.out (by omega)⟩
                    case rest =>
                      obtain ⟨B2, HI2, HT2, HC5⟩ := hcut
                      have hlow := HC5.out.z.size
                      have hlt := lt_of_block (setW_obj HC5.out.tt).choose_spec.1
                      have hlb := lt_of_block (setW_obj HC5.out.bn).choose_spec.1
                      have HLO : Hid (w.heap.size ≤ wc.heap.size ∧ wc.heap.size ≠ wz.heap.size ∧ wc.heap.size ≠ wz.heap.size + 1) := ⟨hlow, by omega, by omega⟩
                      clear hlow hlt hlb d0 d1 d2 d3 d4 d5 d6
                      go_wp2_with (first
                        | (at_range; refine wpList_range_own _ rfl _ 39 rfl 30 4 lawK Try.underlying39 _ _ _ _ rfl HC5.out.bn ?_; intro wR hrg0 hg0 hs0; have HR0 := Lib.hid hrg0; have HCR := Lib.hid (cm_iter HC5.out hg0 (fun r e => by cases e)); clear hrg0 hg0 hs0))
                      go_frame
                      go_loopw [23] (fun _ wr => ∃ (left : Lit → Bool) (cnt : Nat) (Bx : DataW Unit), Hid (RgW wr (wz.heap.size + 1) wc.heap.size (2 * (j + 1)) Bx left cnt) ∧ Hid (IsMap Bx) ∧ Hid (Tel T1 Bx E2 cur) ∧ Hid (CM w3.heap.size wz.heap.size (wz.heap.size + 1) b sz2 us2 E2 last2 am2 cm2 T1 Bx (2 * (j + 1)) w wr) ) (fun _ wr => wr.rangeLeft (wz.heap.size + 1) wc.heap.size)
                      case atStart => exact ⟨_, _, _, HR0.out, HI2.out, HT2.out, HCR.out⟩
                      case round =>
                        obtain ⟨left, cnt, Bx, HRG, HIx, HTx, HCx⟩ := hrel
                        clear HR0 HCR HI2 HT2 HC5
                        go_wp2_with (first
                          | (at_next; refine next_set rfl _ rfl rfl HRG.out ?_ ?_))
                        · go_roundg (L2.length - (j + 1))
                          case measure => omega
                          case rel => exact ⟨j + 1, sz2, us2, E2, last2, cur, am2, cm2, T1, Bx, by omega, rfl, by go_num, rfl, rfl, HBn.out, HWE2.out, HTx.out, ⟨HIt.out.1, HIx.out⟩, HCx.out⟩
                        · rintro ⟨kx, cx, wB, left1, cnt1, hwk, hrg1, hlt1, hg1, hs1, hen⟩
                          dsimp only
                          have HCy := Lib.hid (cm_iter HCx.out hg1 (fun r e => by cases e; exact ⟨HLO.out, rgW_obj HRG.out⟩))
                          have hq := (Below.refl wB.heap.size wB).alloc (Nat.le_refl _) (valB kx)
                          have HCq := Lib.hid (cm_below HCy.out hq)
                          have HRq := Lib.hid (rgW_below hrg1 hq)
                          have HA := Lib.hid (at_any (prs E2) (by rw [prs_len]; have := HBn.out; omega) kx _ HCq.out.m)
                          rw [prs_len] at HA
                          have HO := Lib.hid (heap_alloc_new wB (valB kx))
                          obtain ⟨k0, k1, k2⟩ := three HO.out
                          have HWK := Lib.hid hwk
                          have HLT := Lib.hid hlt1
                          clear hq hrg1 hlt1 hg1 hs1 hwk HCy
                          unfold valB at HCq HRq HA HO k0 k1 k2
                          go_wp2_with fail
                          refine HA.out.mono ?_
                          rintro e wC ⟨rfl, hbC⟩
                          have HCr := Lib.hid (cm_below HCq.out hbC)
                          have HRr := Lib.hid (rgW_below HRq.out hbC)
                          have HOr := Lib.hid ((hbC.block _ (lt_of_block HO.out)).trans HO.out)
                          clear k0 k1 k2 HO HA hbC HCq HRq
                          obtain ⟨k0, k1, k2⟩ := three HOr.out
                          rcases idx_tab kx E2 with ⟨hi, hno⟩ | ⟨i2, v2', c2', hi2, hi⟩
                          · rw [hi]
                            have HNO := Lib.hid hno
                            have hkey := klit_of HWK.out
                            unfold agV at hkey
                            have HKEY := Lib.hid hkey
                            clear hi hno hkey
                            go_wp2_with (first
                              | (at_delete; refine wpList_delete_ranges _ rfl _ _ 39 30 rfl 4 lawK Try.underlying39 _ _ _ _ _ _ _ rfl HRr.out _ _ rfl HKEY.out ?_; intro wD cnt2 hrg2 hle hturn; have HCs := Lib.hid (cm_born HCr.out hturn.grown hrg2.owns (Nat.le_refl _)); have HRs := Lib.hid (show RgW wD (wz.heap.size + 1) wc.heap.size (2 * (j + 1)) (Bx.del (klit kx)) (fun z => left1 z && !z.sameKey (klit kx)) cnt2 from hrg2); have HLE := Lib.hid hle; have HSs := Lib.hid hturn.grown.size; clear hrg2 hle hturn; go_frame))
                            go_roundw
                            case rel => exact ⟨_, cnt2, _, HRs.out, IsMap.del HIx.out _, tel_sweep HTx.out HWE2.out HWK.out HNO.out, HCs.out⟩
                            case measure =>
                              rw [World.ranges.left_eq HRs.out, World.ranges.left_eq HRG.out]
                              have h1 := HLE.out
                              have h2 := HLT.out
                              omega
                          · rw [hi]
                            have hi0 : ¬ (i2 : Int) < 0 := by omega
                            clear hi hi2
                            go_wp2_with fail
                            go_roundw
                            case rel => exact ⟨_, cnt1, _, HRr.out, HIx.out, HTx.out, HCr.out⟩
                            case measure =>
                              rw [World.ranges.left_eq HRr.out, World.ranges.left_eq HRG.out]
                              exact HLT.out
            · go_wp2_with fail
              refine (next_some _ HC.out.hB HC.out.t ht hc hb).mono ?_
              rintro e w5 ⟨rfl, hT5, hst5⟩
              have hC5 := cm_next HC.out hst5 hT5
              have hq := ((Below.refl w5.heap.size w5).alloc (Nat.le_refl _) (valB k)).alloc (by simp) (valB v)
              have hC6 := cm_below hC5 hq
              have hk6 : ((w5.alloc (valB k)).alloc (valB v)).heap[w5.heap.size]? = some (valB k) := (heap_alloc_old (w5.alloc (valB k)) (valB v) (show w5.heap.size < _ by simp)).trans (heap_alloc_new w5 (valB k))
              have hv6 : ((w5.alloc (valB k)).alloc (valB v)).heap[w5.heap.size + 1]? = some (valB v) := by
                have h := heap_alloc_new (w5.alloc (valB k)) (valB v)
                rw [World.size_alloc] at h; exact h
              have HC6 := Lib.hid hC6
              have HK6 := Lib.hid hk6
              have HV6 := Lib.hid hv6
              have htl := (List.getElem?_eq_some_iff.1 ht).1
              obtain ⟨gm, hgm, _, _⟩ := row_some hC6.m (by rw [prs_len]; omega)
              subst hgm
              have HT0 := Lib.hid ht
              have HCC := Lib.hid hc
              have HBB := Lib.hid hb
              clear hC5 hq hC6 hk6 hv6 hT5 hst5 HC ht hc hb
              unfold valB at HC6 HK6 HV6
              go_upto_block 4 with fail
              go_cut [18, 19, 20] (fun s18 _ _ wx => s18 = .int .i64 (t : Int) ∧ Hid (Below ((w5.alloc (.cells #[.int .i64 k.1, .int .i64 k.2.1, .string k.2.2] 30)).alloc (.cells #[.int .i64 v.1, .int .i64 v.2.1, .string v.2.2] 30)).heap.size ((w5.alloc (.cells #[.int .i64 k.1, .int .i64 k.2.1, .string k.2.2] 30)).alloc (.cells #[.int .i64 v.1, .int .i64 v.2.1, .string v.2.2] 30)) wx))
              case first =>
                go_wp2_with fail
                go_loopg [18, 19, 20, 69] E.length (fun g s18 _ _ i wx => ∃ n : Nat, n ≤ t ∧ g = E.length - n ∧ s18 = .int .i64 (-1) ∧ i = .int .i64 (n : Int) ∧ Hid (Below ((w5.alloc (.cells #[.int .i64 k.1, .int .i64 k.2.1, .string k.2.2] 30)).alloc (.cells #[.int .i64 v.1, .int .i64 v.2.1, .string v.2.2] 30)).heap.size ((w5.alloc (.cells #[.int .i64 k.1, .int .i64 k.2.1, .string k.2.2] 30)).alloc (.cells #[.int .i64 v.1, .int .i64 v.2.1, .string v.2.2] 30)) wx))
                case atStart => exact ⟨0, by omega, by omega, rfl, rfl, Below.refl _ _⟩
                case round =>
                  obtain ⟨n, hn, rfl, rfl, rfl, HX⟩ := hrel
                  obtain ⟨⟨x, y, c2⟩, he⟩ := get_some (show n < E.length by omega)
                  have hC7 := cm_below HC6.out HX.out
                  obtain ⟨r0, r1, r2, r3, r4, r5⟩ := ownM_at hC7.m (prs_at he)
                  have hq := HX.out.alloc HX.out.size (pairB (x, y))
                  obtain ⟨d0, d1, d2, d3, d4, d5⟩ := sixB (heap_alloc_new wr (pairB (x, y)))
                  have hC8 := cm_below HC6.out hq
                  have hR1 := look_in hC8.tt (HWE.out n x y c2 he)
                  have hR2 := look_in hC8.bn (HWE.out n x y c2 he)
                  have hte := HTEL.out n x y c2 he
                  have HQ := Lib.hid hq
                  have hnl : (n : Int) < (E.length : Int) := by omega
                  unfold pairB at hR1 hR2 HQ d0 d1 d2 d3 d4 d5
                  unfold agV at hR1 hR2
                  by_cases hnt : n = t
                  · have hd : inS T x = false ∨ inS Bn x = true := by
                      subst hnt
                      have h0 := HT0.out
                      rw [he] at h0
                      cases h0
                      exact hte.2 HCC.out
                    cases htx : inS T x with
                    | false =>
                      rw [htx] at hR1
                      clear hte hd hC7 hC8 hq he hR2 HX
                      subst hnt
                      go_wp2_with fail
                      go_meet
                      exact ⟨rfl, HQ.out⟩
                    | true =>
                      have hbx : inS Bn x = true := by rcases hd with h | h; rw [htx] at h; cases h; exact h
                      rw [htx] at hR1
                      rw [hbx] at hR2
                      clear hte hd hC7 hC8 hq he HX
                      subst hnt
                      go_wp2_with fail
                      go_meet
                      exact ⟨rfl, HQ.out⟩
                  · have hle := HBB.out n x y c2 (by omega) he
                    have htx : inS T x = true := by
                      cases h : inS T x with
                      | true => rfl
                      | false => exact absurd (hte.1 (Or.inl h)) (by omega)
                    have hbx : inS Bn x = false := by
                      cases h : inS Bn x with
                      | false => rfl
                      | true => exact absurd (hte.1 (Or.inr h)) (by omega)
                    rw [htx] at hR1
                    rw [hbx] at hR2
                    clear hte hC7 hC8 hq he HX hle
                    go_wp2_with fail
                    go_roundg (E.length - (n + 1))
                    case measure => omega
                    case rel => exact ⟨n + 1, by omega, rfl, rfl, by go_num, HQ.out⟩
              case rest =>
                obtain ⟨rfl, HX⟩ := hcut
                have hC7 := cm_below HC6.out HX
                have hk7 := (HX.block _ (lt_of_block HK6.out)).trans HK6.out
                have hv7 := (HX.block _ (lt_of_block HV6.out)).trans HV6.out
                obtain ⟨r0, r1, r2, r3, r4, r5⟩ := ownM_at hC7.m (prs_at HT0.out)
                obtain ⟨k0, k1, k2⟩ := three hk7
                obtain ⟨v0, v1, v2⟩ := three hv7
                have ht0 : (0 : Int) ≤ (t : Int) := by omega
                have ht1 : (t : Int) < (E.length : Int) := by omega
                have hcc : ¬ c ≤ cur := by have := HCC.out; omega
                have HC7 := Lib.hid hC7
                have HK7 := Lib.hid hk7
                clear hC7 hk7 hv7 HX HC6 HK6 HV6
                go_wp2_with fail
                go_quiet (fail)
                have hC9 := cm_below HC7.out (below_drewN (Below.refl wc.heap.size wc) nq)
                have hk9 : (wc.drewN nq).heap[w5.heap.size]? = _ := HK7.out
                clear r0 r1 r2 r3 r4 r5 k0 k1 k2 v0 v1 v2 HC7 HK7
                have hcb : decide (c ≤ cur) = false := decide_eq_false (by omega)
                generalize hwd : wc.drewN nq = wd at *
                clear hwd
                obtain ⟨k0, k1, k2⟩ := three hk9
                have hwk := HWE.out t k v c HT0.out
                have hkey := klit_of hwk
                unfold agV at hkey
                have hcu := isTab_cur hC9.t HT0.out
                have HTt := Lib.hid (tel_next HTEL.out HIM.out.1 HWE.out (isTab_nodup hC9.t) (isTab_rise hC9.t).1 HT0.out HCC.out HBB.out)
                have HIt : Hid (IsMap (T.put (klit k) (.lit (.bool true))) ∧ IsMap (Bn.del (klit k))) := ⟨IsMap.put HIM.out.1 _ _, IsMap.del HIM.out.2 _⟩
                have HBt : Hid (E.length ≤ 100 + j ∧ last ≤ 100 + j ∧ 0 ≤ c ∧ c ≤ last) := by have := HBD.out; exact ⟨by omega, by omega, by omega, by omega⟩
                have HK9 := Lib.hid hk9
                have HC9 := Lib.hid hC9
                have HKEY := Lib.hid hkey
                clear hk9 hC9 hkey hwk hcu HTEL HIM HBD HT0 HCC HBB ht0 ht1 htl
                go_upto_region 35 with (first
                  | (at_mapUpdate; refine wpList_mapUpdate_own _ rfl _ _ _ 39 rfl 30 4 lawK Try.underlying39 _ _ _ _ rfl HC9.out.tt (by unfold maxLen; omega) _ _ _ rfl rfl HKEY.out _ [] (plainElem_bool Try.underlying4 true) ?_; intro w7 hown7 hg7; have HC10 := Lib.hid (cm_told HC9.out hg7 hown7 (Nat.le_succ _)); have hk10 := grown_cells (B := 0) hg7 (fun r e => by cases e; exact ⟨Nat.zero_le _, setW_obj HC9.out.tt⟩) HK9.out; clear k0 k1 k2; obtain ⟨k0, k1, k2⟩ := three hk10; clear hk10 hown7 hg7)
                  | (at_delete; refine wpList_delete_own _ rfl _ _ 39 30 rfl 4 lawK Try.underlying39 _ _ _ _ rfl HC10.out.bn _ _ rfl HKEY.out ?_; intro w8 hown8 ht8; have HCt := Lib.hid (cm_born HC10.out ht8.grown hown8 (Nat.le_refl _)); clear hown8 ht8 HC10))
                clear k0 k1 k2 HC9 HK9 HKEY hcc hcb
                obtain ⟨T1, B1, HTt, HIt, HCt⟩ : ∃ T1 B1, Hid (Tel T1 B1 E c) ∧ Hid (IsMap T1 ∧ IsMap B1) ∧ Hid (CM w3.heap.size wz.heap.size (wz.heap.size + 1) b sz us E last (some ⟨gm, 0, none⟩) cm T1 B1 (2 * j + 1) w w8) := ⟨_, _, HTt, HIt, HCt⟩
                by_cases hjl : j = L2.length
                · have hjb : ((j : Int) == (L2.length : Int)) = true := by simp [hjl]
                  clear hjl
                  go_wp2_with fail
                  go_ret
                  exact ⟨rfl, HCt.out.z⟩
                · have hjb : ((j : Int) == (L2.length : Int)) = false := by rw [beq_eq_false_iff_ne]; omega
                  have hlt2 : j < L2.length := by omega
                  have hlt3 : (j : Int) < (L2.length : Int) := by omega
                  have hj0 : (0 : Int) ≤ (j : Int) := by omega
                  obtain ⟨⟨kd, x, y⟩, he⟩ := get_some hlt2
                  rcases HJ0.out with rfl | ⟨g2, off2, rfl, hg2, ha2⟩
                  · simp at hlt2
                  obtain ⟨c0, c1', c2, c3, c4, c5, c6⟩ := atO_keep ha2 (HCt.out.z.block _ hg2) j kd x y he
                  have hq := (Below.refl w8.heap.size w8).alloc (Nat.le_refl _) (opB kd x y)
                  have HC2 := Lib.hid (cm_below HCt.out hq)
                  have ho := heap_alloc_new w8 (opB kd x y)
                  obtain ⟨d0, d1, d2, d3, d4, d5, d6⟩ := seven ho
                  have HOK := Lib.hid (HR3.out j kd x y he)
                  have HWX := Lib.hid (wf_ok HOK.out (HW2.out j kd x y he))
                  have HA := Lib.hid (at_any (prs E) (by rw [prs_len]; omega) x _ HC2.out.m)
                  rw [prs_len] at HA
                  have HO := Lib.hid ho
                  clear hq ho he hjl ha2 hg2 HCt
                  unfold opB at HC2 HO HA d0 d1 d2 d3 d4 d5 d6
                  go_wp2_with fail
                  refine HA.out.mono ?_
                  rintro e wA ⟨rfl, hbA⟩
                  have HC3 := Lib.hid (cm_below HC2.out hbA)
                  have HO1 := Lib.hid ((hbA.block _ (lt_of_block HO.out)).trans HO.out)
                  clear c0 c1' c2 c3 c4 c5 c6 d0 d1 d2 d3 d4 d5 d6 HA HC2 HO hbA
                  obtain ⟨d0, d1, d2, d3, d4, d5, d6⟩ := seven HO1.out
                  obtain ⟨E2, last2, hact, hdo⟩ := do_any kd x y HOK.out wA HC3.out.hB (Lib.hid (Nat.le_refl w3.heap.size)) (by have := HBt.out; omega) (by have := HBt.out; omega) HC3.out.t HC3.out.m
                  have HBn : Hid (E2.length ≤ 100 + (j + 1) ∧ last2 ≤ 100 + ((j + 1 : Nat) : Int) ∧ 0 ≤ c ∧ c ≤ last2) := by
                    have h1 := act_len hact
                    have h2 := does_last hact
                    have h3 := HBt.out
                    exact ⟨by omega, by omega, by omega, by omega⟩
                  have HAC := Lib.hid hact
                  have HDO := Lib.hid hdo
                  have HWE2 := Lib.hid (wf_does hact HWE.out HWX.out)
                  have HIX : Hid ((idx x (prs E) 0 < 0 ∧ NoKey E x) ∨ (0 ≤ idx x (prs E) 0 ∧ ∃ (i : Nat) (v : Vl) (c : Int), E[i]? = some (x, v, c))) := by
                    rcases idx_tab x E with ⟨h1, h2⟩ | ⟨i, v', c', h1, h2⟩
                    · exact Or.inl ⟨by omega, Or.inr h2⟩
                    · exact Or.inr ⟨by omega, i, v', c', h1⟩
                  generalize idx x (prs E) 0 = R at *
                  unfold opV at HDO
                  clear hact hdo
                  go_wp2_with fail
                  refine HDO.out.mono ?_
                  rintro e w9 ⟨am2, cm2, sz2, us2, rfl, hT9, hM9, hst9⟩
                  have HC4 := Lib.hid (cm_st HC3.out hst9 hT9 hM9)
                  have HO9 := Lib.hid (box_op hst9.f HO1.out)
                  clear d0 d1 d2 d3 d4 d5 d6 HC3 HO1 hT9 hM9 hst9 HDO
                  obtain ⟨d0, d1, d2, d3, d4, d5, d6⟩ := seven HO9.out
                  go_upto_region 41 with fail
                  go_cut [166] (fun s wx => s = .bool (decide (kd = 0 ∧ R < 0 ∧ x.1 ≠ 0)) ∧ wx = w9)
                  case first =>
                    by_cases h0 : kd = 0
                    · have e0 : (kd == 0) = true := by simp [h0]
                      by_cases hr : 0 ≤ R
                      · have er : decide (0 ≤ R) = true := decide_eq_true hr
                        have hd : Hid (decide (kd = 0 ∧ R < 0 ∧ x.1 ≠ 0) = false) := decide_eq_false (fun h => by omega)
                        clear h0 hr
                        go_wp2_with fail
                        go_meet
                        exact ⟨by rw [hd.out], rfl⟩
                      · have er : decide (0 ≤ R) = false := decide_eq_false hr
                        by_cases hx : x.1 = 0
                        · have ex : (x.1 != 0) = false := by simp [hx]
                          have hd : Hid (decide (kd = 0 ∧ R < 0 ∧ x.1 ≠ 0) = false) := decide_eq_false (fun h => by omega)
                          clear h0 hr hx
                          go_wp2_with fail
                          go_meet
                          exact ⟨by rw [hd.out], rfl⟩
                        · have ex : (x.1 != 0) = true := by simp [hx]
                          have hd : Hid (decide (kd = 0 ∧ R < 0 ∧ x.1 ≠ 0) = true) := decide_eq_true ⟨h0, by omega, hx⟩
                          clear h0 hr hx
                          go_wp2_with fail
                          go_meet
                          exact ⟨by rw [hd.out], rfl⟩
                    · have e0 : (kd == 0) = false := by rw [beq_eq_false_iff_ne]; exact h0
                      have hd : Hid (decide (kd = 0 ∧ R < 0 ∧ x.1 ≠ 0) = false) := decide_eq_false (fun h => h0 h.1)
                      clear h0
                      go_wp2_with fail
                      go_meet
                      exact ⟨by rw [hd.out], rfl⟩
                  case rest =>
                    obtain ⟨rfl, rfl⟩ := hcut
                    go_upto_if 166 with fail
                    go_cut [167] (fun _ wx => ∃ B2 : DataW Unit, Hid (IsMap B2) ∧ Hid (Tel T1 B2 E2 c) ∧ Hid (CM w3.heap.size wz.heap.size (wz.heap.size + 1) b sz2 us2 E2 last2 am2 cm2 T1 B2 (2 * (j + 1)) w wx))
                    case first =>
                      by_cases hnew : kd = 0 ∧ R < 0 ∧ x.1 ≠ 0
                      · have hd : decide (kd = 0 ∧ R < 0 ∧ x.1 ≠ 0) = true := decide_eq_true hnew
                        have hn : kd = 0 ∧ x ≠ nul ∧ NoKey E x := ⟨hnew.1, fun e => hnew.2.2 (by rw [e]; rfl), by
                          rcases HIX.out with h | h
                          · exact h.2
                          · exact absurd hnew.2.1 (by omega)⟩
                        have HT2 := Lib.hid (tel_new HTt.out HIt.out.2 HWE.out HWX.out (by have := HBt.out; omega) HAC.out hn)
                        have hkey := klit_of HWX.out
                        unfold agV at hkey
                        have HKEY := Lib.hid hkey
                        rw [hd]
                        clear hkey hn hd hnew
                        go_wp2_with (first
                          | (at_mapUpdate; refine wpList_mapUpdate_own _ rfl _ _ _ 39 rfl 30 4 lawK Try.underlying39 _ _ _ _ rfl HC4.out.bn (by unfold maxLen; omega) _ _ _ rfl rfl HKEY.out _ [] (plainElem_bool Try.underlying4 true) ?_; intro wN hownN hgN; have HCN := Lib.hid (cm_born HC4.out hgN hownN (Nat.le_succ _)); clear hownN hgN))
                        go_meet
                        exact ⟨_, IsMap.put HIt.out.2 _ _, HT2.out, HCN.out⟩
                      · have hd : decide (kd = 0 ∧ R < 0 ∧ x.1 ≠ 0) = false := decide_eq_false hnew
                        have hn : ¬ (kd = 0 ∧ x ≠ nul ∧ NoKey E x) := fun h => by
                          rcases HIX.out with h1 | h1
                          · exact hnew ⟨h.1, h1.1, fun e => h.2.1 (HOK.out.2.1 e)⟩
                          · obtain ⟨_, i, v', c', h2⟩ := h1
                            rcases h.2.2 with h3 | h3
                            · exact h.2.1 h3
                            · exact h3 i v' c' h2
                        have HT2 := Lib.hid (tel_old HTt.out HAC.out hn)
                        rw [hd]
                        clear hn hd hnew
                        go_wp2_with fail
                        go_meet
                        exact ⟨_, HIt.out.2, HT2.out, cm_mono HC4.out (by omega)⟩
                    case rest =>
                      obtain ⟨B2, HI2, HT2, HC5⟩ := hcut
                      have hlow := HC5.out.z.size
                      have hlt := lt_of_block (setW_obj HC5.out.tt).choose_spec.1
                      have hlb := lt_of_block (setW_obj HC5.out.bn).choose_spec.1
                      have HLO : Hid (w.heap.size ≤ wc.heap.size ∧ wc.heap.size ≠ wz.heap.size ∧ wc.heap.size ≠ wz.heap.size + 1) := ⟨hlow, by omega, by omega⟩
                      clear hlow hlt hlb d0 d1 d2 d3 d4 d5 d6
                      go_wp2_with (first
                        | (at_range; refine wpList_range_own _ rfl _ 39 rfl 30 4 lawK Try.underlying39 _ _ _ _ rfl HC5.out.bn ?_; intro wR hrg0 hg0 hs0; have HR0 := Lib.hid hrg0; have HCR := Lib.hid (cm_iter HC5.out hg0 (fun r e => by cases e)); clear hrg0 hg0 hs0))
                      go_frame
                      go_loopw [23] (fun _ wr => ∃ (left : Lit → Bool) (cnt : Nat) (Bx : DataW Unit), Hid (RgW wr (wz.heap.size + 1) wc.heap.size (2 * (j + 1)) Bx left cnt) ∧ Hid (IsMap Bx) ∧ Hid (Tel T1 Bx E2 c) ∧ Hid (CM w3.heap.size wz.heap.size (wz.heap.size + 1) b sz2 us2 E2 last2 am2 cm2 T1 Bx (2 * (j + 1)) w wr) ) (fun _ wr => wr.rangeLeft (wz.heap.size + 1) wc.heap.size)
                      case atStart => exact ⟨_, _, _, HR0.out, HI2.out, HT2.out, HCR.out⟩
                      case round =>
                        obtain ⟨left, cnt, Bx, HRG, HIx, HTx, HCx⟩ := hrel
                        clear HR0 HCR HI2 HT2 HC5
                        go_wp2_with (first
                          | (at_next; refine next_set rfl _ rfl rfl HRG.out ?_ ?_))
                        · go_roundg (L2.length - (j + 1))
                          case measure => omega
                          case rel => exact ⟨j + 1, sz2, us2, E2, last2, c, am2, cm2, T1, Bx, by omega, rfl, by go_num, rfl, rfl, HBn.out, HWE2.out, HTx.out, ⟨HIt.out.1, HIx.out⟩, HCx.out⟩
                        · rintro ⟨kx, cx, wB, left1, cnt1, hwk, hrg1, hlt1, hg1, hs1, hen⟩
                          dsimp only
                          have HCy := Lib.hid (cm_iter HCx.out hg1 (fun r e => by cases e; exact ⟨HLO.out, rgW_obj HRG.out⟩))
                          have hq := (Below.refl wB.heap.size wB).alloc (Nat.le_refl _) (valB kx)
                          have HCq := Lib.hid (cm_below HCy.out hq)
                          have HRq := Lib.hid (rgW_below hrg1 hq)
                          have HA := Lib.hid (at_any (prs E2) (by rw [prs_len]; have := HBn.out; omega) kx _ HCq.out.m)
                          rw [prs_len] at HA
                          have HO := Lib.hid (heap_alloc_new wB (valB kx))
                          obtain ⟨k0, k1, k2⟩ := three HO.out
                          have HWK := Lib.hid hwk
                          have HLT := Lib.hid hlt1
                          clear hq hrg1 hlt1 hg1 hs1 hwk HCy
                          unfold valB at HCq HRq HA HO k0 k1 k2
                          go_wp2_with fail
                          refine HA.out.mono ?_
                          rintro e wC ⟨rfl, hbC⟩
                          have HCr := Lib.hid (cm_below HCq.out hbC)
                          have HRr := Lib.hid (rgW_below HRq.out hbC)
                          have HOr := Lib.hid ((hbC.block _ (lt_of_block HO.out)).trans HO.out)
                          clear k0 k1 k2 HO HA hbC HCq HRq
                          obtain ⟨k0, k1, k2⟩ := three HOr.out
                          rcases idx_tab kx E2 with ⟨hi, hno⟩ | ⟨i2, v2', c2', hi2, hi⟩
                          · rw [hi]
                            have HNO := Lib.hid hno
                            have hkey := klit_of HWK.out
                            unfold agV at hkey
                            have HKEY := Lib.hid hkey
                            clear hi hno hkey
                            go_wp2_with (first
                              | (at_delete; refine wpList_delete_ranges _ rfl _ _ 39 30 rfl 4 lawK Try.underlying39 _ _ _ _ _ _ _ rfl HRr.out _ _ rfl HKEY.out ?_; intro wD cnt2 hrg2 hle hturn; have HCs := Lib.hid (cm_born HCr.out hturn.grown hrg2.owns (Nat.le_refl _)); have HRs := Lib.hid (show RgW wD (wz.heap.size + 1) wc.heap.size (2 * (j + 1)) (Bx.del (klit kx)) (fun z => left1 z && !z.sameKey (klit kx)) cnt2 from hrg2); have HLE := Lib.hid hle; have HSs := Lib.hid hturn.grown.size; clear hrg2 hle hturn; go_frame))
                            go_roundw
                            case rel => exact ⟨_, cnt2, _, HRs.out, IsMap.del HIx.out _, tel_sweep HTx.out HWE2.out HWK.out HNO.out, HCs.out⟩
                            case measure =>
                              rw [World.ranges.left_eq HRs.out, World.ranges.left_eq HRG.out]
                              have h1 := HLE.out
                              have h2 := HLT.out
                              omega
                          · rw [hi]
                            have hi0 : ¬ (i2 : Int) < 0 := by omega
                            clear hi hi2
                            go_wp2_with fail
                            go_roundw
                            case rel => exact ⟨_, cnt1, _, HRr.out, HIx.out, HTx.out, HCr.out⟩
                            case measure =>
                              rw [World.ranges.left_eq HRr.out, World.ranges.left_eq HRG.out]
                              exact HLT.out
end Go.Proofs.Ytipdjjgpcmbpdaa.Ta
