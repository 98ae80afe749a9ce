/- Contract of dreyref08.Front: names. -/
import Derived.Test.YthjmlgbnpnfkgaaDoorLexQ
set_option linter.unusedVariables false
namespace Go.Proofs.YthjmlgbnpnfkgaaDoor.Lx
open Go.RowKit Go.ChangeShapes Go.WideShapes Go.ChangeAt Go.Proofs.YthjmlgbnpnfkgaaDoor.Nu

set_option maxRecDepth 100000 in
set_option maxHeartbeats 4000000 in
theorem front_name (s : ByteArray) (hs : s.size ≤ 2100) (h0 : 0 < s.size) (hst0 : stB s[0].toNat = true) (w : World) :
    Calls Tryd.prog 15 #[.string s] w fun e w' => FR (frN s.data.toList) e ∧ Below w.heap.size w w' := by
  have hle := wl_le s.data.toList
  rw [size_list] at hle
  have hd0 := drop_byte s 0 h0
  rw [List.drop_zero] at hd0
  have hw0 : isW s[0] = true := by unfold isW; rw [hst0, Bool.or_true]
  have hpos : 0 < wl s.data.toList := by rw [hd0, wl_yes hw0]; omega
  have hc0 := byte_lt s 0 h0
  have hd48 : 65 ≤ s[0].toNat := by
    have := hst0
    simp [stB, loB, upB] at this; omega
  have q48 : (48 : Int) ≤ (s[0].toNat : Int) := by omega
  have q57 : (57 : Int) < (s[0].toNat : Int) := by omega
  have HW0 : Hid (wl s.data.toList = 0 + wl (s.data.toList.drop 0)) := by show _ = _; rw [List.drop_zero]; omega
  have hb : Below w.heap.size w (zerT w) := (Below.refl _ _).alloc (Nat.le_refl _) _
  have hm : (zerT w).heap[w.heap.size]? = _ := heap_alloc_new w _
  have HI0 : Hid (∀ W, Calls Tryd.prog 26 #[.int .u8 (s[0].toNat : Int)] W fun e w' => e = .returned (.bool true) ∧ W = w') := fun W => by
    have h := inner_any s[0].toNat hc0 W
    rw [show (dgB s[0].toNat || stB s[0].toNat) = true from hw0] at h
    exact h
  obtain ⟨F, hF⟩ : ∃ F, frN s.data.toList = F := ⟨_, rfl⟩
  rw [hF]
  have hxe : s.extract 0 (wl s.data.toList) = ⟨(s.data.toList.take (wl s.data.toList)).toArray⟩ := ext_mk s _
  have hF2 : F.c = 0 ∧ F.a = 0 ∧ F.k = (if hasK (s.extract 0 (wl s.data.toList)) 35 = true then 2 else 1) ∧ (⟨F.x.toArray⟩ : ByteArray) = s.extract 0 (wl s.data.toList) ∧ F.v = 0 ∧ F.n = wl s.data.toList := by
    rw [← hF, hasK_all]
    unfold frN
    rw [hxe, byteArray_list]
    exact ⟨rfl, rfl, rfl, rfl, rfl, rfl⟩
  have HFF := Lib.hid hF2
  generalize hwl : wl s.data.toList = n at *
  clear hd0 hst0 hw0 hd48 hxe hF2 hF
  go_enter Tryd.func15, Tryd.ntmps15
  go_wp2_with fail
  refine (HI0.out _).mono ?_
  rintro e' w1 ⟨rfl, rfl⟩
  clear HI0
  go_wp2_with fail
  rw [show w.alloc (.cells #[.int .i64 0, .int .i64 0, .string ⟨#[]⟩, .int .i64 0, .bool false] 34) = zerT w from rfl]
  have HB := Lib.hid hb
  have HM := Lib.hid hm
  clear hb hm
  generalize zerT w = W at *
  go_loop [10] (fun i => ∃ k : Nat, k ≤ s.size ∧ i = .int .i64 (k : Int) ∧ Hid (n = k + wl (s.data.toList.drop k))) (fun i => s.size - (intOf i).toNat)
  case atStart => exact ⟨0, by omega, rfl, HW0.out⟩
  case round =>
    obtain ⟨k, hk, rfl, HU⟩ := hrel
    by_cases hlt : k < s.size
    · have hdk := drop_byte s k hlt
      have hck := byte_lt s k hlt
      have hst := wl_step (l := s.data.toList) (k := k) (by rw [hwl]; exact HU.out) hdk rfl
      rw [hwl] at hst
      have HIN : Hid (Calls Tryd.prog 26 #[.int .u8 (s[k].toNat : Int)] W fun e w' => e = .returned (.bool (isW s[k])) ∧ W = w') := inner_any s[k].toNat hck W
      clear hdk HU
      generalize hy : s[k] = c at *
      by_cases hw : isW c = true
      · have HU2 := Lib.hid (hst.1 hw)
        rw [hw] at HIN
        clear hst hw
        go_wp2_with fail
        refine HIN.out.mono ?_
        rintro e' w1 ⟨rfl, rfl⟩
        go_wp2_with fail
        go_round
        case rel => exact ⟨k + 1, by omega, by go_num, HU2⟩
        case measure => simp [intOf]; omega
      · rw [Bool.not_eq_true] at hw
        have hnk := hst.2 hw
        rw [hw] at HIN
        clear hst hw
        subst hnk
        go_wp2_with fail
        refine HIN.out.mono ?_
        rintro e' w1 ⟨rfl, rfl⟩
        clear HIN
        go_wp2_with fail
        refine (words_any _).mono ?_
        rintro e' w3 ⟨g, rfl, hg2, hc2, hb3⟩
        have hm3 : w3.heap[w.heap.size]? = _ := (hb3.block _ (lt_of_block HM.out)).trans HM.out
        have HB3 := Lib.hid (HB.out.trans (hb3.mono HB.out.size))
        have HM3 := Lib.hid hm3
        have HC2 := Lib.hid hc2
        have hk35 : kwB.length = 35 := by decide
        clear hm3 hb3 hc2
        go_wp2_with fail
        go_loopw [11, 13] (fun b i wr => ∃ k : Nat, k ≤ 35 ∧ i = .int .i64 (k : Int) ∧ b = .int .i64 (if hasK (s.extract 0 n) k = true then 2 else 1) ∧ Below w3.heap.size w3 wr) (fun _ i _ => 35 - (intOf i).toNat)
        case atStart => exact ⟨0, by omega, rfl, rfl, Below.refl _ _⟩
        case round =>
          obtain ⟨k, hk, rfl, rfl, hb4⟩ := hrel
          by_cases hlt : k < 35
          · have hc := cell_below hb4 hg2 (HC2.out k (by omega))
            have hnx := hasK_next (s.extract 0 n) k (by omega)
            have HNX := Lib.hid hnx
            clear hnx
            generalize kwB[k]'(by omega) = y at *
            generalize hasK (s.extract 0 n) k = b at *
            by_cases hy : y.toList = (s.extract 0 n).toList
            · have hyb : (y.toList == (s.extract 0 n).toList) = true := by rw [beq_iff_eq]; exact hy
              have HY := Lib.hid hy
              clear hy
              cases b
              all_goals
                go_wp2_with fail
                go_quiet (fail)
                go_wp2_with fail
                go_roundw
                case rel => exact ⟨k + 1, by omega, by go_num, by rw [HNX.out]; simp [HY.out], below_drewN hb4 _⟩
                case measure => simp [intOf]; omega
            · have hyb : (y.toList == (s.extract 0 n).toList) = false := by rw [beq_eq_false_iff_ne]; exact hy
              have HY := Lib.hid hy
              clear hy
              cases b
              all_goals
                go_wp2_with fail
                go_quiet (fail)
                go_wp2_with fail
                go_roundw
                case rel => exact ⟨k + 1, by omega, by go_num, by rw [HNX.out]; simp [HY.out], below_drewN hb4 _⟩
                case measure => simp [intOf]; omega
          · obtain rfl : k = 35 := by omega
            obtain ⟨z0, z1, z2, z3, z4, _, _, _, _, _⟩ := fiveF ((hb4.block _ (lt_of_block HM3.out)).trans HM3.out)
            have HM4 := Lib.hid ((hb4.block _ (lt_of_block HM3.out)).trans HM3.out)
            have HB4 := Lib.hid (HB3.out.trans (hb4.mono HB3.out.size))
            clear hb4
            generalize (if hasK (s.extract 0 n) 35 = true then (2 : Int) else 1) = kk at *
            go_wp2_with fail
            (try simp only [Exit.inBlock, Exit.then])
            have HF := tokW_at HM4.out (.int .i64 kk) (.int .i64 0) (.string (s.extract 0 n)) (.int .i64 0) (.bool false)
            refine bodyPost_ret (results_f4 rfl _ _ w.heap.size _ rfl HF rfl) rfl ⟨?_, tokW_below HB4.out (Nat.le_refl _) _ _ _ _ _⟩
            obtain ⟨j1, j2, j3, j4, j5, j6⟩ := HFF.out
            exact ⟨kk, 0, n, s.extract 0 n, by rw [j1, j2]; rfl, fun h => ⟨j3.symm, j5.symm, by rw [j6], j4.symm⟩⟩
    · have hnk : n = k := by
        have h := HU.out
        rw [List.drop_eq_nil_of_le (by rw [size_list]; omega)] at h
        simpa [wl] using h
      clear HU
      subst hnk
      go_wp2_with fail
      refine (words_any _).mono ?_
      rintro e' w3 ⟨g, rfl, hg2, hc2, hb3⟩
      have hm3 : w3.heap[w.heap.size]? = _ := (hb3.block _ (lt_of_block HM.out)).trans HM.out
      have HB3 := Lib.hid (HB.out.trans (hb3.mono HB.out.size))
      have HM3 := Lib.hid hm3
      have HC2 := Lib.hid hc2
      have hk35 : kwB.length = 35 := by decide
      clear hm3 hb3 hc2
      go_wp2_with fail
      go_loopw [11, 13] (fun b i wr => ∃ k : Nat, k ≤ 35 ∧ i = .int .i64 (k : Int) ∧ b = .int .i64 (if hasK (s.extract 0 n) k = true then 2 else 1) ∧ Below w3.heap.size w3 wr) (fun _ i _ => 35 - (intOf i).toNat)
      case atStart => exact ⟨0, by omega, rfl, rfl, Below.refl _ _⟩
      case round =>
        obtain ⟨k, hk, rfl, rfl, hb4⟩ := hrel
        by_cases hlt : k < 35
        · have hc := cell_below hb4 hg2 (HC2.out k (by omega))
          have hnx := hasK_next (s.extract 0 n) k (by omega)
          have HNX := Lib.hid hnx
          clear hnx
          generalize kwB[k]'(by omega) = y at *
          generalize hasK (s.extract 0 n) k = b at *
          by_cases hy : y.toList = (s.extract 0 n).toList
          · have hyb : (y.toList == (s.extract 0 n).toList) = true := by rw [beq_iff_eq]; exact hy
            have HY := Lib.hid hy
            clear hy
            cases b
            all_goals
              go_wp2_with fail
              go_quiet (fail)
              go_wp2_with fail
              go_roundw
              case rel => exact ⟨k + 1, by omega, by go_num, by rw [HNX.out]; simp [HY.out], below_drewN hb4 _⟩
              case measure => simp [intOf]; omega
          · have hyb : (y.toList == (s.extract 0 n).toList) = false := by rw [beq_eq_false_iff_ne]; exact hy
            have HY := Lib.hid hy
            clear hy
            cases b
            all_goals
              go_wp2_with fail
              go_quiet (fail)
              go_wp2_with fail
              go_roundw
              case rel => exact ⟨k + 1, by omega, by go_num, by rw [HNX.out]; simp [HY.out], below_drewN hb4 _⟩
              case measure => simp [intOf]; omega
        · obtain rfl : k = 35 := by omega
          obtain ⟨z0, z1, z2, z3, z4, _, _, _, _, _⟩ := fiveF ((hb4.block _ (lt_of_block HM3.out)).trans HM3.out)
          have HM4 := Lib.hid ((hb4.block _ (lt_of_block HM3.out)).trans HM3.out)
          have HB4 := Lib.hid (HB3.out.trans (hb4.mono HB3.out.size))
          clear hb4
          generalize (if hasK (s.extract 0 n) 35 = true then (2 : Int) else 1) = kk at *
          go_wp2_with fail
          (try simp only [Exit.inBlock, Exit.then])
          have HF := tokW_at HM4.out (.int .i64 kk) (.int .i64 0) (.string (s.extract 0 n)) (.int .i64 0) (.bool false)
          refine bodyPost_ret (results_f4 rfl _ _ w.heap.size _ rfl HF rfl) rfl ⟨?_, tokW_below HB4.out (Nat.le_refl _) _ _ _ _ _⟩
          obtain ⟨j1, j2, j3, j4, j5, j6⟩ := HFF.out
          exact ⟨kk, 0, n, s.extract 0 n, by rw [j1, j2]; rfl, fun h => ⟨j3.symm, j5.symm, by rw [j6], j4.symm⟩⟩
end Go.Proofs.YthjmlgbnpnfkgaaDoor.Lx
