/- Contract of dreyref08.Front: what stands between quotes. -/
import Derived.Test.YthjmlgbnpnfkgaaDoorLexQ
set_option linter.unusedVariables false
namespace Go.Proofs.YthjmlgbnpnfkgaaDoor.Lx
open Go.RowKit Go.ChangeShapes Go.WideShapes Go.ChangeAt Go.Proofs.YthjmlgbnpnfkgaaDoor.Nu

set_option maxRecDepth 100000 in
set_option maxHeartbeats 4000000 in
theorem front_quote (s : ByteArray) (hs : s.size ≤ 2100) (h0 : 0 < s.size) (hq0 : s[0].toNat = 34 ∨ s[0].toNat = 39) (w : World) :
    Calls Tryd.prog 15 #[.string s] w fun e w' => FR (frQ s.data.toList) e ∧ Below w.heap.size w w' := by
  have hc0 := byte_lt s 0 h0
  have q48 : (s[0].toNat : Int) < 48 := by omega
  have hb : Below w.heap.size w (zerT w) := (Below.refl _ _).alloc (Nat.le_refl _) _
  have hm : (zerT w).heap[w.heap.size]? = _ := heap_alloc_new w _
  have HI0 : Hid (∀ W, Calls Tryd.prog 26 #[.int .u8 (s[0].toNat : Int)] W fun e w' => e = .returned (.bool false) ∧ W = w') := fun W => by
    have h := inner_any s[0].toNat hc0 W
    rw [show (dgB s[0].toNat || stB s[0].toNat) = false by rcases hq0 with h | h <;> rw [h] <;> rfl] at h
    exact h
  have HQ := Lib.hid fun W => rquoted_any s (by omega) h0 hq0 W
  have HSTEP : Hid (∀ w3, Below (zerT w).heap.size (zerT w) w3 → Below w.heap.size w w3 ∧ w3.heap[w.heap.size]? = some (.cells #[.int .i64 0, .int .i64 0, .string ⟨#[]⟩, .int .i64 0, .bool false] 34 (0, 0))) := fun w3 hb3 =>
    ⟨hb.trans (hb3.mono hb.size), keep hm hb3⟩
  have hql := qe_lt s.data.toList
  rw [size_list] at hql
  have hhd : s.data.toList.head? = some s[0] := by
    have hd0 := drop_byte s 0 h0
    rw [List.drop_zero] at hd0
    rw [hd0]; rfl
  clear hb hm
  have hF0 : frQ s.data.toList = if qe s.data.toList = 0 then bad 5 0 else if (inq s.data.toList (qe s.data.toList)).2 < 0 then (if s.data.toList.head? = some 34 then ⟨4, (inq s.data.toList (qe s.data.toList)).1, 0, qe s.data.toList + 1, 0, 0⟩ else if (inq s.data.toList (qe s.data.toList)).1.length = 1 then ⟨3, s.data.toList.take (qe s.data.toList + 1), (((inq s.data.toList (qe s.data.toList)).1.headD 0).toNat : Int), qe s.data.toList + 1, 0, 0⟩ else bad 5 0) else bad 20 (1 + (inq s.data.toList (qe s.data.toList)).2) := rfl
  have hu : 0 < qe s.data.toList → uneS (s.extract 1 (qe s.data.toList)) = inq s.data.toList (qe s.data.toList) := fun h => by
    have e1 : (s.extract 1 (qe s.data.toList)).data.toList = (s.data.toList.drop 1).take (qe s.data.toList - 1) := Lib.extract_data s 1 _
    have e2 : (s.extract 1 (qe s.data.toList)).size = qe s.data.toList - 1 := by simp; omega
    unfold uneS inq
    rw [e1, e2]
  obtain ⟨F, hF⟩ : ∃ F, frQ s.data.toList = F := ⟨_, rfl⟩
  rw [hF] at hF0 ⊢
  clear hF
  generalize qe s.data.toList = q at *
  have e39 : ((s[0].toNat : Int) == 34) = true ∨ (((s[0].toNat : Int) == 34) = false ∧ ((s[0].toNat : Int) == 39) = true) := by
    rcases hq0 with h | h
    · left; rw [h]; rfl
    · right; rw [h]; exact ⟨rfl, rfl⟩
  rcases hql with rfl | ⟨hq1, hq2⟩
  · rw [if_pos rfl] at hF0
    have HF0 := Lib.hid hF0
    rw [show quR 0 = -1 from rfl] at HQ
    clear hF0 hu hhd hq0
    rcases e39 with e39 | ⟨e34, e39⟩
    all_goals
      go_enter Tryd.func15, Tryd.ntmps15
      go_wp2_with fail
      refine (HI0.out _).mono ?_
      rintro e' w1 ⟨rfl, rfl⟩
      clear HI0
      go_wp2_with fail
      rw [show w.alloc (.cells #[.int .i64 0, .int .i64 0, .string ⟨#[]⟩, .int .i64 0, .bool false] 34) = zerT w from rfl]
      generalize zerT w = W at *
      refine (HQ.out _).mono ?_
      rintro e' w3 ⟨rfl, hb3⟩
      obtain ⟨hB3, hK3⟩ := HSTEP.out w3 hb3
      have HB3 := Lib.hid hB3
      have HK3 := Lib.hid hK3
      obtain ⟨z0, z1, z2, z3, z4, _, _, _, _, _⟩ := fiveF hK3
      clear hb3 hB3 hK3 HQ
      go_wp2_with fail
      (try simp only [Exit.inBlock, Exit.then])
      have HF := tokW_at HK3.out (.int .i64 0) (.int .i64 0) (.string ⟨#[]⟩) (.int .i64 0) (.bool false)
      refine bodyPost_ret (results_f4 rfl _ _ w.heap.size _ rfl HF rfl) rfl ⟨⟨0, 0, 0, ⟨#[]⟩, by rw [HF0.out]; rfl, fun h => absurd h (by rw [HF0.out]; show ¬ (5 : Int) = 0; decide)⟩, tokW_below HB3.out (Nat.le_refl _) _ _ _ _ _⟩
  · rw [if_neg (by omega)] at hF0
    obtain ⟨n, rfl⟩ : ∃ n, q = n + 1 := ⟨q - 1, by omega⟩
    rw [show quR (n + 1) = (n : Int) by unfold quR; rw [if_neg (by omega)]; omega] at HQ
    have hxs : (s.extract 1 (n + 1)).size ≤ 2100 := by simp; omega
    have HU := Lib.hid fun W => rune_any (s.extract 1 (n + 1)) hxs W
    rw [hu (by omega)] at HU
    have hbd := une_bd (n + 1 - 1) ((s.data.toList.drop 1).take (n + 1 - 1)) 0 [] (by rw [List.length_take]; omega)
    change (∃ r, inq s.data.toList (n + 1) = (r, -1) ∧ _) ∨ ∃ j : Nat, inq s.data.toList (n + 1) = ([], (j : Int)) ∧ _ at hbd
    rw [hhd] at hF0
    clear hu hhd
    rcases hbd with ⟨r, hr, hrl⟩ | ⟨j, hr, hrl⟩
    · rw [hr, if_pos (show (-1 : Int) < 0 by decide)] at hF0
      rw [hr] at HU
      unfold runeV at HU
      have hrl2 : r.length ≤ 2100 := by rw [List.length_take] at hrl; simp at hrl; omega
      have hrs : (⟨r.toArray⟩ : ByteArray).size = r.length := size_mk r
      obtain ⟨R, hR⟩ : ∃ R : ByteArray, R = ⟨r.toArray⟩ := ⟨_, rfl⟩
      have hRl : R.data.toList = r := by rw [hR]
      dsimp only at HU hF0
      rw [← hR] at HU hrs
      have HRR := Lib.hid hR
      have HRL := Lib.hid hRl
      clear hr hrl hR hRl hxs
      rcases e39 with e39 | ⟨e34, e39⟩
      · rw [if_pos (by rw [u8_eq.2 (show s[0].toNat = (34 : UInt8).toNat by rw [beq_iff_eq] at e39; show s[0].toNat = 34; omega)])] at hF0
        have HF0 := Lib.hid hF0
        clear hF0 hq0
        go_enter Tryd.func15, Tryd.ntmps15
        go_wp2_with fail
        refine (HI0.out _).mono ?_
        rintro e' w1 ⟨rfl, rfl⟩
        clear HI0
        go_wp2_with fail
        rw [show w.alloc (.cells #[.int .i64 0, .int .i64 0, .string ⟨#[]⟩, .int .i64 0, .bool false] 34) = zerT w from rfl]
        generalize zerT w = W at *
        refine (HQ.out _).mono ?_
        rintro e' w3 ⟨rfl, hb3⟩
        obtain ⟨hB3, hK3⟩ := HSTEP.out w3 hb3
        go_wp2_with fail
        refine (HU.out _).mono ?_
        rintro e' w4 ⟨rfl, hb4⟩
        obtain ⟨hB4, hK4⟩ := HSTEP.out w4 (hb3.trans (hb4.mono hb3.size))
        have HB4 := Lib.hid hB4
        have HK4 := Lib.hid hK4
        obtain ⟨z0, z1, z2, z3, z4, _, _, _, _, _⟩ := fiveF hK4
        clear hB3 hK3 hB4 hK4 hb3 hb4 HQ HU
        go_wp2_with fail
        (try simp only [Exit.inBlock, Exit.then])
        have HF := tokW_at HK4.out (.int .i64 4) (.int .i64 0) (.string R) (.int .i64 0) (.bool false)
        refine bodyPost_ret (results_f4 rfl _ _ w.heap.size _ rfl HF rfl) rfl ⟨⟨4, 0, (n : Int) + 2, R, by rw [HF0.out]; rfl, fun _ => by rw [HF0.out]; exact ⟨rfl, rfl, by show (n : Int) + 2 = ((n + 1 + 1 : Nat) : Int); omega, HRR.out⟩⟩, tokW_below HB4.out (Nat.le_refl _) _ _ _ _ _⟩
      · rw [if_neg (by intro h; rw [Option.some.inj h] at e34; exact absurd e34 (by decide))] at hF0
        by_cases h1 : R.size = 1
        · rw [if_pos (by omega)] at hF0
          have e1 : ((R.size : Int) != 1) = false := by rw [h1]; rfl
          have hR0 : 0 < R.size := by omega
          have hRb := byte_lt R 0 hR0
          have hhd : (r.headD 0) = R[0] := by
            have hd0 := drop_byte R 0 hR0
            rw [List.drop_zero, HRL.out] at hd0
            rw [hd0]; rfl
          rw [hhd] at hF0
          have HF0 := Lib.hid hF0
          have hwr : IntKind.i64.wrap ((R[0].toNat : Nat) : Int) = ((R[0].toNat : Nat) : Int) := by rw [IntKind.wrap_i64]; omega
          have hsq : (n : Int) + 2 ≤ (s.size : Int) := by omega
          have hqn : ((n + 2 : Nat) : Int) = (n : Int) + 2 := by omega
          have hwn : IntKind.i64.wrap ((n : Int) + 2) = (n : Int) + 2 := by rw [IntKind.wrap_i64]; omega
          have hn0 : (0 : Int) ≤ (n : Int) + 2 := by omega
          have htn : ((n : Int) + 2).toNat = n + 2 := by omega
          clear hF0 hhd hq0
          go_enter Tryd.func15, Tryd.ntmps15
          go_wp2_with fail
          refine (HI0.out _).mono ?_
          rintro e' w1 ⟨rfl, rfl⟩
          clear HI0
          go_wp2_with fail
          rw [show w.alloc (.cells #[.int .i64 0, .int .i64 0, .string ⟨#[]⟩, .int .i64 0, .bool false] 34) = zerT w from rfl]
          generalize zerT w = W at *
          refine (HQ.out _).mono ?_
          rintro e' w3 ⟨rfl, hb3⟩
          obtain ⟨hB3, hK3⟩ := HSTEP.out w3 hb3
          go_wp2_with fail
          refine (HU.out _).mono ?_
          rintro e' w4 ⟨rfl, hb4⟩
          obtain ⟨hB4, hK4⟩ := HSTEP.out w4 (hb3.trans (hb4.mono hb3.size))
          have HB4 := Lib.hid hB4
          have HK4 := Lib.hid hK4
          obtain ⟨z0, z1, z2, z3, z4, _, _, _, _, _⟩ := fiveF hK4
          clear hB3 hK3 hB4 hK4 hb3 hb4 HQ HU
          go_wp2_with fail
          go_region_with (fail)
          have HF := tokW_at HK4.out (.int .i64 3) (.int .i64 0) (.string (s.extract 0 (n + 2))) (.int .i64 ((R[0].toNat : Nat) : Int)) (.bool false)
          have HF2 : (tokW w4 w.heap.size (.int .i64 3) (.int .i64 0) (.string (s.extract 0 (n + 2))) (.int .i64 ((R[0].toNat : Nat) : Int)) (.bool false)).drew.heap[w.heap.size]? = _ := HF
          have hE := (tokW_below HB4.out (Nat.le_refl _) (.int .i64 3) (.int .i64 0) (.string (s.extract 0 (n + 2))) (.int .i64 ((R[0].toNat : Nat) : Int)) (.bool false)).drew
          unfold tokW at HF2 hE
          have HF3 := Lib.hid HF2
          have HE := Lib.hid hE
          clear HF HF2 hE z0 z1 z2 z3 z4
          go_wp2_with fail
          (try simp only [Exit.inBlock, Exit.then])
          refine bodyPost_ret (results_f4 rfl _ _ w.heap.size _ rfl HF3.out rfl) rfl ⟨?_, HE.out⟩
          exact ⟨3, ((R[0].toNat : Nat) : Int), (n : Int) + 2, s.extract 0 (n + 2), by rw [HF0.out]; rfl, fun _ => by rw [HF0.out]; exact ⟨rfl, rfl, by show (n : Int) + 2 = ((n + 1 + 1 : Nat) : Int); omega, ext_mk s (n + 2)⟩⟩
        · rw [if_neg (by omega)] at hF0
          have e1 : ((R.size : Int) != 1) = true := by rw [bne_iff_ne]; omega
          have HF0 := Lib.hid hF0
          clear hF0 hq0
          go_enter Tryd.func15, Tryd.ntmps15
          go_wp2_with fail
          refine (HI0.out _).mono ?_
          rintro e' w1 ⟨rfl, rfl⟩
          clear HI0
          go_wp2_with fail
          rw [show w.alloc (.cells #[.int .i64 0, .int .i64 0, .string ⟨#[]⟩, .int .i64 0, .bool false] 34) = zerT w from rfl]
          generalize zerT w = W at *
          refine (HQ.out _).mono ?_
          rintro e' w3 ⟨rfl, hb3⟩
          obtain ⟨hB3, hK3⟩ := HSTEP.out w3 hb3
          go_wp2_with fail
          refine (HU.out _).mono ?_
          rintro e' w4 ⟨rfl, hb4⟩
          obtain ⟨hB4, hK4⟩ := HSTEP.out w4 (hb3.trans (hb4.mono hb3.size))
          have HB4 := Lib.hid hB4
          have HK4 := Lib.hid hK4
          obtain ⟨z0, z1, z2, z3, z4, _, _, _, _, _⟩ := fiveF hK4
          clear hB3 hK3 hB4 hK4 hb3 hb4 HQ HU
          go_wp2_with fail
          (try simp only [Exit.inBlock, Exit.then])
          have HF := tokW_at HK4.out (.int .i64 0) (.int .i64 0) (.string ⟨#[]⟩) (.int .i64 0) (.bool false)
          refine bodyPost_ret (results_f4 rfl _ _ w.heap.size _ rfl HF rfl) rfl ⟨⟨0, 0, 0, ⟨#[]⟩, by rw [HF0.out]; rfl, fun h => absurd h (by rw [HF0.out]; show ¬ (5 : Int) = 0; decide)⟩, tokW_below HB4.out (Nat.le_refl _) _ _ _ _ _⟩
    · rw [hr, if_neg (by show ¬ (j : Int) < 0; omega)] at hF0
      rw [hr] at HU
      unfold runeV at HU
      dsimp only at HU hF0
      have HF0 := Lib.hid hF0
      have hjl : (j : Int) ≤ 2100 := by rw [List.length_take] at hrl; simp at hrl; omega
      clear hF0 hr hrl hq0 hxs
      rcases e39 with e39 | ⟨e34, e39⟩
      all_goals
        go_enter Tryd.func15, Tryd.ntmps15
        go_wp2_with fail
        refine (HI0.out _).mono ?_
        rintro e' w1 ⟨rfl, rfl⟩
        clear HI0
        go_wp2_with fail
        rw [show w.alloc (.cells #[.int .i64 0, .int .i64 0, .string ⟨#[]⟩, .int .i64 0, .bool false] 34) = zerT w from rfl]
        generalize zerT w = W at *
        refine (HQ.out _).mono ?_
        rintro e' w3 ⟨rfl, hb3⟩
        obtain ⟨hB3, hK3⟩ := HSTEP.out w3 hb3
        go_wp2_with fail
        refine (HU.out _).mono ?_
        rintro e' w4 ⟨rfl, hb4⟩
        obtain ⟨hB4, hK4⟩ := HSTEP.out w4 (hb3.trans (hb4.mono hb3.size))
        have HB4 := Lib.hid hB4
        have HK4 := Lib.hid hK4
        obtain ⟨z0, z1, z2, z3, z4, _, _, _, _, _⟩ := fiveF hK4
        clear hB3 hK3 hB4 hK4 hb3 hb4 HQ HU
        go_wp2_with fail
        (try simp only [Exit.inBlock, Exit.then])
        have HF := tokW_at HK4.out (.int .i64 0) (.int .i64 0) (.string ⟨#[]⟩) (.int .i64 0) (.bool false)
        refine bodyPost_ret (results_f4 rfl _ _ w.heap.size _ rfl HF rfl) rfl ⟨⟨0, 0, 0, ⟨#[]⟩, by rw [HF0.out]; rfl, fun h => absurd h (by rw [HF0.out]; show ¬ (20 : Int) = 0; decide)⟩, tokW_below HB4.out (Nat.le_refl _) _ _ _ _ _⟩
end Go.Proofs.YthjmlgbnpnfkgaaDoor.Lx
