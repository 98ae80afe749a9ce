/- Contract of dreyref08.Front: signs; and the whole. -/
import Derived.Test.YthjmlgbnpnfkgaaDoorLexT
import Derived.Test.YthjmlgbnpnfkgaaDoorLexU
set_option linter.unusedVariables false
namespace Go.Proofs.YthjmlgbnpnfkgaaDoor.Lx
open Go.RowKit Go.ChangeShapes Go.WideShapes Go.ChangeAt Go.Proofs.YthjmlgbnpnfkgaaDoor.Nu

set_option maxRecDepth 100000 in
set_option maxHeartbeats 4000000 in
theorem front_sign (s : ByteArray) (hs : s.size ≤ 2100) (h0 : 0 < s.size) (h1 : dgB s[0].toNat = false) (h2 : ¬ (s[0].toNat = 39 ∨ s[0].toNat = 34)) (h3 : stB s[0].toNat = false) (w : World) :
    Calls Tryd.prog 15 #[.string s] w fun e w' => FR (frS s.data.toList) e ∧ Below w.heap.size w w' := by
  have hc0 := byte_lt s 0 h0
  have hb : Below w.heap.size w (zerT w) := (Below.refl _ _).alloc (Nat.le_refl _) _
  have hm : (zerT w).heap[w.heap.size]? = _ := heap_alloc_new w _
  have HI0 : Hid (∀ W, Calls Tryd.prog 26 #[.int .u8 (s[0].toNat : Int)] W fun e w' => e = .returned (.bool false) ∧ W = w') := fun W => by
    have h := inner_any s[0].toNat hc0 W
    rw [show (dgB s[0].toNat || stB s[0].toNat) = false by rw [h1, h3]; rfl] at h
    exact h
  have HSTEP : Hid (∀ w3, Below (zerT w).heap.size (zerT w) w3 → Below w.heap.size w w3 ∧ w3.heap[w.heap.size]? = some (.cells #[.int .i64 0, .int .i64 0, .string ⟨#[]⟩, .int .i64 0, .bool false] 34 (0, 0))) := fun w3 hb3 =>
    ⟨hb.trans (hb3.mono hb.size), keep hm hb3⟩
  have e34 : ((s[0].toNat : Int) == 34) = false := by rw [beq_eq_false_iff_ne]; omega
  have e39 : ((s[0].toNat : Int) == 39) = false := by rw [beq_eq_false_iff_ne]; omega
  have hz := size_list s
  have HAT : Hid (∀ k, 1 ≤ k → k ≤ 3 → k ≤ s.size → signs.contains (s.data.toList.take k) = true → (∀ j, k < j → j ≤ 3 → j ≤ s.size → signs.contains (s.data.toList.take j) = false) → frS s.data.toList = ⟨5, s.data.toList.take k, 0, k, 0, 0⟩) := fun k h1 h3 hk h hn => by
    unfold frS
    rw [sg_at h1 h3 (by omega) h (fun j a b c => hn j a b (by omega)), if_neg (by omega)]
  have HNO : Hid ((∀ j, 0 < j → j ≤ 3 → j ≤ s.size → signs.contains (s.data.toList.take j) = false) → frS s.data.toList = bad 80 0) := fun hn => by
    unfold frS
    rw [sg_none (fun j a b c => hn j a b (by omega)), if_pos rfl]
  generalize frS s.data.toList = F at *
  have hdg : ((s[0].toNat : Int) < 48) ∨ ((48 : Int) ≤ (s[0].toNat : Int) ∧ (57 : Int) < (s[0].toNat : Int)) := by
    have := h1
    simp [dgB] at this
    omega
  clear h1 h2 h3 hb hm hz
  rcases hdg with q48 | ⟨q48, q57⟩
  all_goals
    go_enter Tryd.func15, Tryd.ntmps15
    go_wp2_with fail
    refine (HI0.out _).mono ?_
    rintro e' w1 ⟨rfl, rfl⟩
    go_wp2_with fail
    rw [show w.alloc (.cells #[.int .i64 0, .int .i64 0, .string ⟨#[]⟩, .int .i64 0, .bool false] 34) = zerT w from rfl]
    generalize zerT w = W at *
    go_loopw [17] (fun i wr => ∃ k : Nat, k ≤ 3 ∧ i = .int .i64 (k : Int) ∧ Hid (∀ j, k < j → j ≤ 3 → j ≤ s.size → signs.contains (s.data.toList.take j) = false) ∧ Below W.heap.size W wr) (fun i _ => (intOf i).toNat)
    case atStart => exact ⟨3, by omega, rfl, fun j a b c => by omega, Below.refl _ _⟩
    case round =>
      obtain ⟨k, hk, rfl, HU, hbr⟩ := hrel
      by_cases hk0 : 0 < k
      · by_cases hks : k ≤ s.size
        · have HSG : Hid (Calls Tryd.prog 30 #[.string (s.extract 0 k)] wr fun e w' => e = .returned (.bool (signs.contains (s.data.toList.take k))) ∧ Below wr.heap.size wr w') := by
            have h := rsign_any (s.extract 0 k) wr
            rw [ByteArray.toList_eq, take_list] at h
            exact h
          by_cases hc : signs.contains (s.data.toList.take k) = true
          · have hF := HAT.out k hk0 hk hks hc HU.out
            have HF0 := Lib.hid hF
            rw [hc] at HSG
            clear hF hc HU
            go_wp2_with fail
            refine HSG.out.mono ?_
            rintro e' w4 ⟨rfl, hb4⟩
            obtain ⟨hB4, hK4⟩ := HSTEP.out w4 (hbr.trans (hb4.mono hbr.size))
            have HB4 := Lib.hid hB4
            have HK4 := Lib.hid hK4
            obtain ⟨z0, z1, z2, z3, z4, _, _, _, _, _⟩ := fiveF hK4
            clear hB4 hK4 hb4 HSG hbr
            go_wp2_with fail
            (try simp only [Exit.inBlock, Exit.then])
            have HF := tokW_at HK4.out (.int .i64 5) (.int .i64 0) (.string (s.extract 0 k)) (.int .i64 0) (.bool false)
            refine bodyPost_ret (results_f4 rfl _ _ w.heap.size _ rfl HF rfl) rfl ⟨⟨5, 0, k, s.extract 0 k, by rw [HF0.out]; rfl, fun _ => by rw [HF0.out]; exact ⟨rfl, rfl, rfl, ext_mk s k⟩⟩, tokW_below HB4.out (Nat.le_refl _) _ _ _ _ _⟩
          · rw [Bool.not_eq_true] at hc
            have HU2 : Hid (∀ j, k - 1 < j → j ≤ 3 → j ≤ s.size → signs.contains (s.data.toList.take j) = false) := fun j a b c => by
              by_cases hj : j = k
              · rw [hj]; exact hc
              · exact HU.out j (by omega) b c
            rw [hc] at HSG
            clear hc HU
            go_wp2_with fail
            refine HSG.out.mono ?_
            rintro e' w4 ⟨rfl, hb4⟩
            have HB4 := Lib.hid (hbr.trans (hb4.mono hbr.size))
            clear hb4 HSG hbr
            go_wp2_with fail
            go_roundw
            case rel => exact ⟨k - 1, by omega, by go_num, HU2, HB4.out⟩
            case measure => simp [intOf]; omega
        · have HU2 : Hid (∀ j, k - 1 < j → j ≤ 3 → j ≤ s.size → signs.contains (s.data.toList.take j) = false) := fun j a b c => HU.out j (by omega) b c
          clear HU
          go_wp2_with fail
          go_roundw
          case rel => exact ⟨k - 1, by omega, by go_num, HU2, hbr⟩
          case measure => simp [intOf]; omega
      · obtain rfl : k = 0 := by omega
        have hF := HNO.out (fun j a b c => HU.out j a b c)
        have HF0 := Lib.hid hF
        obtain ⟨hB4, hK4⟩ := HSTEP.out wr hbr
        have HB4 := Lib.hid hB4
        have HK4 := Lib.hid hK4
        obtain ⟨z0, z1, z2, z3, z4, _, _, _, _, _⟩ := fiveF hK4
        clear hB4 hK4 hbr hF HU
        go_wp2_with fail
        (try simp only [Exit.inBlock, Exit.then])
        have HF := tokW_at HK4.out (.int .i64 0) (.int .i64 0) (.string ⟨#[]⟩) (.int .i64 0) (.bool false)
        refine bodyPost_ret (results_f4 rfl _ _ w.heap.size _ rfl HF rfl) rfl ⟨⟨0, 0, 0, ⟨#[]⟩, by rw [HF0.out]; rfl, fun h => absurd h (by rw [HF0.out]; show ¬ (80 : Int) = 0; decide)⟩, tokW_below HB4.out (Nat.le_refl _) _ _ _ _ _⟩
theorem rfront_any (s : ByteArray) (hs : s.size ≤ 2100) (h0 : 0 < s.size) (w : World) :
    Calls Tryd.prog 15 #[.string s] w fun e w' => FR (frs s.data.toList) e ∧ Below w.heap.size w w' := by
  have hd0 := drop_byte s 0 h0
  rw [List.drop_zero] at hd0
  have e : frs s.data.toList = if dgB s[0].toNat = true then frD s.data.toList else if s[0] = 39 ∨ s[0] = 34 then frQ s.data.toList else if stB s[0].toNat = true then frN s.data.toList else frS s.data.toList := by
    rw [hd0]
    exact frs_cons _ _
  rw [e]
  by_cases h1 : dgB s[0].toNat = true
  · rw [if_pos h1]; exact front_dig s hs h0 h1 w
  · rw [if_neg h1]
    by_cases h2 : s[0] = 39 ∨ s[0] = 34
    · rw [if_pos h2]
      exact front_quote s hs h0 (h2.elim (fun h => .inr (by rw [h]; rfl)) (fun h => .inl (by rw [h]; rfl))) w
    · rw [if_neg h2]
      by_cases h3 : stB s[0].toNat = true
      · rw [if_pos h3]; exact front_name s hs h0 h3 w
      · rw [if_neg h3]
        exact front_sign s hs h0 (by simpa using h1) (fun h => h2 (h.elim (fun h => .inl (u8_eq.2 h)) (fun h => .inr (u8_eq.2 h)))) (by simpa using h3) w
end Go.Proofs.YthjmlgbnpnfkgaaDoor.Lx
