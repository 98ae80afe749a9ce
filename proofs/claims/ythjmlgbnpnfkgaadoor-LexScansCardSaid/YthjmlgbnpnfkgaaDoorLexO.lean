/- Contract of dreyref08.Number. -/
import Derived.Test.YthjmlgbnpnfkgaaDoorLexN
import Derived.Test.YthjmlgbnpnfkgaaDoorLexI
import Derived.Test.YthjmlgbnpnfkgaaDoorHexL
set_option linter.unusedVariables false
namespace Go.Proofs.YthjmlgbnpnfkgaaDoor.Lx
open Go.RowKit Go.ChangeShapes Go.WideShapes Go.ChangeAt Go.Proofs.YthjmlgbnpnfkgaaDoor.Nu

theorem hexZ_dv (c : Nat) : (hexZ c = (dv c : Int) ∧ dv c < 16) ∨ (hexZ c = -1 ∧ 16 ≤ dv c) := by
  unfold hexZ hexB Go.Proofs.YthjmlgbnpnfkgaaDoor.hexV dgB dv
  by_cases h1 : 48 ≤ c ∧ c ≤ 57
  · left; rw [if_pos (by simp; omega), if_pos (by simp; omega), if_pos h1]; omega
  · by_cases h2 : 97 ≤ c ∧ c ≤ 102
    · left; rw [if_pos (by simp; omega), if_neg (by simp; omega), if_pos h2, if_neg h1, if_pos (by omega)]; omega
    · by_cases h3 : 65 ≤ c ∧ c ≤ 70
      · left; rw [if_pos (by simp; omega), if_neg (by simp; omega), if_neg h2, if_pos h3, if_neg h1, if_neg (by omega), if_pos (by omega)]; omega
      · right
        rw [if_neg (by simp; omega)]
        refine ⟨rfl, ?_⟩
        rw [if_neg h1]
        split
        · omega
        · split <;> omega
def numR (r : Int × Nat) : Value := .tuple #[.int .i64 r.1, .int .i64 (r.2 : Int)]
set_option maxRecDepth 100000 in
set_option maxHeartbeats 4000000 in
theorem rnum_hex (s : ByteArray) (hs : s.size ≤ 1048576) (h2 : 2 < s.size) (hp : Lib.hasPrefix s.data.toList [48, 120] = true) (w : World) : Calls Tryd.prog 27 #[.string s] w fun e w' => e = .returned (numR (rn 16 (s.data.toList.drop 2) (some 0))) ∧ Below w.heap.size w w' := by
  obtain ⟨R, hR⟩ : ∃ R, rn 16 (s.data.toList.drop 2) (some 0) = R := ⟨_, rfl⟩
  rw [hR]
  have HR0 := Lib.hid hR
  clear hR
  have HS : Hid (Calls Tryd.prog 25 #[.string s, .string ⟨#[48, 120]⟩] w fun e w' => e = .returned (.bool true) ∧ w = w') := by
    have h := starts_any s ⟨#[48, 120]⟩ w
    rw [show (ByteArray.mk #[48, 120]).data.toList = [48, 120] from rfl, hp] at h
    exact h
  have hxl : (s.extract 2 s.size).data.toList = s.data.toList.drop 2 := Lib.extract_to_end s 2
  have hxz : (s.extract 2 s.size).size = s.size - 2 := by simp
  clear hp
  go_enter Tryd.func27, Tryd.ntmps27
  go_wp2_with fail
  refine HS.out.mono ?_
  rintro e' w1 ⟨rfl, rfl⟩
  clear HS
  go_wp2_with fail
  go_quiet (fail)
  have HB0 := Lib.hid (below_drewN (Below.refl w.heap.size w) nq)
  rw [← hxl] at HR0
  generalize s.extract 2 s.size = d at *
  have hd0 : 0 < d.size := by omega
  have hdz : d.size ≤ 1048576 := by omega
  have hde : d.toList.isEmpty = false := by
    rw [ByteArray.toList_eq, List.isEmpty_eq_false_iff]
    intro h
    have := size_list d
    rw [h] at this
    simp at this; omega
  clear hxl hxz
  go_wp2_with fail
  go_loopw [6, 7, 8, 9] (fun u o i _ wr => ∃ (k m : Nat) (ov : Bool), k ≤ d.size ∧ i = .int .i64 (k : Int) ∧ u = .int .u64 (m : Int) ∧ o = .bool ov ∧ m ≤ 18446744073709551615 ∧ Hid (rn 16 (d.data.toList.drop k) (if ov = true then none else some m) = R) ∧ Below w.heap.size w wr) (fun _ _ i _ _ => d.size - (intOf i).toNat)
  case atStart => exact ⟨0, 0, false, by omega, rfl, rfl, rfl, by omega, HR0.out, HB0.out⟩
  case round =>
    obtain ⟨k, m, ov, hk, rfl, rfl, rfl, hm, HU, hb0⟩ := hrel
    by_cases hlt : k < d.size
    · have hd := drop_byte d k hlt
      have hc := byte_lt d k hlt
      rw [hd] at HU
      generalize hy : d[k] = c at *
      have HX := Lib.hid (rhex_any c.toNat hc wr)
      clear hd
      rcases hexZ_dv c.toNat with ⟨z1, z2⟩ | ⟨z1, z2⟩
      · rw [z1] at HX
        generalize hv : dv c.toNat = h at *
        by_cases hb : 16 ≤ h
        · have HR : Hid (R = (0, 5)) := by show _ = _; rw [← HU.out, rn_bad (by rw [hv]; exact hb)]
          exfalso; omega
        · have hvb : ¬ 16 ≤ dv c.toNat := by rw [hv]; exact hb
          cases ov
          · by_cases ho : (18446744073709551615 - h) / 16 < m
            · have HU2 : Hid (rn 16 (d.data.toList.drop (k + 1)) none = R) := by
                show _ = _
                rw [← HU.out, if_neg (by simp), rn_over hvb (by rw [hv]; exact ho)]
              have q1 : (18446744073709551615 - (h : Int)) / 16 < (m : Int) := by omega
              clear HU hv hvb
              go_wp2_with fail
              refine HX.out.mono ?_
              rintro e' w1 ⟨rfl, rfl⟩
              go_wp2_with fail
              go_roundw
              case rel => exact ⟨k + 1, (IntKind.u64.wrap (IntKind.u64.wrap ((m : Int) * 16) + (h : Int))).toNat, true, by omega, by go_num, by (try simp only [IntKind.wrap_u64]); congr 1; (try omega), rfl, by rw [IntKind.wrap_u64]; omega, HU2.out, hb0⟩
              case measure => simp [intOf]; omega
            · have HU2 : Hid (rn 16 (d.data.toList.drop (k + 1)) (some (m * 16 + h)) = R) := by
                show _ = _
                rw [← HU.out, if_neg (by simp), rn_more hvb (by rw [hv]; exact ho), hv]
              have q1 : ¬ (18446744073709551615 - (h : Int)) / 16 < (m : Int) := by omega
              have q2 : m * 16 + h ≤ 18446744073709551615 := by omega
              clear HU hv hvb
              go_wp2_with fail
              refine HX.out.mono ?_
              rintro e' w1 ⟨rfl, rfl⟩
              go_wp2_with fail
              go_roundw
              case rel => exact ⟨k + 1, m * 16 + h, false, by omega, by go_num, by (try simp only [IntKind.wrap_u64]); congr 1; (try omega), rfl, q2, HU2.out, hb0⟩
              case measure => simp [intOf]; omega
          · have HU2 : Hid (rn 16 (d.data.toList.drop (k + 1)) none = R) := by
              show _ = _
              rw [← HU.out, if_pos rfl, rn_none hvb]
            clear HU hv hvb
            by_cases q1 : (18446744073709551615 - (h : Int)) / 16 < (m : Int)
            all_goals
              go_wp2_with fail
              refine HX.out.mono ?_
              rintro e' w1 ⟨rfl, rfl⟩
              go_wp2_with fail
              go_roundw
              case rel => exact ⟨k + 1, (IntKind.u64.wrap (IntKind.u64.wrap ((m : Int) * 16) + (h : Int))).toNat, true, by omega, by go_num, by (try simp only [IntKind.wrap_u64]); congr 1; (try omega), rfl, by rw [IntKind.wrap_u64]; omega, HU2.out, hb0⟩
              case measure => simp [intOf]; omega
      · have HR : Hid (R = (0, 5)) := by show _ = _; rw [← HU.out, rn_bad (by omega)]
        rw [z1] at HX
        clear HU
        go_wp2_with fail
        refine HX.out.mono ?_
        rintro e' w1 ⟨rfl, rfl⟩
        go_wp2_with fail
        go_ret2
        exact ⟨by rw [HR.out]; rfl, hb0⟩
    · have hU := HU.out
      rw [List.drop_eq_nil_of_le (by rw [size_list]; omega)] at hU
      cases ov
      · rw [if_neg (by simp), rn] at hU
        rw [if_neg (by omega)] at hU
        have HR := Lib.hid hU
        clear hU HU
        go_wp2_with fail
        go_ret2
        exact ⟨by rw [← HR.out]; rfl, hb0⟩
      · rw [if_pos rfl, rn] at hU
        have HR := Lib.hid hU
        clear hU HU
        go_wp2_with fail
        go_ret2
        exact ⟨by rw [← HR.out]; rfl, hb0⟩
theorem isEmpty_no {d : ByteArray} (h : 0 < d.size) : d.toList.isEmpty = false := by
  rw [ByteArray.toList_eq, List.isEmpty_eq_false_iff]
  intro h2
  have := size_list d
  rw [h2] at this
  simp at this; omega
set_option maxRecDepth 100000 in
set_option maxHeartbeats 4000000 in
theorem rnum_ten (s : ByteArray) (hs : s.size ≤ 1048576) (hd0 : 0 < s.size) (hp : Lib.hasPrefix s.data.toList [48, 120] = false) (hz : ¬ (1 < s.size ∧ s[0].toNat = 48)) (w : World) : Calls Tryd.prog 27 #[.string s] w fun e w' => e = .returned (numR (rn 10 s.data.toList (some 0))) ∧ Below w.heap.size w w' := by
  obtain ⟨R, hR⟩ : ∃ R, rn 10 s.data.toList (some 0) = R := ⟨_, rfl⟩
  rw [hR]
  have HR0 := Lib.hid hR
  clear hR
  have HS : Hid (Calls Tryd.prog 25 #[.string s, .string ⟨#[48, 120]⟩] w fun e w' => e = .returned (.bool false) ∧ w = w') := by
    have h := starts_any s ⟨#[48, 120]⟩ w
    rw [show (ByteArray.mk #[48, 120]).data.toList = [48, 120] from rfl, hp] at h
    exact h
  have HB0 := Lib.hid (Below.refl w.heap.size w)
  have hdz : s.size ≤ 1048576 := hs
  have hde := isEmpty_no hd0
  clear hp
  go_enter Tryd.func27, Tryd.ntmps27
  go_wp2_with fail
  refine HS.out.mono ?_
  rintro e' w1 ⟨rfl, rfl⟩
  clear HS
  by_cases h1 : 1 < s.size
  · have hc0 := byte_lt s 0 hd0
    have h48 : ((s[0].toNat : Int) == 48) = false := by rw [beq_eq_false_iff_ne]; intro h; exact hz ⟨h1, by omega⟩
    clear hz
    go_wp2_with fail
    go_loopw [6, 7, 8, 9] (fun u o i _ wr => ∃ (k m : Nat) (ov : Bool), k ≤ s.size ∧ i = .int .i64 (k : Int) ∧ u = .int .u64 (m : Int) ∧ o = .bool ov ∧ m ≤ 18446744073709551615 ∧ Hid (rn 10 (s.data.toList.drop k) (if ov = true then none else some m) = R) ∧ Below w.heap.size w wr) (fun _ _ i _ _ => s.size - (intOf i).toNat)
    case atStart => exact ⟨0, 0, false, by omega, rfl, rfl, rfl, by omega, HR0.out, HB0.out⟩
    case round =>
      obtain ⟨k, m, ov, hk, rfl, rfl, rfl, hm, HU, hb0⟩ := hrel
      by_cases hlt : k < s.size
      · have hd := drop_byte s k hlt
        have hc := byte_lt s k hlt
        rw [hd] at HU
        generalize hy : s[k] = c at *
        have HX := Lib.hid (rhex_any c.toNat hc wr)
        clear hd
        rcases hexZ_dv c.toNat with ⟨z1, z2⟩ | ⟨z1, z2⟩
        · rw [z1] at HX
          generalize hv : dv c.toNat = h at *
          by_cases hb : 10 ≤ h
          · have HR : Hid (R = (0, 5)) := by show _ = _; rw [← HU.out, rn_bad (by rw [hv]; exact hb)]
            clear HU
            go_wp2_with fail
            refine HX.out.mono ?_
            rintro e' w1 ⟨rfl, rfl⟩
            go_wp2_with fail
            go_ret2
            exact ⟨by rw [HR.out]; rfl, hb0⟩
          · have hvb : ¬ 10 ≤ dv c.toNat := by rw [hv]; exact hb
            cases ov
            · by_cases ho : (18446744073709551615 - h) / 10 < m
              · have HU2 : Hid (rn 10 (s.data.toList.drop (k + 1)) none = R) := by
                  show _ = _
                  rw [← HU.out, if_neg (by simp), rn_over hvb (by rw [hv]; exact ho)]
                have q1 : (18446744073709551615 - (h : Int)) / 10 < (m : Int) := by omega
                clear HU hv hvb
                go_wp2_with fail
                refine HX.out.mono ?_
                rintro e' w1 ⟨rfl, rfl⟩
                go_wp2_with fail
                go_roundw
                case rel => exact ⟨k + 1, (IntKind.u64.wrap (IntKind.u64.wrap ((m : Int) * 10) + (h : Int))).toNat, true, by omega, by go_num, by (try simp only [IntKind.wrap_u64]); congr 1; (try omega), rfl, by rw [IntKind.wrap_u64]; omega, HU2.out, hb0⟩
                case measure => simp [intOf]; omega
              · have HU2 : Hid (rn 10 (s.data.toList.drop (k + 1)) (some (m * 10 + h)) = R) := by
                  show _ = _
                  rw [← HU.out, if_neg (by simp), rn_more hvb (by rw [hv]; exact ho), hv]
                have q1 : ¬ (18446744073709551615 - (h : Int)) / 10 < (m : Int) := by omega
                have q2 : m * 10 + h ≤ 18446744073709551615 := by omega
                clear HU hv hvb
                go_wp2_with fail
                refine HX.out.mono ?_
                rintro e' w1 ⟨rfl, rfl⟩
                go_wp2_with fail
                go_roundw
                case rel => exact ⟨k + 1, m * 10 + h, false, by omega, by go_num, by (try simp only [IntKind.wrap_u64]); congr 1; (try omega), rfl, q2, HU2.out, hb0⟩
                case measure => simp [intOf]; omega
            · have HU2 : Hid (rn 10 (s.data.toList.drop (k + 1)) none = R) := by
                show _ = _
                rw [← HU.out, if_pos rfl, rn_none hvb]
              clear HU hv hvb
              by_cases q1 : (18446744073709551615 - (h : Int)) / 10 < (m : Int)
              all_goals
                go_wp2_with fail
                refine HX.out.mono ?_
                rintro e' w1 ⟨rfl, rfl⟩
                go_wp2_with fail
                go_roundw
                case rel => exact ⟨k + 1, (IntKind.u64.wrap (IntKind.u64.wrap ((m : Int) * 10) + (h : Int))).toNat, true, by omega, by go_num, by (try simp only [IntKind.wrap_u64]); congr 1; (try omega), rfl, by rw [IntKind.wrap_u64]; omega, HU2.out, hb0⟩
                case measure => simp [intOf]; omega
        · have HR : Hid (R = (0, 5)) := by show _ = _; rw [← HU.out, rn_bad (by omega)]
          rw [z1] at HX
          clear HU
          go_wp2_with fail
          refine HX.out.mono ?_
          rintro e' w1 ⟨rfl, rfl⟩
          go_wp2_with fail
          go_ret2
          exact ⟨by rw [HR.out]; rfl, hb0⟩
      · have hU := HU.out
        rw [List.drop_eq_nil_of_le (by rw [size_list]; omega)] at hU
        cases ov
        · rw [if_neg (by simp), rn] at hU
          by_cases hm2 : 9223372036854775807 < m
          · rw [if_pos ⟨rfl, hm2⟩] at hU
            have HR := Lib.hid hU
            clear hU HU
            go_wp2_with fail
            go_ret2
            exact ⟨by rw [← HR.out]; rfl, hb0⟩
          · rw [if_neg (fun h => hm2 h.2)] at hU
            have HR := Lib.hid hU
            clear hU HU
            go_wp2_with fail
            go_ret2
            exact ⟨by rw [← HR.out, wrap_id _ (by omega)]; rfl, hb0⟩
        · rw [if_pos rfl, rn] at hU
          have HR := Lib.hid hU
          clear hU HU
          go_wp2_with fail
          go_ret2
          exact ⟨by rw [← HR.out]; rfl, hb0⟩
  · clear hz
    go_wp2_with fail
    go_loopw [6, 7, 8, 9] (fun u o i _ wr => ∃ (k m : Nat) (ov : Bool), k ≤ s.size ∧ i = .int .i64 (k : Int) ∧ u = .int .u64 (m : Int) ∧ o = .bool ov ∧ m ≤ 18446744073709551615 ∧ Hid (rn 10 (s.data.toList.drop k) (if ov = true then none else some m) = R) ∧ Below w.heap.size w wr) (fun _ _ i _ _ => s.size - (intOf i).toNat)
    case atStart => exact ⟨0, 0, false, by omega, rfl, rfl, rfl, by omega, HR0.out, HB0.out⟩
    case round =>
      obtain ⟨k, m, ov, hk, rfl, rfl, rfl, hm, HU, hb0⟩ := hrel
      by_cases hlt : k < s.size
      · have hd := drop_byte s k hlt
        have hc := byte_lt s k hlt
        rw [hd] at HU
        generalize hy : s[k] = c at *
        have HX := Lib.hid (rhex_any c.toNat hc wr)
        clear hd
        rcases hexZ_dv c.toNat with ⟨z1, z2⟩ | ⟨z1, z2⟩
        · rw [z1] at HX
          generalize hv : dv c.toNat = h at *
          by_cases hb : 10 ≤ h
          · have HR : Hid (R = (0, 5)) := by show _ = _; rw [← HU.out, rn_bad (by rw [hv]; exact hb)]
            clear HU
            go_wp2_with fail
            refine HX.out.mono ?_
            rintro e' w1 ⟨rfl, rfl⟩
            go_wp2_with fail
            go_ret2
            exact ⟨by rw [HR.out]; rfl, hb0⟩
          · have hvb : ¬ 10 ≤ dv c.toNat := by rw [hv]; exact hb
            cases ov
            · by_cases ho : (18446744073709551615 - h) / 10 < m
              · have HU2 : Hid (rn 10 (s.data.toList.drop (k + 1)) none = R) := by
                  show _ = _
                  rw [← HU.out, if_neg (by simp), rn_over hvb (by rw [hv]; exact ho)]
                have q1 : (18446744073709551615 - (h : Int)) / 10 < (m : Int) := by omega
                clear HU hv hvb
                go_wp2_with fail
                refine HX.out.mono ?_
                rintro e' w1 ⟨rfl, rfl⟩
                go_wp2_with fail
                go_roundw
                case rel => exact ⟨k + 1, (IntKind.u64.wrap (IntKind.u64.wrap ((m : Int) * 10) + (h : Int))).toNat, true, by omega, by go_num, by (try simp only [IntKind.wrap_u64]); congr 1; (try omega), rfl, by rw [IntKind.wrap_u64]; omega, HU2.out, hb0⟩
                case measure => simp [intOf]; omega
              · have HU2 : Hid (rn 10 (s.data.toList.drop (k + 1)) (some (m * 10 + h)) = R) := by
                  show _ = _
                  rw [← HU.out, if_neg (by simp), rn_more hvb (by rw [hv]; exact ho), hv]
                have q1 : ¬ (18446744073709551615 - (h : Int)) / 10 < (m : Int) := by omega
                have q2 : m * 10 + h ≤ 18446744073709551615 := by omega
                clear HU hv hvb
                go_wp2_with fail
                refine HX.out.mono ?_
                rintro e' w1 ⟨rfl, rfl⟩
                go_wp2_with fail
                go_roundw
                case rel => exact ⟨k + 1, m * 10 + h, false, by omega, by go_num, by (try simp only [IntKind.wrap_u64]); congr 1; (try omega), rfl, q2, HU2.out, hb0⟩
                case measure => simp [intOf]; omega
            · have HU2 : Hid (rn 10 (s.data.toList.drop (k + 1)) none = R) := by
                show _ = _
                rw [← HU.out, if_pos rfl, rn_none hvb]
              clear HU hv hvb
              by_cases q1 : (18446744073709551615 - (h : Int)) / 10 < (m : Int)
              all_goals
                go_wp2_with fail
                refine HX.out.mono ?_
                rintro e' w1 ⟨rfl, rfl⟩
                go_wp2_with fail
                go_roundw
                case rel => exact ⟨k + 1, (IntKind.u64.wrap (IntKind.u64.wrap ((m : Int) * 10) + (h : Int))).toNat, true, by omega, by go_num, by (try simp only [IntKind.wrap_u64]); congr 1; (try omega), rfl, by rw [IntKind.wrap_u64]; omega, HU2.out, hb0⟩
                case measure => simp [intOf]; omega
        · have HR : Hid (R = (0, 5)) := by show _ = _; rw [← HU.out, rn_bad (by omega)]
          rw [z1] at HX
          clear HU
          go_wp2_with fail
          refine HX.out.mono ?_
          rintro e' w1 ⟨rfl, rfl⟩
          go_wp2_with fail
          go_ret2
          exact ⟨by rw [HR.out]; rfl, hb0⟩
      · have hU := HU.out
        rw [List.drop_eq_nil_of_le (by rw [size_list]; omega)] at hU
        cases ov
        · rw [if_neg (by simp), rn] at hU
          by_cases hm2 : 9223372036854775807 < m
          · rw [if_pos ⟨rfl, hm2⟩] at hU
            have HR := Lib.hid hU
            clear hU HU
            go_wp2_with fail
            go_ret2
            exact ⟨by rw [← HR.out]; rfl, hb0⟩
          · rw [if_neg (fun h => hm2 h.2)] at hU
            have HR := Lib.hid hU
            clear hU HU
            go_wp2_with fail
            go_ret2
            exact ⟨by rw [← HR.out, wrap_id _ (by omega)]; rfl, hb0⟩
        · rw [if_pos rfl, rn] at hU
          have HR := Lib.hid hU
          clear hU HU
          go_wp2_with fail
          go_ret2
          exact ⟨by rw [← HR.out]; rfl, hb0⟩
set_option maxRecDepth 100000 in
set_option maxHeartbeats 4000000 in
theorem rnum_bad (s : ByteArray) (hs : s.size ≤ 1048576) (hd0 : 0 < s.size) (hp : (Lib.hasPrefix s.data.toList [48, 120] = true ∧ s.size ≤ 2) ∨ (Lib.hasPrefix s.data.toList [48, 120] = false ∧ 1 < s.size ∧ s[0].toNat = 48)) (w : World) : Calls Tryd.prog 27 #[.string s] w fun e w' => e = .returned (numR (0, 5)) ∧ Below w.heap.size w w' := by
  rcases hp with ⟨hp, h2⟩ | ⟨hp, h1, h48⟩
  · have HS : Hid (Calls Tryd.prog 25 #[.string s, .string ⟨#[48, 120]⟩] w fun e w' => e = .returned (.bool true) ∧ w = w') := by
      have h := starts_any s ⟨#[48, 120]⟩ w
      rw [show (ByteArray.mk #[48, 120]).data.toList = [48, 120] from rfl, hp] at h
      exact h
    have hl : 2 ≤ s.size := by
      have := (List.isPrefixOf_iff_prefix.1 hp).length_le
      rw [size_list] at this
      exact this
    have hxz : (s.extract 2 s.size).size = 0 := by simp; omega
    have hde : (s.extract 2 s.size).toList.isEmpty = true := by
      rw [ByteArray.toList_eq, List.isEmpty_iff]
      exact List.eq_nil_of_length_eq_zero (by rw [size_list]; exact hxz)
    clear hp
    go_enter Tryd.func27, Tryd.ntmps27
    go_wp2_with fail
    refine HS.out.mono ?_
    rintro e' w1 ⟨rfl, rfl⟩
    clear HS
    go_wp2_with fail
    go_quiet (fail)
    generalize s.extract 2 s.size = d at *
    go_wp2_with fail
    go_ret2
    exact ⟨rfl, below_drewN (Below.refl _ _) _⟩
  · have HS : Hid (Calls Tryd.prog 25 #[.string s, .string ⟨#[48, 120]⟩] w fun e w' => e = .returned (.bool false) ∧ w = w') := by
      have h := starts_any s ⟨#[48, 120]⟩ w
      rw [show (ByteArray.mk #[48, 120]).data.toList = [48, 120] from rfl, hp] at h
      exact h
    have hde := isEmpty_no hd0
    have hc0 := byte_lt s 0 hd0
    have q48 : ((s[0].toNat : Int) == 48) = true := by rw [h48]; rfl
    clear hp h48
    go_enter Tryd.func27, Tryd.ntmps27
    go_wp2_with fail
    refine HS.out.mono ?_
    rintro e' w1 ⟨rfl, rfl⟩
    clear HS
    go_wp2_with fail
    go_ret2
    exact ⟨rfl, Below.refl _ _⟩
theorem rnum_any (s : ByteArray) (hs : s.size ≤ 1048576) (hd0 : 0 < s.size) (w : World) : Calls Tryd.prog 27 #[.string s] w fun e w' => e = .returned (numR (numV s.data.toList)) ∧ Below w.heap.size w w' := by
  have hne : s.data.toList ≠ [] := fun h => by have := size_list s; rw [h] at this; simp at this; omega
  have hd := drop_byte s 0 hd0
  rw [List.drop_zero] at hd
  unfold numV
  by_cases hp : Lib.hasPrefix s.data.toList [48, 120] = true
  · rw [if_pos hp]
    by_cases h2 : 2 < s.size
    · rw [hex_rn _ (fun h => by have := congrArg List.length h; rw [List.length_drop, size_list] at this; simp at this; omega)]
      exact rnum_hex s hs h2 hp w
    · rw [List.drop_eq_nil_of_le (by rw [size_list]; omega)]
      exact rnum_bad s hs hd0 (.inl ⟨hp, by omega⟩) w
  · rw [if_neg hp]
    rw [Bool.not_eq_true] at hp
    have hhd : s.data.toList.head? = some s[0] := by rw [hd]; rfl
    rw [hhd, size_list]
    by_cases h3 : some s[0] = some 48 ∧ 1 < s.size
    · rw [if_pos h3]
      exact rnum_bad s hs hd0 (.inr ⟨hp, h3.2, by rw [Option.some.inj h3.1]; rfl⟩) w
    · rw [if_neg h3, ten_rn _ hne]
      exact rnum_ten s hs hd0 hp (fun h => h3 ⟨by rw [u8_eq.2 (show s[0].toNat = (48 : UInt8).toNat from h.2)], h.1⟩) w
end Go.Proofs.YthjmlgbnpnfkgaaDoor.Lx
