/- Contract of dreyref02.Unescape. -/
import Derived.Test.YthjmlgbnpnfkgaaDoorHexL
namespace Go.Proofs.YthjmlgbnpnfkgaaDoor
open Go.RowKit Go.ChangeShapes Go.WideShapes Go.ChangeAt

theorem cat_list (a b : List UInt8) : (⟨a.toArray⟩ : ByteArray) ++ ⟨b.toArray⟩ = ⟨(a ++ b).toArray⟩ := by
  apply bytes_ext
  simp [ByteArray.data_append]
theorem one_byte (s : ByteArray) (k : Nat) (h : k < s.size) : s.extract k (k + 1) = ⟨[s[k]].toArray⟩ := by
  apply bytes_ext
  simp only [ByteArray.data_extract, Array.toList_extract]
  rw [List.extract_eq_take_drop, drop_byte s k h]
  simp
theorem cat_byte (acc : List UInt8) (s : ByteArray) (k : Nat) (h : k < s.size) : (⟨acc.toArray⟩ : ByteArray) ++ s.extract k (k + 1) = ⟨(acc ++ [s[k]]).toArray⟩ := by
  rw [one_byte s k h, cat_list]
theorem str_eq {a b : ByteArray} (h : a = b) : Value.string a = .string b := by rw [h]
/-- What dreyref02.Unescape answers. -/
def runeV (p : List UInt8 × Int) : Value := .tuple #[.string ⟨p.1.toArray⟩, .int .i64 p.2]
theorem convN (w : World) (n : Nat) (h : n ≤ 255) :
    (convert 53 9 (.slice (some ⟨w.heap.size, 0, none⟩) 1 1)).run Tryd.prog (w.alloc (.cells #[.int .u8 (n : Int)] 5)) =
      .ok (.string ⟨#[UInt8.ofNat n]⟩) (w.alloc (.cells #[.int .u8 (n : Int)] 5)) := by
  have h1 := conv1 w (UInt8.ofNat n)
  rw [ofN n h] at h1
  exact h1
theorem hexZ_yes (c : Nat) (h : hexB c = true) : hexZ c = ((hexV c : Nat) : Int) := by unfold hexZ; rw [if_pos h]
theorem hexZ_none (c : Nat) (h : hexB c = false) : hexZ c = -1 := by unfold hexZ; rw [if_neg (by simp [h])]

set_option maxRecDepth 100000 in
set_option maxHeartbeats 4000000 in
theorem rune_any (s : ByteArray) (hs : s.size ≤ 2100) (w : World) : Calls Tryd.prog 29 #[.string s] w fun e w' => e = .returned (runeV (uneS s)) ∧ Below w.heap.size w w' := by
  generalize hsp : uneS s = p
  have HS := Lib.hid hsp
  clear hsp
  go_enter Tryd.func29, Tryd.ntmps29
  go_wp2_with fail
  go_loopw [4, 5] (fun o i wr => ∃ (k f : Nat) (acc : List UInt8), k ≤ s.size ∧ s.size ≤ f + k ∧ acc.length ≤ k ∧ i = .int .i64 (k : Int) ∧ o = .string ⟨acc.toArray⟩ ∧ Hid (une f (s.data.toList.drop k) k acc = p) ∧ Below w.heap.size w wr) (fun _ i _ => s.size - (intOf i).toNat)
  case atStart => exact ⟨0, s.size, [], by omega, by omega, by simp, rfl, rfl, HS.out, Below.refl _ _⟩
  case round =>
    obtain ⟨k, f, acc, hk, hf, hal, rfl, rfl, HU, hb⟩ := hrel
    have hal2 : acc.length ≤ 2100 := by omega
    by_cases hlt : k < s.size
    · have hc := byte_lt s k hlt
      have hd := drop_byte s k hlt
      obtain ⟨f, rfl⟩ : ∃ g, f = g + 1 := ⟨f - 1, by omega⟩
      by_cases q : s[k].toNat = 92
      · have e92 : ((s[k].toNat : Int) == 92) = true := beq_yes q
        by_cases hlt1 : k + 1 < s.size
        · have hc1 := byte_lt s (k + 1) hlt1
          have hd1 := drop_byte s (k + 1) hlt1
          have n1 : ((k : Int) + 1 == (s.size : Int)) = false := by simp; omega
          by_cases q0 : s[k + 1].toNat = 110
          · have e0 : (((s[k + 1]).toNat : Int) == 110) = true := beq_yes q0
            have hE : escR (s.data.toList.drop (k + 1)) = (10, 1) := by rw [hd1, u8_of 110 q0]; rfl
            have HU2 : Hid (une f (s.data.toList.drop (k + 2)) (k + 2) (acc ++ [UInt8.ofNat 10]) = p) := by show _ = _; rw [← HU.out, hd, une_good _ _ _ _ _ q (by rw [hE]; decide), hE, List.drop_drop]; rfl
            clear hd hd1 HU hE
            go_wp2_with fail
            go_roundw
            case rel =>
              exact ⟨k + 2, f, _, by omega, by omega, by simp; omega, by go_num, str_eq (cat_list _ _), HU2, hb⟩
            case measure => simp [intOf]; omega
          by_cases q1 : s[k + 1].toNat = 114
          · have e0 : (((s[k + 1]).toNat : Int) == 110) = false := beq_no q0
            have e1 : (((s[k + 1]).toNat : Int) == 114) = true := beq_yes q1
            have hE : escR (s.data.toList.drop (k + 1)) = (13, 1) := by rw [hd1, u8_of 114 q1]; rfl
            have HU2 : Hid (une f (s.data.toList.drop (k + 2)) (k + 2) (acc ++ [UInt8.ofNat 13]) = p) := by show _ = _; rw [← HU.out, hd, une_good _ _ _ _ _ q (by rw [hE]; decide), hE, List.drop_drop]; rfl
            clear hd hd1 HU hE
            go_wp2_with fail
            go_roundw
            case rel =>
              exact ⟨k + 2, f, _, by omega, by omega, by simp; omega, by go_num, str_eq (cat_list _ _), HU2, hb⟩
            case measure => simp [intOf]; omega
          by_cases q2 : s[k + 1].toNat = 116
          · have e0 : (((s[k + 1]).toNat : Int) == 110) = false := beq_no q0
            have e1 : (((s[k + 1]).toNat : Int) == 114) = false := beq_no q1
            have e2 : (((s[k + 1]).toNat : Int) == 116) = true := beq_yes q2
            have hE : escR (s.data.toList.drop (k + 1)) = (9, 1) := by rw [hd1, u8_of 116 q2]; rfl
            have HU2 : Hid (une f (s.data.toList.drop (k + 2)) (k + 2) (acc ++ [UInt8.ofNat 9]) = p) := by show _ = _; rw [← HU.out, hd, une_good _ _ _ _ _ q (by rw [hE]; decide), hE, List.drop_drop]; rfl
            clear hd hd1 HU hE
            go_wp2_with fail
            go_roundw
            case rel =>
              exact ⟨k + 2, f, _, by omega, by omega, by simp; omega, by go_num, str_eq (cat_list _ _), HU2, hb⟩
            case measure => simp [intOf]; omega
          by_cases q3 : s[k + 1].toNat = 48
          · have e0 : (((s[k + 1]).toNat : Int) == 110) = false := beq_no q0
            have e1 : (((s[k + 1]).toNat : Int) == 114) = false := beq_no q1
            have e2 : (((s[k + 1]).toNat : Int) == 116) = false := beq_no q2
            have e3 : (((s[k + 1]).toNat : Int) == 48) = true := beq_yes q3
            have hE : escR (s.data.toList.drop (k + 1)) = (0, 1) := by rw [hd1, u8_of 48 q3]; rfl
            have HU2 : Hid (une f (s.data.toList.drop (k + 2)) (k + 2) (acc ++ [UInt8.ofNat 0]) = p) := by show _ = _; rw [← HU.out, hd, une_good _ _ _ _ _ q (by rw [hE]; decide), hE, List.drop_drop]; rfl
            clear hd hd1 HU hE
            go_wp2_with fail
            go_roundw
            case rel =>
              exact ⟨k + 2, f, _, by omega, by omega, by simp; omega, by go_num, str_eq (cat_list _ _), HU2, hb⟩
            case measure => simp [intOf]; omega
          by_cases q4 : s[k + 1].toNat = 34
          · have e0 : (((s[k + 1]).toNat : Int) == 110) = false := beq_no q0
            have e1 : (((s[k + 1]).toNat : Int) == 114) = false := beq_no q1
            have e2 : (((s[k + 1]).toNat : Int) == 116) = false := beq_no q2
            have e3 : (((s[k + 1]).toNat : Int) == 48) = false := beq_no q3
            have e4 : (((s[k + 1]).toNat : Int) == 34) = true := beq_yes q4
            have hE : escR (s.data.toList.drop (k + 1)) = (34, 1) := by rw [hd1, u8_of 34 q4]; rfl
            have HU2 : Hid (une f (s.data.toList.drop (k + 2)) (k + 2) (acc ++ [UInt8.ofNat 34]) = p) := by show _ = _; rw [← HU.out, hd, une_good _ _ _ _ _ q (by rw [hE]; decide), hE, List.drop_drop]; rfl
            clear hd hd1 HU hE
            go_wp2_with fail
            go_roundw
            case rel =>
              refine ⟨k + 2, f, _, by omega, by omega, by simp; omega, by go_num, str_eq ?_, HU2, hb⟩
              rw [← u8_of 34 q4]
              exact cat_byte _ _ _ hlt1
            case measure => simp [intOf]; omega
          by_cases q5 : s[k + 1].toNat = 39
          · have e0 : (((s[k + 1]).toNat : Int) == 110) = false := beq_no q0
            have e1 : (((s[k + 1]).toNat : Int) == 114) = false := beq_no q1
            have e2 : (((s[k + 1]).toNat : Int) == 116) = false := beq_no q2
            have e3 : (((s[k + 1]).toNat : Int) == 48) = false := beq_no q3
            have e4 : (((s[k + 1]).toNat : Int) == 34) = false := beq_no q4
            have e5 : (((s[k + 1]).toNat : Int) == 39) = true := beq_yes q5
            have hE : escR (s.data.toList.drop (k + 1)) = (39, 1) := by rw [hd1, u8_of 39 q5]; rfl
            have HU2 : Hid (une f (s.data.toList.drop (k + 2)) (k + 2) (acc ++ [UInt8.ofNat 39]) = p) := by show _ = _; rw [← HU.out, hd, une_good _ _ _ _ _ q (by rw [hE]; decide), hE, List.drop_drop]; rfl
            clear hd hd1 HU hE
            go_wp2_with fail
            go_roundw
            case rel =>
              refine ⟨k + 2, f, _, by omega, by omega, by simp; omega, by go_num, str_eq ?_, HU2, hb⟩
              rw [← u8_of 39 q5]
              exact cat_byte _ _ _ hlt1
            case measure => simp [intOf]; omega
          by_cases q6 : s[k + 1].toNat = 92
          · have e0 : (((s[k + 1]).toNat : Int) == 110) = false := beq_no q0
            have e1 : (((s[k + 1]).toNat : Int) == 114) = false := beq_no q1
            have e2 : (((s[k + 1]).toNat : Int) == 116) = false := beq_no q2
            have e3 : (((s[k + 1]).toNat : Int) == 48) = false := beq_no q3
            have e4 : (((s[k + 1]).toNat : Int) == 34) = false := beq_no q4
            have e5 : (((s[k + 1]).toNat : Int) == 39) = false := beq_no q5
            have e6 : (((s[k + 1]).toNat : Int) == 92) = true := beq_yes q6
            have hE : escR (s.data.toList.drop (k + 1)) = (92, 1) := by rw [hd1, u8_of 92 q6]; rfl
            have HU2 : Hid (une f (s.data.toList.drop (k + 2)) (k + 2) (acc ++ [UInt8.ofNat 92]) = p) := by show _ = _; rw [← HU.out, hd, une_good _ _ _ _ _ q (by rw [hE]; decide), hE, List.drop_drop]; rfl
            clear hd hd1 HU hE
            go_wp2_with fail
            go_roundw
            case rel =>
              refine ⟨k + 2, f, _, by omega, by omega, by simp; omega, by go_num, str_eq ?_, HU2, hb⟩
              rw [← u8_of 92 q6]
              exact cat_byte _ _ _ hlt1
            case measure => simp [intOf]; omega
          by_cases q7 : s[k + 1].toNat = 120
          · have e0 : (((s[k + 1]).toNat : Int) == 110) = false := beq_no q0
            have e1 : (((s[k + 1]).toNat : Int) == 114) = false := beq_no q1
            have e2 : (((s[k + 1]).toNat : Int) == 116) = false := beq_no q2
            have e3 : (((s[k + 1]).toNat : Int) == 48) = false := beq_no q3
            have e4 : (((s[k + 1]).toNat : Int) == 34) = false := beq_no q4
            have e5 : (((s[k + 1]).toNat : Int) == 39) = false := beq_no q5
            have e6 : (((s[k + 1]).toNat : Int) == 92) = false := beq_no q6
            have e7 : (((s[k + 1]).toNat : Int) == 120) = true := beq_yes q7
            have hE : escR (s.data.toList.drop (k + 1)) = hexR (s.data.toList.drop (k + 2)) := by rw [hd1, u8_of 120 q7]; rfl
            by_cases hlt2 : k + 2 < s.size
            · have hc2 := byte_lt s (k + 2) hlt2
              have hd2 := drop_byte s (k + 2) hlt2
              have n2 : ((k : Int) + 2 == (s.size : Int)) = false := by simp; omega
              have HX := Lib.hid fun w => rhex_any (s[k + 2]).toNat hc2 w
              cases x2 : hexB (s[k + 2]).toNat
              · rw [hexZ_none _ x2] at HX
                have HR : Hid (p = ([], (k : Int))) := by show _ = _; rw [← HU.out, hd, une_bad _ _ _ _ _ q (by rw [hE, hd2, hexR_no _ _ x2])]
                clear hd hd1 hd2 HU hE
                go_wp2_with fail
                refine (HX.out _).mono ?_
                rintro e w2 ⟨rfl, rfl⟩
                go_wp2_with fail
                go_ret2
                exact ⟨by rw [HR.out]; rfl, hb⟩
              · rw [hexZ_yes _ x2] at HX
                have hv2 := hexV_lt (s[k + 2]).toNat
                by_cases hlt3 : k + 3 < s.size
                · have hc3 := byte_lt s (k + 3) hlt3
                  have hd3 := drop_byte s (k + 3) hlt3
                  have HX3 := Lib.hid fun w => rhex_any (s[k + 3]).toNat hc3 w
                  cases x3 : hexB (s[k + 3]).toNat
                  · rw [hexZ_none _ x3] at HX3
                    have hE2 : escR (s.data.toList.drop (k + 1)) = (hexV (s[k + 2]).toNat, 2) := by rw [hE, hd2, hd3, hexR_one _ _ _ x2 x3]
                    have HU2 : Hid (une f (s.data.toList.drop (k + 3)) (k + 3) (acc ++ [UInt8.ofNat (hexV (s[k + 2]).toNat)]) = p) := by show _ = _; rw [← HU.out, hd, une_good _ _ _ _ _ q (by rw [hE2]; simp), hE2, List.drop_drop]; rfl
                    clear hd hd1 hd2 HU hE hE2
                    generalize hexV (s[k + 2]).toNat = n at *
                    have hcv := fun w => convN w n (by omega)
                    go_wp2_with fail
                    refine (HX.out _).mono ?_
                    rintro e w2 ⟨rfl, rfl⟩
                    go_wp2_with fail
                    refine (HX.out _).mono ?_
                    rintro e w2 ⟨rfl, rfl⟩
                    go_wp2_with fail
                    refine (HX3.out _).mono ?_
                    rintro e w2 ⟨rfl, rfl⟩
                    go_wp2_with fail
                    go_roundw
                    case rel => exact ⟨k + 3, f, _, by omega, by omega, by simp; omega, by go_num, str_eq (cat_list _ _), HU2, hb.alloc hb.size _⟩
                    case measure => simp [intOf]; omega
                  · rw [hexZ_yes _ x3] at HX3
                    have hv3 := hexV_lt (s[k + 3]).toNat
                    have hE2 : escR (s.data.toList.drop (k + 1)) = (hexV (s[k + 2]).toNat * 16 + hexV (s[k + 3]).toNat, 3) := by rw [hE, hd2, hd3, hexR_two _ _ _ x2 x3]
                    have HU2 : Hid (une f (s.data.toList.drop (k + 4)) (k + 4) (acc ++ [UInt8.ofNat (hexV (s[k + 2]).toNat * 16 + hexV (s[k + 3]).toNat)]) = p) := by show _ = _; rw [← HU.out, hd, une_good _ _ _ _ _ q (by rw [hE2]; simp), hE2, List.drop_drop]; rfl
                    clear hd hd1 hd2 hd3 HU hE hE2
                    generalize hexV (s[k + 2]).toNat = n at *
                    generalize hexV (s[k + 3]).toNat = n3 at *
                    obtain ⟨z, hz⟩ : ∃ z, z = n * 16 + n3 := ⟨_, rfl⟩
                    have hzi : (n : Int) * 16 + (n3 : Int) = (z : Int) := by omega
                    rw [← hz] at HU2
                    have hz255 : z ≤ 255 := by omega
                    clear hz
                    have hcv := fun w => convN w z hz255
                    go_wp2_with fail
                    refine (HX.out _).mono ?_
                    rintro e w2 ⟨rfl, rfl⟩
                    go_wp2_with fail
                    refine (HX.out _).mono ?_
                    rintro e w2 ⟨rfl, rfl⟩
                    go_wp2_with fail
                    refine (HX3.out _).mono ?_
                    rintro e w2 ⟨rfl, rfl⟩
                    go_wp2_with fail
                    refine (HX3.out _).mono ?_
                    rintro e w2 ⟨rfl, rfl⟩
                    go_wp2_with fail
                    go_roundw
                    case rel => exact ⟨k + 4, f, _, by omega, by omega, by simp; omega, by go_num, str_eq (cat_list _ _), HU2, hb.alloc hb.size _⟩
                    case measure => simp [intOf]; omega
                · have hd3 := drop_end s (k + 3) (by omega)
                  have hE2 : escR (s.data.toList.drop (k + 1)) = (hexV (s[k + 2]).toNat, 2) := by rw [hE, hd2, hd3, hexR_end _ x2]
                  have HU2 : Hid (une f (s.data.toList.drop (k + 3)) (k + 3) (acc ++ [UInt8.ofNat (hexV (s[k + 2]).toNat)]) = p) := by show _ = _; rw [← HU.out, hd, une_good _ _ _ _ _ q (by rw [hE2]; simp), hE2, List.drop_drop]; rfl
                  clear hd hd1 hd2 hd3 HU hE hE2
                  generalize hexV (s[k + 2]).toNat = n at *
                  have hcv := fun w => convN w n (by omega)
                  go_wp2_with fail
                  refine (HX.out _).mono ?_
                  rintro e w2 ⟨rfl, rfl⟩
                  go_wp2_with fail
                  refine (HX.out _).mono ?_
                  rintro e w2 ⟨rfl, rfl⟩
                  go_wp2_with fail
                  go_roundw
                  case rel => exact ⟨k + 3, f, _, by omega, by omega, by simp; omega, by go_num, str_eq (cat_list _ _), HU2, hb.alloc hb.size _⟩
                  case measure => simp [intOf]; omega
            · have hd2 := drop_end s (k + 2) (by omega)
              have n2 : ((k : Int) + 2 == (s.size : Int)) = true := by simp; omega
              have HR : Hid (p = ([], (k : Int))) := by show _ = _; rw [← HU.out, hd, une_bad _ _ _ _ _ q (by rw [hE, hd2]; rfl)]
              clear hd hd1 hd2 HU hE
              go_wp2_with fail
              go_ret2
              exact ⟨by rw [HR.out]; rfl, hb⟩
          have e0 : (((s[k + 1]).toNat : Int) == 110) = false := beq_no q0
          have e1 : (((s[k + 1]).toNat : Int) == 114) = false := beq_no q1
          have e2 : (((s[k + 1]).toNat : Int) == 116) = false := beq_no q2
          have e3 : (((s[k + 1]).toNat : Int) == 48) = false := beq_no q3
          have e4 : (((s[k + 1]).toNat : Int) == 34) = false := beq_no q4
          have e5 : (((s[k + 1]).toNat : Int) == 39) = false := beq_no q5
          have e6 : (((s[k + 1]).toNat : Int) == 92) = false := beq_no q6
          have e7 : (((s[k + 1]).toNat : Int) == 120) = false := beq_no q7
          have HR : Hid (p = ([], (k : Int))) := by show _ = _; rw [← HU.out, hd, une_bad _ _ _ _ _ q (by rw [hd1, escR_else _ _ q4 q5 q6 q0 q1 q2 q3 q7])]
          clear hd hd1 HU
          go_wp2_with fail
          go_ret2
          exact ⟨by rw [HR.out]; rfl, hb⟩
        · have hd1 := drop_end s (k + 1) (by omega)
          have n1 : ((k : Int) + 1 == (s.size : Int)) = true := by simp; omega
          have HR : Hid (p = ([], (k : Int))) := by show _ = _; rw [← HU.out, hd, une_bad _ _ _ _ _ q (by rw [hd1]; rfl)]
          clear hd hd1 HU
          go_wp2_with fail
          go_ret2
          exact ⟨by rw [HR.out]; rfl, hb⟩
      · have e92 : ((s[k].toNat : Int) == 92) = false := beq_no q
        have HU2 : Hid (une f (s.data.toList.drop (k + 1)) (k + 1) (acc ++ [s[k]]) = p) := by show _ = _; rw [← HU.out, hd, une_plain _ _ _ _ _ q]
        clear hd HU
        go_wp2_with fail
        go_roundw
        case rel => exact ⟨k + 1, f, _, by omega, by omega, by simp; omega, by go_num, str_eq (cat_byte _ _ _ hlt), HU2, hb⟩
        case measure => simp [intOf]; omega
    · have HR : Hid (p = (acc, -1)) := by show _ = _; rw [← HU.out, drop_end s k (by omega), une_nil]
      clear HU
      go_wp2_with fail
      go_ret2
      exact ⟨by rw [HR.out]; rfl, hb⟩
end Go.Proofs.YthjmlgbnpnfkgaaDoor
