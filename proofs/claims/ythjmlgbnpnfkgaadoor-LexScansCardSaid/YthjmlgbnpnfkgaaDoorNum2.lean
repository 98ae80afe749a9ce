/- Contracts of num.In, Text, read, Parse. -/
import Derived.Test.YthjmlgbnpnfkgaaDoorNum1
namespace Go.Proofs.YthjmlgbnpnfkgaaDoor.Nu
open Go.RowKit Go.ChangeShapes Go.WideShapes Go.ChangeAt

theorem byte_lt (s : ByteArray) (k : Nat) (h : k < s.size) : (s[k]).toNat ≤ 255 := by have := (s[k]).toNat_lt; omega
theorem drop_byte (s : ByteArray) (k : Nat) (h : k < s.size) : s.data.toList.drop k = s[k] :: s.data.toList.drop (k + 1) := by
  rw [List.drop_eq_getElem_cons (by simpa using h)]; rfl

theorem ret_two {k1 k2 : IntKind} {a b c d : Int} (h : a = b) (h2 : c = d) : Ending.returned (.tuple #[.int k1 a, .int k2 c]) = .returned (.tuple #[.int k1 b, .int k2 d]) := by rw [h, h2]

set_option maxRecDepth 100000 in
set_option maxHeartbeats 1000000 in
theorem read_any (s : ByteArray) (hs : s.size ≤ maxLen) (base : Nat) (hb1 : 2 ≤ base) (hb2 : base ≤ 36) (w : World) :
    Calls Tryd.prog 82 #[.string s, .int .u64 (base : Int)] w fun e w' => e = .returned (.tuple #[.int .u64 (((rdv base s.data.toList).1 : Nat) : Int), .int .i64 (((rdv base s.data.toList).2 : Nat) : Int)]) ∧ w = w' := by
  unfold maxLen at hs
  unfold rdv
  by_cases h0 : s.data.toList = []
  · rw [if_pos h0]
    have h0' : s.toList.isEmpty = true := by rw [ByteArray.toList_eq, h0]; rfl
    clear h0
    go_enter Tryd.func82, Tryd.ntmps82
    go_wp2
    go_ret2
    exact ⟨rfl, rfl⟩
  · rw [if_neg h0]
    have h0' : s.toList.isEmpty = false := by rw [ByteArray.toList_eq]; simpa using h0
    have HH := Lib.hid h0
    clear h0
    go_enter Tryd.func82, Tryd.ntmps82
    go_wp2
    go_loop [6, 7, 14] (fun n o i => ∃ (k N : Nat) (b : Bool), k ≤ s.size ∧ i = .int .i64 (k : Int) ∧ n = .int .u64 (N : Int) ∧ o = .bool b ∧ N ≤ 9223372036854775808 ∧ Hid (rd base s.data.toList 0 false = rd base (s.data.toList.drop k) N b)) (fun _ _ i => s.size - (intOf i).toNat)
    case atStart => exact ⟨0, 0, false, by omega, rfl, rfl, rfl, by omega, rfl⟩
    case round =>
      obtain ⟨k, N, b, hk, rfl, rfl, rfl, hN, HR⟩ := hrel
      by_cases hlt : k < s.size
      · have hc := byte_lt s k hlt
        have hdr := Lib.hid (drop_byte s k hlt)
        have hd36 := dv_le (s[k]).toNat
        by_cases hd : base ≤ dv (s[k]).toNat
        · go_wp2_with (go_at_call 90; refine (digit_any _ (by omega) _).mono ?_; rintro e w' ⟨rfl, rfl⟩)
          go_ret2
          exact ⟨ret_two (by rw [HR.out, hdr.out, rd_bad _ _ _ _ _ hd]; rfl) (by rw [HR.out, hdr.out, rd_bad _ _ _ _ _ hd]; rfl), rfl⟩
        · cases b with
          | true =>
            go_wp2_with (go_at_call 90; refine (digit_any _ (by omega) _).mono ?_; rintro e w' ⟨rfl, rfl⟩)
            go_round
            case rel => exact ⟨k + 1, N, true, by omega, by go_num, rfl, rfl, hN, by show _ = _; rw [HR.out, hdr.out, rd_over _ _ _ _ (by omega)]⟩
            case measure => simp [intOf]; omega
          | false =>
            have hq := quo_cast (dv (s[k]).toNat) base (by omega)
            by_cases hm : (9223372036854775808 - dv (s[k]).toNat) / base < N
            · have hm' : (9223372036854775808 - ((dv (s[k]).toNat : Nat) : Int)) / (base : Int) < (N : Int) := by rw [hq]; omega
              have hm0 : 0 ≤ (9223372036854775808 - ((dv (s[k]).toNat : Nat) : Int)) / (base : Int) := by rw [hq]; exact Int.natCast_nonneg _
              have HM := Lib.hid hm
              clear hm hq
              go_wp2_with (go_at_call 90; refine (digit_any _ (by omega) _).mono ?_; rintro e w' ⟨rfl, rfl⟩)
              go_round
              case rel => exact ⟨k + 1, N, true, by omega, by go_num, rfl, rfl, hN, by show _ = _; rw [HR.out, hdr.out, rd_much _ _ _ _ (by omega) HM.out]⟩
              case measure => simp [intOf]; omega
            · have hm' : (N : Int) ≤ (9223372036854775808 - ((dv (s[k]).toNat : Nat) : Int)) / (base : Int) := by rw [hq]; omega
              have hr := mul_room hb1 (by omega) hm
              have hr0 : (N : Int) * (base : Int) + ((dv (s[k]).toNat : Nat) : Int) ≤ 9223372036854775808 := by rw [← Int.natCast_mul]; omega
              have hr1 : 0 ≤ (N : Int) * (base : Int) := by rw [← Int.natCast_mul]; omega
              have HM := Lib.hid hm
              have HT := Lib.hid hr
              clear hm hq hr
              go_wp2_with (go_at_call 90; refine (digit_any _ (by omega) _).mono ?_; rintro e w' ⟨rfl, rfl⟩)
              go_round
              case rel => exact ⟨k + 1, N * base + dv (s[k]).toNat, false, by omega, by go_num, by rw [Int.natCast_add, Int.natCast_mul], rfl, HT.out, by show _ = _; rw [HR.out, hdr.out, rd_more _ _ _ _ (by omega) HM.out]⟩
              case measure => simp [intOf]; omega
      · have hd : s.data.toList.drop k = [] := List.drop_eq_nil_of_le (by simp; omega)
        have HD := Lib.hid hd
        clear hd
        cases b with
        | true =>
          go_wp2
          go_ret2
          exact ⟨ret_two (by rw [HR.out, HD.out]; rfl) (by rw [HR.out, HD.out]; rfl), rfl⟩
        | false =>
          go_wp2
          go_ret2
          exact ⟨ret_two (by rw [HR.out, HD.out]; rfl) (by rw [HR.out, HD.out]; rfl), rfl⟩
end Go.Proofs.YthjmlgbnpnfkgaaDoor.Nu
