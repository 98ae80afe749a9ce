/- Contract of dreyref02.Less. -/
import Derived.Test.YtkpdjpplcejjiaaTexts
namespace Go.Proofs.Ytkpdjpplcejjiaa
open Go.RowKit Go.ChangeShapes Go.WideShapes Go.ChangeAt

theorem u8_lt {a b : UInt8} : a < b ↔ a.toNat < b.toNat := UInt8.lt_iff_toNat_lt
theorem cmp_same (a b : UInt8) (l r : List UInt8) (h : a.toNat = b.toNat) : Lib.compareBytes (a :: l) (b :: r) = Lib.compareBytes l r := by
  rw [Lib.compareBytes, if_neg (by rw [u8_lt]; omega), if_neg (by rw [u8_lt]; omega)]
theorem cmp_less (a b : UInt8) (l r : List UInt8) (h : a.toNat < b.toNat) : Lib.compareBytes (a :: l) (b :: r) = -1 := by
  rw [Lib.compareBytes, if_pos (by rw [u8_lt]; omega)]
theorem cmp_more (a b : UInt8) (l r : List UInt8) (h : b.toNat < a.toNat) : Lib.compareBytes (a :: l) (b :: r) = 1 := by
  rw [Lib.compareBytes, if_neg (by rw [u8_lt]; omega), if_pos (by rw [u8_lt]; omega)]

set_option maxRecDepth 100000 in
set_option maxHeartbeats 2000000 in
theorem less_any (a b : ByteArray) (ha : a.size ≤ 500) (hb : b.size ≤ 500) (w : World) :
    Calls Try.prog 20 #[.string a, .string b] w fun e w' => e = .returned (.bool (decide (Lib.compareBytes a.data.toList b.data.toList < 0))) ∧ Below w.heap.size w w' := by
  generalize hC : Lib.compareBytes a.data.toList b.data.toList = C
  have HC := Lib.hid hC
  clear hC
  go_enter Try.func20, Try.ntmps20
  go_wp2_with fail
  go_loopw [5] (fun i wr => ∃ k : Nat, k ≤ a.size ∧ k ≤ b.size ∧ i = .int .i64 (k : Int) ∧ Hid (Lib.compareBytes (a.data.toList.drop k) (b.data.toList.drop k) = C) ∧ Below w.heap.size w wr) (fun i _ => a.size - (intOf i).toNat)
  case atStart => exact ⟨0, by omega, by omega, rfl, HC.out, Below.refl _ _⟩
  case round =>
    obtain ⟨k, hk, hk2, rfl, HU, hbl⟩ := hrel
    by_cases h1 : k < a.size
    · have hd1 := drop_byte a k h1
      by_cases h2 : k < b.size
      · have hd2 := drop_byte b k h2
        have hc1 := byte_lt a k h1
        have hc2 := byte_lt b k h2
        have h3 : a[k].toNat = b[k].toNat ∨ a[k].toNat < b[k].toNat ∨ b[k].toNat < a[k].toNat := by omega
        rcases h3 with h3 | h3 | h3
        · have HU2 : Hid (Lib.compareBytes (a.data.toList.drop (k + 1)) (b.data.toList.drop (k + 1)) = C) := by show _ = _; rw [← HU.out, hd1, hd2, cmp_same _ _ _ _ h3]
          have e0 : ((a[k].toNat : Int) == (b[k].toNat : Int)) = true := beq_yes h3
          clear hd1 hd2 HU
          go_wp2_with fail
          go_quiet (fail)
          go_wp2_with fail
          go_roundw
          case rel => exact ⟨k + 1, by omega, by omega, by go_num, HU2, below_drewN hbl _⟩
          case measure => simp [intOf]; omega
        · have HR : Hid (C = -1) := by show _ = _; rw [← HU.out, hd1, hd2, cmp_less _ _ _ _ h3]
          have e0 : ((a[k].toNat : Int) == (b[k].toNat : Int)) = false := beq_no (by omega)
          have e2 : ((k : Int) == (a.size : Int)) = false := beq_no (by omega)
          have e3 : ((k : Int) == (b.size : Int)) = false := beq_no (by omega)
          have e1 : (a[k].toNat : Int) < (b[k].toNat : Int) := by omega
          clear hd1 hd2 HU
          go_wp2_with fail
          go_quiet (fail)
          go_wp2_with fail
          go_quiet (fail)
          go_wp2_with fail
          go_ret
          exact ⟨ret_b (by rw [HR.out]; first | (simp; done) | (simp; omega)), below_drewN (below_drewN hbl _) _⟩
        · have HR : Hid (C = 1) := by show _ = _; rw [← HU.out, hd1, hd2, cmp_more _ _ _ _ h3]
          have e0 : ((a[k].toNat : Int) == (b[k].toNat : Int)) = false := beq_no (by omega)
          have e2 : ((k : Int) == (a.size : Int)) = false := beq_no (by omega)
          have e3 : ((k : Int) == (b.size : Int)) = false := beq_no (by omega)
          have e1 : ¬ (a[k].toNat : Int) < (b[k].toNat : Int) := by omega
          clear hd1 hd2 HU
          go_wp2_with fail
          go_quiet (fail)
          go_wp2_with fail
          go_quiet (fail)
          go_wp2_with fail
          go_ret
          exact ⟨ret_b (by rw [HR.out]; first | (simp; done) | (simp; omega)), below_drewN (below_drewN hbl _) _⟩
      · have hkb : k = b.size := by omega
        have e2 : ((k : Int) == (a.size : Int)) = false := beq_no (by omega)
        have e3 : ((k : Int) == (b.size : Int)) = true := beq_yes hkb
        have HR : Hid (C = 1) := by show _ = _; rw [← HU.out, hd1, drop_end b k (by omega)]; rfl
        have h4 : ¬ a.size < b.size := by omega
        clear hd1 HU hkb
        go_wp2_with fail
        go_quiet (fail)
        go_wp2_with fail
        go_ret
        exact ⟨ret_b (by rw [HR.out]; first | (simp; done) | (simp; omega)), below_drewN hbl _⟩
    · have hka : k = a.size := by omega
      have e2 : ((k : Int) == (a.size : Int)) = true := beq_yes hka
      have hd1 := drop_end a k (by omega)
      by_cases h2 : k < b.size
      · have HR : Hid (C = -1) := by show _ = _; rw [← HU.out, hd1, drop_byte b k h2]; rfl
        have h4 : a.size < b.size := by omega
        clear hd1 HU hka
        go_wp2_with fail
        go_quiet (fail)
        go_wp2_with fail
        go_ret
        exact ⟨ret_b (by rw [HR.out]; first | (simp; done) | (simp; omega)), below_drewN hbl _⟩
      · have HR : Hid (C = 0) := by show _ = _; rw [← HU.out, hd1, drop_end b k (by omega)]; rfl
        have h4 : ¬ a.size < b.size := by omega
        clear hd1 HU hka
        go_wp2_with fail
        go_quiet (fail)
        go_wp2_with fail
        go_ret
        exact ⟨ret_b (by rw [HR.out]; first | (simp; done) | (simp; omega)), below_drewN hbl _⟩
end Go.Proofs.Ytkpdjpplcejjiaa
