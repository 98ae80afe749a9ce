/- Plain facts on a number's text: it is read back, it is a sign and digits. -/
import Derived.Test.YthmeehmobcaadaaNum4
namespace Go.Proofs.Ythmeehmobcaadaa.Nu
open Go.RowKit

theorem pow64 (base : Nat) (hb : 2 ≤ base) : 9223372036854775808 < base ^ (63 + 1) := by
  have h1 : 2 ^ 64 ≤ base ^ 64 := Nat.pow_le_pow_left hb 64
  have h2 : (2 : Nat) ^ 64 = 18446744073709551616 := by decide
  rw [show 63 + 1 = 64 from rfl]
  omega
theorem ds_ne (base f n : Nat) : ds base f n ≠ [] := by
  have := wr_ne base f n []
  rw [wr_ds] at this
  simpa using this
theorem rdv_ds (base : Nat) (hb : 2 ≤ base) (hB : base ≤ 36) (n : Nat) (hn : n ≤ 9223372036854775808) : rdv base (ds base 63 n) = (n, 0) := by
  unfold rdv
  rw [if_neg (ds_ne base 63 n)]
  exact rd_ds base hb hB 63 n hn (by have := pow64 base hb; omega)
/-- A digit's byte. -/
theorem dig_byte (base d : Nat) (hB : base ≤ 36) (h : d < base) : (48 ≤ (dig d).toNat ∧ (dig d).toNat ≤ 57 ∧ (dig d).toNat < 48 + base) ∨ (97 ≤ (dig d).toNat ∧ (dig d).toNat ≤ 122 ∧ (dig d).toNat < 87 + base) := by
  rw [dig_nat d (by omega)]; split <;> omega
/-- What a text of digits is like, as a string. -/
structure Digits (base : Nat) (D : ByteArray) : Prop where
  some : 0 < D.size
  few : D.size ≤ 64
  lead : ∀ _ : 1 < D.size, ¬ (D[0]).toNat = 48
  each : ∀ k (h : k < D.size), (48 ≤ (D[k]).toNat ∧ (D[k]).toNat ≤ 57 ∧ (D[k]).toNat < 48 + base) ∨ (97 ≤ (D[k]).toNat ∧ (D[k]).toNat ≤ 122 ∧ (D[k]).toNat < 87 + base)
theorem get_list (D : ByteArray) (k : Nat) (h : k < D.size) : D[k] = D.data.toList[k]'(by simpa using h) := rfl
theorem digits_ds (base : Nat) (hb : 2 ≤ base) (hB : base ≤ 36) (n : Nat) (hn : n ≤ 9223372036854775808) (D : ByteArray) (hD : D.data.toList = ds base 63 n) : Digits base D := by
  have hs : D.size = (ds base 63 n).length := by rw [← hD]; simp
  have hp := pow64 base hb
  refine ⟨?_, ?_, ?_, ?_⟩
  · rw [hs]; exact List.length_pos_iff.2 (ds_ne base 63 n)
  · rw [hs]; exact ds_len base 63 n
  · intro h hz
    by_cases h0 : n = 0
    · subst h0
      rw [ds_zero base hb] at hs
      simp at hs; omega
    · obtain ⟨d, l, e, hd1, hd2⟩ := ds_head base hb 63 n (by omega) (by omega)
      have e0 : D[0] = dig d := by
        have h1 := drop_byte D 0 (by omega)
        rw [List.drop_zero, hD, e] at h1
        exact ((List.cons.inj h1).1).symm
      rw [e0, dig_nat d (by omega)] at hz
      split at hz <;> omega
  · intro k h
    have hm : D[k] ∈ ds base 63 n := by
      rw [← hD]
      have h1 := drop_byte D k h
      have : D[k] ∈ D.data.toList.drop k := by rw [h1]; exact List.mem_cons_self
      exact List.mem_of_mem_drop this
    obtain ⟨d, hd, e⟩ := ds_all base hb hB 63 n (by omega) _ hm
    rw [e]
    exact dig_byte base d hB hd
end Go.Proofs.Ythmeehmobcaadaa.Nu
