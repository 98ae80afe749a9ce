/- Contract of dreyref02.Hex. -/
import Derived.Test.YthjmlgbnpnfkgaaDoorUne2
import Derived.Test.YthjmlgbnpnfkgaaDoorQuote
namespace Go.Proofs.YthjmlgbnpnfkgaaDoor
open Go.RowKit Go.ChangeShapes Go.WideShapes Go.ChangeAt

/-- The great digit to the base 16. -/
def hexG (d : Nat) : Nat := if d < 10 then 48 + d else 55 + d
def hexZ (c : Nat) : Int := if hexB c = true then ((hexV c : Nat) : Int) else -1
theorem small_all : ∀ d : Fin 16, ((⟨#[48, 49, 50, 51, 52, 53, 54, 55, 56, 57, 97, 98, 99, 100, 101, 102]⟩ : ByteArray)[d.val]'d.isLt).toNat = hexN d.val := by decide
theorem great_all : ∀ d : Fin 16, ((⟨#[48, 49, 50, 51, 52, 53, 54, 55, 56, 57, 65, 66, 67, 68, 69, 70]⟩ : ByteArray)[d.val]'d.isLt).toNat = hexG d.val := by decide
theorem hexZ_at (c k : Nat) (hk : k < 16) (h : c = hexN k ∨ c = hexG k) : hexZ c = (k : Int) := by
  have h1 : (48 ≤ c ∧ c ≤ 57 ∧ c = 48 + k) ∨ (97 ≤ c ∧ c ≤ 102 ∧ c = 87 + k) ∨ (65 ≤ c ∧ c ≤ 70 ∧ c = 55 + k) := by
    unfold hexN hexG at h
    by_cases h9 : k < 10
    · rw [if_pos h9, if_pos h9] at h; omega
    · rw [if_neg h9, if_neg h9] at h; omega
  unfold hexZ hexB hexV dgB
  rcases h1 with ⟨a, b, e⟩ | ⟨a, b, e⟩ | ⟨a, b, e⟩
  · rw [if_pos (by simp; omega), if_pos (by simp; omega)]; omega
  · rw [if_pos (by simp; omega), if_neg (by simp; omega), if_pos (by omega)]; omega
  · rw [if_pos (by simp; omega), if_neg (by simp; omega), if_neg (by omega), if_pos (by omega)]; omega
theorem hexZ_no (c : Nat) (h : ∀ j, j < 16 → c ≠ hexN j ∧ c ≠ hexG j) : hexZ c = -1 := by
  unfold hexZ
  rw [if_neg]
  intro hb
  have h1 : (48 ≤ c ∧ c ≤ 57) ∨ (97 ≤ c ∧ c ≤ 102) ∨ (65 ≤ c ∧ c ≤ 70) := by
    unfold hexB dgB at hb; simp at hb; omega
  rcases h1 with ⟨a, b⟩ | ⟨a, b⟩ | ⟨a, b⟩
  · have := (h (c - 48) (by omega)).1; unfold hexN at this; rw [if_pos (by omega)] at this; omega
  · have := (h (c - 87) (by omega)).1; unfold hexN at this; rw [if_neg (by omega)] at this; omega
  · have := (h (c - 55) (by omega)).2; unfold hexG at this; rw [if_neg (by omega)] at this; omega

set_option maxRecDepth 100000 in
set_option maxHeartbeats 2000000 in
theorem rhex_any (c : Nat) (_ : c ≤ 255) (w : World) : Calls Tryd.prog 47 #[.int .u8 (c : Int)] w fun e w' => e = .returned (.int .i64 (hexZ c)) ∧ w = w' := by
  have HYes : Hid (∀ k, k < 16 → c = hexN k ∨ c = hexG k → hexZ c = (k : Int)) := hexZ_at c
  have HNo : Hid ((∀ j, j < 16 → c ≠ hexN j ∧ c ≠ hexG j) → hexZ c = -1) := hexZ_no c
  generalize hexZ c = R at *
  go_enter Tryd.func47, Tryd.ntmps47
  go_wp2_with fail
  go_loop [5] (fun i => ∃ k : Nat, k ≤ 16 ∧ i = .int .i64 (k : Int) ∧ Hid (∀ j, j < k → c ≠ hexN j ∧ c ≠ hexG j)) (fun i => 16 - (intOf i).toNat)
  case atStart => exact ⟨0, by omega, rfl, fun j h => by omega⟩
  case round =>
    obtain ⟨k, hk, rfl, HU⟩ := hrel
    by_cases hlt : k < 16
    · have s1 := small_all ⟨k, hlt⟩
      have s2 := great_all ⟨k, hlt⟩
      by_cases e1 : c = hexN k
      · have HR : Hid (R = (k : Int)) := HYes.out k hlt (.inl e1)
        have b1 : ((((⟨#[48, 49, 50, 51, 52, 53, 54, 55, 56, 57, 97, 98, 99, 100, 101, 102]⟩ : ByteArray)[k]'hlt).toNat : Int) == (c : Int)) = true := beq_yes (by rw [s1, e1])
        clear s1 s2 e1
        go_wp2_with fail
        go_ret
        exact ⟨ret_i64 HR.out.symm, rfl⟩
      · have b1 : ((((⟨#[48, 49, 50, 51, 52, 53, 54, 55, 56, 57, 97, 98, 99, 100, 101, 102]⟩ : ByteArray)[k]'hlt).toNat : Int) == (c : Int)) = false := beq_no (by rw [s1]; exact fun h => e1 h.symm)
        by_cases e2 : c = hexG k
        · have HR : Hid (R = (k : Int)) := HYes.out k hlt (.inr e2)
          have b2 : ((((⟨#[48, 49, 50, 51, 52, 53, 54, 55, 56, 57, 65, 66, 67, 68, 69, 70]⟩ : ByteArray)[k]'hlt).toNat : Int) == (c : Int)) = true := beq_yes (by rw [s2, e2])
          clear s1 s2 e1 e2
          go_wp2_with fail
          go_ret
          exact ⟨ret_i64 HR.out.symm, rfl⟩
        · have b2 : ((((⟨#[48, 49, 50, 51, 52, 53, 54, 55, 56, 57, 65, 66, 67, 68, 69, 70]⟩ : ByteArray)[k]'hlt).toNat : Int) == (c : Int)) = false := beq_no (by rw [s2]; exact fun h => e2 h.symm)
          have HU2 : Hid (∀ j, j < k + 1 → c ≠ hexN j ∧ c ≠ hexG j) := fun j h => by
            by_cases hj : j = k
            · subst hj; exact ⟨e1, e2⟩
            · exact HU.out j (by omega)
          clear s1 s2 e1 e2
          go_wp2_with fail
          go_round
          case rel => exact ⟨k + 1, by omega, by go_num, HU2⟩
          case measure => simp [intOf]; omega
    · have HR : Hid (R = -1) := HNo.out fun j h => HU.out j (by omega)
      go_wp2_with fail
      go_ret
      exact ⟨ret_i64 HR.out.symm, rfl⟩
end Go.Proofs.YthjmlgbnpnfkgaaDoor
