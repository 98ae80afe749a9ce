/- What Escape writes is read back by Unescape (pure). -/
import Derived.Test.YthjmlgbnpnfkgaaDoorUne2
import Derived.Test.YthjmlgbnpnfkgaaDoorQuote
namespace Go.Proofs.YthjmlgbnpnfkgaaDoor
open Go.RowKit

theorem esc_pos (c : Nat) : 1 ≤ (esc c).length := by unfold esc; repeat' split
                                                     all_goals simp
theorem escs_ge : ∀ l : List UInt8, l.length ≤ (escs l).length
  | [] => by simp
  | c :: l => by have := escs_ge l; have := esc_pos c.toNat; simp [escs]; omega
theorem hex_back : ∀ d : Fin 16, hexB (UInt8.ofNat (hexN d.val)).toNat = true ∧ hexV (UInt8.ofNat (hexN d.val)).toNat = d.val := by decide
theorem une_esc (c f k : Nat) (acc rest : List UInt8) (hc : c ≤ 255) : une (f + 1) (esc c ++ rest) k acc = une f rest (k + (esc c).length) (acc ++ [UInt8.ofNat c]) := by
  by_cases h1 : c = 34 ∨ c = 39 ∨ c = 92
  · rcases h1 with rfl | rfl | rfl
    · exact (une_good f 92 (34 :: rest) k acc rfl (by show ¬ (1 = 0); decide)).trans rfl
    · exact (une_good f 92 (39 :: rest) k acc rfl (by show ¬ (1 = 0); decide)).trans rfl
    · exact (une_good f 92 (92 :: rest) k acc rfl (by show ¬ (1 = 0); decide)).trans rfl
  · by_cases h2 : c = 10 ∨ c = 13 ∨ c = 9
    · rcases h2 with rfl | rfl | rfl
      · exact (une_good f 92 (110 :: rest) k acc rfl (by show ¬ (1 = 0); decide)).trans rfl
      · exact (une_good f 92 (114 :: rest) k acc rfl (by show ¬ (1 = 0); decide)).trans rfl
      · exact (une_good f 92 (116 :: rest) k acc rfl (by show ¬ (1 = 0); decide)).trans rfl
    · by_cases h3 : 32 ≤ c ∧ c ≤ 126
      · have e : esc c = [UInt8.ofNat c] := by
          unfold esc; rw [if_neg h1, if_neg (by omega), if_neg (by omega), if_neg (by omega), if_pos h3]
        rw [e]
        refine (une_plain f (UInt8.ofNat c) rest k acc ?_).trans rfl
        rw [UInt8.toNat_ofNat']; omega
      · have e : esc c = [92, 120, UInt8.ofNat (hexN (c / 16)), UInt8.ofNat (hexN (c % 16))] := by
          unfold esc; rw [if_neg h1, if_neg (by omega), if_neg (by omega), if_neg (by omega), if_neg h3]
        obtain ⟨x1, x2⟩ := hex_back ⟨c / 16, by omega⟩
        obtain ⟨y1, y2⟩ := hex_back ⟨c % 16, by omega⟩
        have hE : escR (120 :: UInt8.ofNat (hexN (c / 16)) :: UInt8.ofNat (hexN (c % 16)) :: rest) = (c, 3) := by
          show hexR (UInt8.ofNat (hexN (c / 16)) :: UInt8.ofNat (hexN (c % 16)) :: rest) = (c, 3)
          rw [hexR_two _ _ _ x1 y1, x2, y2]
          show (c / 16 * 16 + c % 16, 3) = (c, 3)
          rw [Nat.div_add_mod']
        rw [e]
        refine (une_good f 92 (120 :: UInt8.ofNat (hexN (c / 16)) :: UInt8.ofNat (hexN (c % 16)) :: rest) k acc rfl (by rw [hE]; simp)).trans ?_
        rw [hE]; rfl
theorem une_escs : ∀ (l : List UInt8) (f k : Nat) (acc : List UInt8), l.length ≤ f → une f (escs l) k acc = (acc ++ l, -1)
  | [], f, k, acc, _ => by rw [escs, une_nil, List.append_nil]
  | c :: l, f, k, acc, h => by
    obtain ⟨g, rfl⟩ : ∃ g, f = g + 1 := ⟨f - 1, by simp at h; omega⟩
    rw [escs, une_esc _ _ _ _ _ (by have := c.toNat_lt; omega), une_escs l g _ _ (by simp at h; omega)]
    simp
end Go.Proofs.YthjmlgbnpnfkgaaDoor
