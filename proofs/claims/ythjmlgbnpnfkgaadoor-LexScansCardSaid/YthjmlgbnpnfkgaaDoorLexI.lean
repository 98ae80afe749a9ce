/- Contracts of dreyref08.Starts, Inner, Sign. -/
import Derived.Test.YthjmlgbnpnfkgaaDoorLexB
import Derived.Test.YthjmlgbnpnfkgaaDoorLexG
set_option linter.unusedVariables false
namespace Go.Proofs.YthjmlgbnpnfkgaaDoor.Lx
open Go.RowKit Go.ChangeShapes Go.WideShapes Go.ChangeAt Go.Proofs.YthjmlgbnpnfkgaaDoor.Nu

theorem inner_any (c : Nat) (hc : c ≤ 255) (w : World) : Calls Tryd.prog 26 #[.int .u8 (c : Int)] w fun e w' => e = .returned (.bool (dgB c || stB c)) ∧ w = w' := by
  by_cases h1 : c = 95
  · subst h1
    go_enter Tryd.func26, Tryd.ntmps26
    go_wp2
    go_ret
    exact ⟨rfl, rfl⟩
  · have e1 : ((c : Int) == 95) = false := by rw [beq_eq_false_iff_ne]; omega
    go_enter Tryd.func26, Tryd.ntmps26
    go_wp2
    all_goals go_ret
    all_goals exact ⟨ret_b (by rw [Bool.eq_iff_iff]; simp [dgB, stB, loB, upB]; omega), rfl⟩
theorem take_prefix (s p : List UInt8) : (s.take p.length == p) = p.isPrefixOf s := by
  rw [Bool.eq_iff_iff, beq_iff_eq, List.isPrefixOf_iff_prefix, List.prefix_iff_eq_take]
  exact eq_comm
theorem starts_any (s p : ByteArray) (w : World) : Calls Tryd.prog 25 #[.string s, .string p] w fun e w' => e = .returned (.bool (Lib.hasPrefix s.data.toList p.data.toList)) ∧ w = w' := by
  by_cases h : p.size ≤ s.size
  · have h1 : ((s.extract 0 p.size).toList == p.toList) = Lib.hasPrefix s.data.toList p.data.toList := by
      rw [ByteArray.toList_eq, ByteArray.toList_eq, take_list]
      have := take_prefix s.data.toList p.data.toList
      rw [size_list] at this
      exact this
    go_enter Tryd.func25, Tryd.ntmps25
    go_wp2
    go_ret
    first | exact ⟨rfl, rfl⟩ | exact ⟨ret_b h1, rfl⟩
  · have h1 : Lib.hasPrefix s.data.toList p.data.toList = false := by
      rw [← Bool.not_eq_true]
      intro hp
      have := (List.isPrefixOf_iff_prefix.1 hp).length_le
      rw [size_list, size_list] at this
      omega
    go_enter Tryd.func25, Tryd.ntmps25
    go_wp2
    go_ret
    exact ⟨ret_b h1.symm, rfl⟩
def sgB : List ByteArray := [⟨#[62, 62, 62]⟩, ⟨#[60, 61, 62]⟩, ⟨#[60, 45]⟩, ⟨#[60, 60]⟩, ⟨#[62, 62]⟩, ⟨#[60, 61]⟩, ⟨#[62, 61]⟩, ⟨#[61, 61]⟩, ⟨#[33, 61]⟩, ⟨#[38, 38]⟩, ⟨#[124, 124]⟩, ⟨#[43, 43]⟩, ⟨#[45, 45]⟩, ⟨#[43, 61]⟩, ⟨#[45, 61]⟩, ⟨#[42, 61]⟩, ⟨#[47, 61]⟩, ⟨#[37, 61]⟩, ⟨#[58, 58]⟩, ⟨#[43]⟩, ⟨#[45]⟩, ⟨#[42]⟩, ⟨#[47]⟩, ⟨#[37]⟩, ⟨#[61]⟩, ⟨#[60]⟩, ⟨#[62]⟩, ⟨#[33]⟩, ⟨#[126]⟩, ⟨#[38]⟩, ⟨#[124]⟩, ⟨#[94]⟩, ⟨#[63]⟩, ⟨#[58]⟩, ⟨#[59]⟩, ⟨#[44]⟩, ⟨#[46]⟩, ⟨#[40]⟩, ⟨#[41]⟩, ⟨#[123]⟩, ⟨#[125]⟩, ⟨#[91]⟩, ⟨#[93]⟩]
theorem sgB_list : sgB.map (fun x => x.data.toList) = signs := rfl
theorem sgB_len : sgB.length = 43 := rfl
def sgW (w : World) : World := w.alloc (.cells #[.string ⟨#[62, 62, 62]⟩, .string ⟨#[60, 61, 62]⟩, .string ⟨#[60, 45]⟩, .string ⟨#[60, 60]⟩, .string ⟨#[62, 62]⟩, .string ⟨#[60, 61]⟩, .string ⟨#[62, 61]⟩, .string ⟨#[61, 61]⟩, .string ⟨#[33, 61]⟩, .string ⟨#[38, 38]⟩, .string ⟨#[124, 124]⟩, .string ⟨#[43, 43]⟩, .string ⟨#[45, 45]⟩, .string ⟨#[43, 61]⟩, .string ⟨#[45, 61]⟩, .string ⟨#[42, 61]⟩, .string ⟨#[47, 61]⟩, .string ⟨#[37, 61]⟩, .string ⟨#[58, 58]⟩, .string ⟨#[43]⟩, .string ⟨#[45]⟩, .string ⟨#[42]⟩, .string ⟨#[47]⟩, .string ⟨#[37]⟩, .string ⟨#[61]⟩, .string ⟨#[60]⟩, .string ⟨#[62]⟩, .string ⟨#[33]⟩, .string ⟨#[126]⟩, .string ⟨#[38]⟩, .string ⟨#[124]⟩, .string ⟨#[94]⟩, .string ⟨#[63]⟩, .string ⟨#[58]⟩, .string ⟨#[59]⟩, .string ⟨#[44]⟩, .string ⟨#[46]⟩, .string ⟨#[40]⟩, .string ⟨#[41]⟩, .string ⟨#[123]⟩, .string ⟨#[125]⟩, .string ⟨#[91]⟩, .string ⟨#[93]⟩] 9)
theorem sgW_at (w : World) : ∀ (k : Nat) (h : k < sgB.length), (sgW w).cell? ⟨w.heap.size, k, none⟩ = some (.string sgB[k]) := by
  intro k hk
  unfold sgW
  rw [cell_of_row _ _ _ _ _ _ (heap_alloc_new w _)]
  rw [sgB_len] at hk
  match k, hk with
  | 0, _ => rfl | 1, _ => rfl | 2, _ => rfl | 3, _ => rfl | 4, _ => rfl | 5, _ => rfl | 6, _ => rfl | 7, _ => rfl
  | 8, _ => rfl | 9, _ => rfl | 10, _ => rfl | 11, _ => rfl | 12, _ => rfl | 13, _ => rfl | 14, _ => rfl | 15, _ => rfl
  | 16, _ => rfl | 17, _ => rfl | 18, _ => rfl | 19, _ => rfl | 20, _ => rfl | 21, _ => rfl | 22, _ => rfl | 23, _ => rfl
  | 24, _ => rfl | 25, _ => rfl | 26, _ => rfl | 27, _ => rfl | 28, _ => rfl | 29, _ => rfl | 30, _ => rfl | 31, _ => rfl
  | 32, _ => rfl | 33, _ => rfl | 34, _ => rfl | 35, _ => rfl | 36, _ => rfl | 37, _ => rfl | 38, _ => rfl | 39, _ => rfl
  | 40, _ => rfl | 41, _ => rfl | 42, _ => rfl
  | n + 43, hk => exact absurd hk (by omega)
theorem sign_has (s : ByteArray) (k : Nat) (h : k < sgB.length) (e : sgB[k] = s) : signs.contains s.toList = true := by
  rw [List.contains_iff_mem, ← sgB_list, ByteArray.toList_eq]
  exact List.mem_map.2 ⟨_, List.getElem_mem h, by rw [e]⟩
theorem sign_hasn (s : ByteArray) (h : ∀ j (hj : j < sgB.length), sgB[j] ≠ s) : signs.contains s.toList = false := by
  rw [← Bool.not_eq_true, List.contains_iff_mem, ← sgB_list, ByteArray.toList_eq]
  intro hm
  obtain ⟨x, hx, e⟩ := List.mem_map.1 hm
  obtain ⟨i, hi, rfl⟩ := List.mem_iff_getElem.1 hx
  exact h i hi (bytes_ext e)
set_option maxRecDepth 100000 in
set_option maxHeartbeats 2000000 in
theorem rsign_any (s : ByteArray) (w : World) : Calls Tryd.prog 30 #[.string s] w fun e w' => e = .returned (.bool (signs.contains s.toList)) ∧ Below w.heap.size w w' := by
  have HY := Lib.hid (sign_has s)
  have HN := Lib.hid (sign_hasn s)
  generalize signs.contains s.toList = R at *
  have hb : Below w.heap.size w (sgW w) := (Below.refl _ _).alloc (Nat.le_refl _) _
  have HC := Lib.hid (sgW_at w)
  go_enter Tryd.func30, Tryd.ntmps30
  go_wp2_with fail
  rw [show w.alloc (.cells #[.string ⟨#[62, 62, 62]⟩, .string ⟨#[60, 61, 62]⟩, .string ⟨#[60, 45]⟩, .string ⟨#[60, 60]⟩, .string ⟨#[62, 62]⟩, .string ⟨#[60, 61]⟩, .string ⟨#[62, 61]⟩, .string ⟨#[61, 61]⟩, .string ⟨#[33, 61]⟩, .string ⟨#[38, 38]⟩, .string ⟨#[124, 124]⟩, .string ⟨#[43, 43]⟩, .string ⟨#[45, 45]⟩, .string ⟨#[43, 61]⟩, .string ⟨#[45, 61]⟩, .string ⟨#[42, 61]⟩, .string ⟨#[47, 61]⟩, .string ⟨#[37, 61]⟩, .string ⟨#[58, 58]⟩, .string ⟨#[43]⟩, .string ⟨#[45]⟩, .string ⟨#[42]⟩, .string ⟨#[47]⟩, .string ⟨#[37]⟩, .string ⟨#[61]⟩, .string ⟨#[60]⟩, .string ⟨#[62]⟩, .string ⟨#[33]⟩, .string ⟨#[126]⟩, .string ⟨#[38]⟩, .string ⟨#[124]⟩, .string ⟨#[94]⟩, .string ⟨#[63]⟩, .string ⟨#[58]⟩, .string ⟨#[59]⟩, .string ⟨#[44]⟩, .string ⟨#[46]⟩, .string ⟨#[40]⟩, .string ⟨#[41]⟩, .string ⟨#[123]⟩, .string ⟨#[125]⟩, .string ⟨#[91]⟩, .string ⟨#[93]⟩] 9) = sgW w from rfl]
  generalize sgW w = W at *
  go_loopw [4] (fun i wr => ∃ k : Nat, k ≤ 43 ∧ i = .int .i64 (k : Int) ∧ wr = W ∧ Hid (∀ j (hj : j < sgB.length), j < k → sgB[j] ≠ s)) (fun i _ => 43 - (intOf i).toNat)
  case atStart => exact ⟨0, by omega, rfl, rfl, fun j _ h => by omega⟩
  case round =>
    obtain ⟨k, hk, rfl, rfl, HU⟩ := hrel
    by_cases hlt : k < 43
    · have hc := HC.out k (by rw [sgB_len]; exact hlt)
      by_cases he : sgB[k]'(by rw [sgB_len]; exact hlt) = s
      · have HR : Hid (R = true) := HY.out k (by rw [sgB_len]; exact hlt) he
        have e1 : ((sgB[k]'(by rw [sgB_len]; exact hlt)).toList == s.toList) = true := by rw [he]; exact beq_self_eq_true _
        generalize sgB[k]'(by rw [sgB_len]; exact hlt) = y at *
        clear he
        go_wp2_with fail
        go_ret
        exact ⟨ret_b HR.out.symm, hb⟩
      · have HU2 : Hid (∀ j (hj : j < sgB.length), j < k + 1 → sgB[j] ≠ s) := fun j hj h => by
          by_cases hjk : j = k
          · subst hjk; exact he
          · exact HU.out j hj (by omega)
        have e1 : ((sgB[k]'(by rw [sgB_len]; exact hlt)).toList == s.toList) = false := by
          rw [beq_eq_false_iff_ne]
          intro h
          rw [ByteArray.toList_eq, ByteArray.toList_eq] at h
          exact he (bytes_ext h)
        generalize sgB[k]'(by rw [sgB_len]; exact hlt) = y at *
        clear he
        go_wp2_with fail
        go_roundw
        case rel => exact ⟨k + 1, by omega, by go_num, trivial, HU2⟩
        case measure => simp [intOf]; omega
    · have HR : Hid (R = false) := HN.out fun j hj => HU.out j hj (by rw [sgB_len] at hj; omega)
      go_wp2_with fail
      go_ret
      exact ⟨ret_b HR.out.symm, hb⟩
end Go.Proofs.YthjmlgbnpnfkgaaDoor.Lx
