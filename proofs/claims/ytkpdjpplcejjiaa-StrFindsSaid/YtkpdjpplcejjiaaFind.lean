/- Contracts of dreyref02.At, Find. -/
import Derived.Test.YtkpdjpplcejjiaaLess
namespace Go.Proofs.Ytkpdjpplcejjiaa
open Go.RowKit Go.ChangeShapes Go.WideShapes Go.ChangeAt

theorem occ_short (s t : List UInt8) (k : Nat) (h : s.length - k < t.length) : Lib.occAt s t k = false := by
  unfold Lib.occAt
  cases hp : t.isPrefixOf (s.drop k)
  · rfl
  · have := (List.isPrefixOf_iff_prefix.1 hp).length_le
    rw [List.length_drop] at this
    omega
theorem pre_same (a b : UInt8) (l r : List UInt8) (h : a.toNat = b.toNat) : (a :: l).isPrefixOf (b :: r) = l.isPrefixOf r := by
  have e : a = b := UInt8.toNat_inj.1 h
  subst e
  simp
theorem pre_other (a b : UInt8) (l r : List UInt8) (h : ¬ a.toNat = b.toNat) : (a :: l).isPrefixOf (b :: r) = false := by
  have e : a ≠ b := fun e => h (by rw [e])
  simp [List.isPrefixOf, e]

set_option maxRecDepth 100000 in
set_option maxHeartbeats 2000000 in
theorem at_any (s t : ByteArray) (hs : s.size ≤ 300) (ht : t.size ≤ 300) (p : Nat) (hp : p ≤ s.size) (w : World) :
    Calls Try.prog 38 #[.string s, .string t, .int .i64 (p : Int)] w fun e w' => e = .returned (.bool (Lib.occAt s.data.toList t.data.toList p)) ∧ Below w.heap.size w w' := by
  generalize hR : Lib.occAt s.data.toList t.data.toList p = R
  by_cases h0 : s.size - p < t.size
  · have HR : Hid (R = false) := by show _ = _; rw [← hR]; exact occ_short _ _ _ (by rw [size_list, size_list]; exact h0)
    clear hR
    go_enter Try.func38, Try.ntmps38
    go_wp2_with fail
    go_ret
    exact ⟨ret_b HR.out.symm, Below.refl _ _⟩
  · have HR : Hid ((t.data.toList.drop 0).isPrefixOf (s.data.toList.drop (p + 0)) = R) := hR
    clear hR
    go_enter Try.func38, Try.ntmps38
    go_wp2_with fail
    go_loopw [7] (fun i wr => ∃ k : Nat, k ≤ t.size ∧ i = .int .i64 (k : Int) ∧ Hid ((t.data.toList.drop k).isPrefixOf (s.data.toList.drop (p + k)) = R) ∧ Below w.heap.size w wr) (fun i _ => t.size - (intOf i).toNat)
    case atStart => exact ⟨0, by omega, rfl, HR.out, Below.refl _ _⟩
    case round =>
      obtain ⟨k, hk, rfl, HU, hb⟩ := hrel
      by_cases hlt : k < t.size
      · obtain ⟨j, hj⟩ : ∃ j, j = p + k := ⟨_, rfl⟩
        have hjs : j < s.size := by omega
        have hjz : (p : Int) + (k : Int) = (j : Int) := by omega
        have hd1 := drop_byte s j hjs
        have hd2 := drop_byte t k hlt
        rw [← hj] at HU
        have hc1 := byte_lt s j hjs
        have hc2 := byte_lt t k hlt
        by_cases he : t[k].toNat = s[j].toNat
        · have HU2 : Hid ((t.data.toList.drop (k + 1)).isPrefixOf (s.data.toList.drop (p + (k + 1))) = R) := by
            show _ = _
            rw [← HU.out, hd1, hd2, pre_same _ _ _ _ he, hj]; rfl
          have e0 : ((s[j].toNat : Int) == (t[k].toNat : Int)) = true := beq_yes he.symm
          clear hd1 hd2 HU hj
          go_wp2_with fail
          go_quiet (fail)
          go_wp2_with fail
          go_roundw
          case rel => exact ⟨k + 1, by omega, by go_num, HU2, below_drewN hb _⟩
          case measure => simp [intOf]; omega
        · have HF : Hid (R = false) := by show _ = _; rw [← HU.out, hd1, hd2, pre_other _ _ _ _ he]
          have e0 : ((s[j].toNat : Int) == (t[k].toNat : Int)) = false := beq_no (fun h => he h.symm)
          clear hd1 hd2 HU hj
          go_wp2_with fail
          go_quiet (fail)
          go_wp2_with fail
          go_ret
          exact ⟨ret_b HF.out.symm, below_drewN hb _⟩
      · have HF : Hid (R = true) := by show _ = _; rw [← HU.out, drop_end t k (by omega)]; rfl
        clear HU
        go_wp2_with fail
        go_ret
        exact ⟨ret_b HF.out.symm, hb⟩

set_option maxRecDepth 100000 in
set_option maxHeartbeats 2000000 in
theorem rfind_any (s t : ByteArray) (hs : s.size ≤ 300) (ht : t.size ≤ 300) (f : Int) (w : World) :
    Calls Try.prog 18 #[.string s, .string t, .int .i64 f] w fun e w' => e = .returned (.int .i64 (found s t f)) ∧ Below w.heap.size w w' := by
  have h3 : f < 0 ∨ (0 ≤ f ∧ (s.size : Int) < f) ∨ (0 ≤ f ∧ f ≤ s.size) := by omega
  rcases h3 with h1 | ⟨h1, h2⟩ | ⟨h1, h2⟩
  · have HE : Hid (found s t f = -1) := by show _ = _; unfold found; rw [if_pos (Or.inl h1)]
    go_enter Try.func18, Try.ntmps18
    go_wp2_with fail
    go_ret
    exact ⟨ret_i64 HE.out.symm, Below.refl _ _⟩
  · have HE : Hid (found s t f = -1) := by show _ = _; unfold found; rw [if_pos (Or.inr h2)]
    go_enter Try.func18, Try.ntmps18
    go_wp2_with fail
    go_ret
    exact ⟨ret_i64 HE.out.symm, Below.refl _ _⟩
  · obtain ⟨n, rfl⟩ := Int.eq_ofNat_of_zero_le h1
    have hn : n ≤ s.size := by omega
    have hn2 : ¬ s.size < n := by omega
    have hF : found s t (n : Int) = if Lib.index (s.data.toList.drop n) t.data.toList < 0 then -1 else (n : Int) + Lib.index (s.data.toList.drop n) t.data.toList := by
      unfold found; rw [if_neg (by omega)]; rfl
    have occ : ∀ i, Lib.occAt (s.data.toList.drop n) t.data.toList i = Lib.occAt s.data.toList t.data.toList (n + i) := fun i => by unfold Lib.occAt; rw [List.drop_drop]
    have HYes : Hid (∀ k, n ≤ k → k ≤ s.size → Lib.occAt s.data.toList t.data.toList k = true → (∀ j, n ≤ j → j < k → Lib.occAt s.data.toList t.data.toList j = false) → found s t (n : Int) = (k : Int)) := fun k g1 g2 g3 g4 => by
      have h := Lib.index_first (s := s.data.toList.drop n) (sub := t.data.toList) (i := k - n) (by rw [List.length_drop, size_list]; omega) (by rw [occ]; rw [show n + (k - n) = k by omega]; exact g3) (fun j hj => by rw [occ]; exact g4 _ (by omega) (by omega))
      rw [hF, h, if_neg (by omega)]; omega
    have HNo : Hid ((∀ j, n ≤ j → j ≤ s.size → Lib.occAt s.data.toList t.data.toList j = false) → found s t (n : Int) = -1) := fun g => by
      have h := Lib.index_none (s := s.data.toList.drop n) (sub := t.data.toList) (fun j hj => by rw [occ]; exact g _ (by omega) (by rw [List.length_drop, size_list] at hj; omega))
      rw [hF, h, if_pos (by decide)]
    clear hF occ
    generalize found s t (n : Int) = R at *
    go_enter Try.func18, Try.ntmps18
    go_wp2_with fail
    go_loopw [7] (fun i wr => ∃ k : Nat, n ≤ k ∧ k ≤ s.size + 1 ∧ i = .int .i64 (k : Int) ∧ Hid (∀ j, n ≤ j → j < k → Lib.occAt s.data.toList t.data.toList j = false) ∧ Below w.heap.size w wr) (fun i _ => s.size + 1 - (intOf i).toNat)
    case atStart => exact ⟨n, by omega, by omega, rfl, fun j g1 g2 => by omega, Below.refl _ _⟩
    case round =>
      obtain ⟨k, hk1, hk2, rfl, HU, hb⟩ := hrel
      by_cases hlt : k ≤ s.size
      · have HA := Lib.hid fun w => at_any s t hs ht k hlt w
        cases hO : Lib.occAt s.data.toList t.data.toList k
        · have HU2 : Hid (∀ j, n ≤ j → j < k + 1 → Lib.occAt s.data.toList t.data.toList j = false) := fun j g1 g2 => by
            by_cases hj : j = k
            · rw [hj]; exact hO
            · exact HU.out j g1 (by omega)
          rw [hO] at HA
          clear hO
          go_wp2_with fail
          refine (HA.out _).mono ?_
          rintro e w2 ⟨rfl, hb2⟩
          go_wp2_with fail
          go_roundw
          case rel => exact ⟨k + 1, by omega, by omega, by go_num, HU2, hb.trans (hb2.mono hb.size)⟩
          case measure => simp [intOf]; omega
        · have HR : Hid (R = (k : Int)) := HYes.out k hk1 hlt hO HU.out
          rw [hO] at HA
          clear hO
          go_wp2_with fail
          refine (HA.out _).mono ?_
          rintro e w2 ⟨rfl, hb2⟩
          go_wp2_with fail
          go_ret
          exact ⟨ret_i64 HR.out.symm, hb.trans (hb2.mono hb.size)⟩
      · have HR : Hid (R = -1) := HNo.out fun j g1 g2 => HU.out j g1 (by omega)
        go_wp2_with fail
        go_ret
        exact ⟨ret_i64 HR.out.symm, hb⟩
end Go.Proofs.Ytkpdjpplcejjiaa
