/- The walk of dreylaw01.NumLeads. -/
import Derived.Test.YtofodcnfdmlemaaLawD
import Derived.Deep.RegionWith
namespace Go.Proofs.Ytofodcnfdmlemaa
open Go.RowKit Go.ChangeShapes Go.WideShapes Go.ChangeAt

set_option maxRecDepth 100000 in
set_option maxHeartbeats 4000000 in
theorem leads_minus (s : ByteArray) (hs : s.size ≤ 200) (h0 : 0 < s.size) (h1 : (s[0]).toNat = 45) (w : World) :
    Calls Try.prog 8 #[.string s] w fun e w' => e = .returned (.bool true) ∧ Below w.heap.size w w' := by
  have HF : Hid (sgn s.data.toList = 1) := by show _ = _; exact if_pos (Or.inl (head_is s h0 45 h1))
  have HM : Hid (s.data.toList.head? = some 45) := head_is s h0 45 h1
  have HL := Lib.hid fun w => leading_any s (by unfold maxLen; omega) w
  have hne := some_bytes s h0
  have b1 : (((s[0]).toNat : Int) == 45) = true := by simp; omega
  clear h1
  generalize hv : lead s.data.toList = v at HL
  obtain ⟨v, vk⟩ := v
  have HV := Lib.hid hv
  clear hv
  go_enter Try.func8, Try.ntmps8
  go_wp2_with fail
  refine (reckons_any _).mono ?_
  rintro e w1 ⟨rfl, hbe⟩
  go_wp2_with fail
  refine (HL.out _).mono ?_
  rintro e w2 ⟨rfl, rfl⟩
  go_wp2_with fail
  go_loopw [6, 7] (fun n i wr => ∃ (k : Nat) (z : Int), 1 ≤ k ∧ k ≤ s.size ∧ i = .int .i64 (k : Int) ∧ n = .int .i64 z ∧ Hid (leadRun (s.data.toList.drop 1) 0 1 = leadRun (s.data.toList.drop k) z k) ∧ Below w.heap.size w wr) (fun _ i _ => s.size - (intOf i).toNat)
  case atStart => exact ⟨1, 0, by omega, by omega, rfl, rfl, rfl, hbe⟩
  case round =>
    obtain ⟨k, z, hfk, hk, rfl, rfl, HR, hb⟩ := hrel
    by_cases hlt : k < s.size
    · have hc := byte_lt s k hlt
      have hdr := Lib.hid (drop_byte s k hlt)
      by_cases hd : 48 ≤ (s[k]).toNat ∧ (s[k]).toNat ≤ 57
      · obtain ⟨d1, d2⟩ := hd
        go_wp2_with fail
        have hd9 : Hid (dv (s[k]).toNat = (s[k]).toNat - 48) := by show _ = _; unfold dv; rw [if_pos ⟨d1, d2⟩]
        go_region_with (first | (go_at_call 17; refine (rmul_any _ _ _).mono ?_; rintro e w3 ⟨rfl, hb3⟩) | (go_at_call 12; refine (radd_any _ _ _).mono ?_; rintro e w4 ⟨rfl, hb4⟩))
        all_goals
          go_wp2_with fail
          go_roundw
          case rel =>
            refine ⟨k + 1, _, by omega, by omega, by go_num, rfl, ?_, ?_⟩
            · have e9 := hd9.out
              show _ = _
              rw [HR.out, hdr.out, leadRun_yes _ _ _ _ (by omega), e9]
              congr 2
              omega
            · have s0 := hb.size
              have s3 := hb3.size
              simp at s0 s3
              exact ((below_drewN hb _).trans (hb3.mono (by first | omega | (simp; omega)))).trans (hb4.mono (by first | omega | (simp; omega)))
          case measure => simp [intOf]; omega
      · have hdn : Hid (¬ dv (s[k]).toNat < 10) := by
          show ¬ _
          unfold dv; rw [if_neg hd]; split
          · omega
          · split <;> omega
        have HE : Hid (leadRun (s.data.toList.drop 1) 0 1 = (z, k)) := by show _ = _; rw [HR.out, hdr.out, leadRun_no _ _ _ _ hdn.out]
        have hd2 : (s[k]).toNat < 48 ∨ 57 < (s[k]).toNat := by omega
        clear hd
        rcases hd2 with hd3 | hd3
        · by_cases hkf : k = 1
          · have hkb : ((k : Int) == 1) = true := by simp; omega
            have e0 := HV.out
            rw [lead_none _ _ HF.out _ _ HE.out hkf] at e0
            obtain ⟨rfl, rfl⟩ := Prod.mk.inj e0
            clear hkf e0
            go_wp2_with fail
            go_ret
            exact ⟨rfl, hb⟩
          · have hkb : ((k : Int) == 1) = false := by simp; omega
            have e0 := HV.out
            rw [lead_minus _ _ HF.out HM.out _ _ HE.out hkf] at e0
            obtain ⟨rfl, rfl⟩ := Prod.mk.inj e0
            clear hkf e0
            go_wp2_with fail
            refine (rneg_any _ _).mono ?_
            rintro e w5 ⟨rfl, hb5⟩
            go_wp2_with fail
            go_ret
            exact ⟨ret_bool (by simp), hb.trans (hb5.mono hb.size)⟩
        · by_cases hkf : k = 1
          · have hkb : ((k : Int) == 1) = true := by simp; omega
            have e0 := HV.out
            rw [lead_none _ _ HF.out _ _ HE.out hkf] at e0
            obtain ⟨rfl, rfl⟩ := Prod.mk.inj e0
            clear hkf e0
            go_wp2_with fail
            go_ret
            exact ⟨rfl, hb⟩
          · have hkb : ((k : Int) == 1) = false := by simp; omega
            have e0 := HV.out
            rw [lead_minus _ _ HF.out HM.out _ _ HE.out hkf] at e0
            obtain ⟨rfl, rfl⟩ := Prod.mk.inj e0
            clear hkf e0
            go_wp2_with fail
            refine (rneg_any _ _).mono ?_
            rintro e w5 ⟨rfl, hb5⟩
            go_wp2_with fail
            go_ret
            exact ⟨ret_bool (by simp), hb.trans (hb5.mono hb.size)⟩
    · have hd : s.data.toList.drop k = [] := List.drop_eq_nil_of_le (by simp; omega)
      have HE : Hid (leadRun (s.data.toList.drop 1) 0 1 = (z, k)) := by show _ = _; rw [HR.out, hd]; rfl
      clear hd
      by_cases hkf : k = 1
      · have hkb : ((k : Int) == 1) = true := by simp; omega
        have e0 := HV.out
        rw [lead_none _ _ HF.out _ _ HE.out hkf] at e0
        obtain ⟨rfl, rfl⟩ := Prod.mk.inj e0
        clear hkf e0
        go_wp2_with fail
        go_ret
        exact ⟨rfl, hb⟩
      · have hkb : ((k : Int) == 1) = false := by simp; omega
        have e0 := HV.out
        rw [lead_minus _ _ HF.out HM.out _ _ HE.out hkf] at e0
        obtain ⟨rfl, rfl⟩ := Prod.mk.inj e0
        clear hkf e0
        go_wp2_with fail
        refine (rneg_any _ _).mono ?_
        rintro e w5 ⟨rfl, hb5⟩
        go_wp2_with fail
        go_ret
        exact ⟨ret_bool (by simp), hb.trans (hb5.mono hb.size)⟩

set_option maxRecDepth 100000 in
set_option maxHeartbeats 4000000 in
theorem leads_plus (s : ByteArray) (hs : s.size ≤ 200) (h0 : 0 < s.size) (h1 : (s[0]).toNat = 43) (w : World) :
    Calls Try.prog 8 #[.string s] w fun e w' => e = .returned (.bool true) ∧ Below w.heap.size w w' := by
  have HF : Hid (sgn s.data.toList = 1) := by show _ = _; exact if_pos (Or.inr (head_is s h0 43 h1))
  have HM : Hid (s.data.toList.head? ≠ some 45) := head_not s h0 45 (by omega) (by omega)
  have HL := Lib.hid fun w => leading_any s (by unfold maxLen; omega) w
  have hne := some_bytes s h0
  have b1 : (((s[0]).toNat : Int) == 45) = false := by simp; omega
  have b2 : (((s[0]).toNat : Int) == 43) = true := by simp; omega
  clear h1
  generalize hv : lead s.data.toList = v at HL
  obtain ⟨v, vk⟩ := v
  have HV := Lib.hid hv
  clear hv
  go_enter Try.func8, Try.ntmps8
  go_wp2_with fail
  refine (reckons_any _).mono ?_
  rintro e w1 ⟨rfl, hbe⟩
  go_wp2_with fail
  refine (HL.out _).mono ?_
  rintro e w2 ⟨rfl, rfl⟩
  go_wp2_with fail
  go_loopw [6, 7] (fun n i wr => ∃ (k : Nat) (z : Int), 1 ≤ k ∧ k ≤ s.size ∧ i = .int .i64 (k : Int) ∧ n = .int .i64 z ∧ Hid (leadRun (s.data.toList.drop 1) 0 1 = leadRun (s.data.toList.drop k) z k) ∧ Below w.heap.size w wr) (fun _ i _ => s.size - (intOf i).toNat)
  case atStart => exact ⟨1, 0, by omega, by omega, rfl, rfl, rfl, hbe⟩
  case round =>
    obtain ⟨k, z, hfk, hk, rfl, rfl, HR, hb⟩ := hrel
    by_cases hlt : k < s.size
    · have hc := byte_lt s k hlt
      have hdr := Lib.hid (drop_byte s k hlt)
      by_cases hd : 48 ≤ (s[k]).toNat ∧ (s[k]).toNat ≤ 57
      · obtain ⟨d1, d2⟩ := hd
        go_wp2_with fail
        have hd9 : Hid (dv (s[k]).toNat = (s[k]).toNat - 48) := by show _ = _; unfold dv; rw [if_pos ⟨d1, d2⟩]
        go_region_with (first | (go_at_call 17; refine (rmul_any _ _ _).mono ?_; rintro e w3 ⟨rfl, hb3⟩) | (go_at_call 12; refine (radd_any _ _ _).mono ?_; rintro e w4 ⟨rfl, hb4⟩))
        all_goals
          go_wp2_with fail
          go_roundw
          case rel =>
            refine ⟨k + 1, _, by omega, by omega, by go_num, rfl, ?_, ?_⟩
            · have e9 := hd9.out
              show _ = _
              rw [HR.out, hdr.out, leadRun_yes _ _ _ _ (by omega), e9]
              congr 2
              omega
            · have s0 := hb.size
              have s3 := hb3.size
              simp at s0 s3
              exact ((below_drewN hb _).trans (hb3.mono (by first | omega | (simp; omega)))).trans (hb4.mono (by first | omega | (simp; omega)))
          case measure => simp [intOf]; omega
      · have hdn : Hid (¬ dv (s[k]).toNat < 10) := by
          show ¬ _
          unfold dv; rw [if_neg hd]; split
          · omega
          · split <;> omega
        have HE : Hid (leadRun (s.data.toList.drop 1) 0 1 = (z, k)) := by show _ = _; rw [HR.out, hdr.out, leadRun_no _ _ _ _ hdn.out]
        have hd2 : (s[k]).toNat < 48 ∨ 57 < (s[k]).toNat := by omega
        clear hd
        rcases hd2 with hd3 | hd3
        · by_cases hkf : k = 1
          · have hkb : ((k : Int) == 1) = true := by simp; omega
            have e0 := HV.out
            rw [lead_none _ _ HF.out _ _ HE.out hkf] at e0
            obtain ⟨rfl, rfl⟩ := Prod.mk.inj e0
            clear hkf e0
            go_wp2_with fail
            go_ret
            exact ⟨rfl, hb⟩
          · have hkb : ((k : Int) == 1) = false := by simp; omega
            have e0 := HV.out
            rw [lead_plus _ _ HF.out HM.out _ _ HE.out hkf] at e0
            obtain ⟨rfl, rfl⟩ := Prod.mk.inj e0
            clear hkf e0
            go_wp2_with fail
            go_ret
            exact ⟨ret_bool (by simp), hb⟩
        · by_cases hkf : k = 1
          · have hkb : ((k : Int) == 1) = true := by simp; omega
            have e0 := HV.out
            rw [lead_none _ _ HF.out _ _ HE.out hkf] at e0
            obtain ⟨rfl, rfl⟩ := Prod.mk.inj e0
            clear hkf e0
            go_wp2_with fail
            go_ret
            exact ⟨rfl, hb⟩
          · have hkb : ((k : Int) == 1) = false := by simp; omega
            have e0 := HV.out
            rw [lead_plus _ _ HF.out HM.out _ _ HE.out hkf] at e0
            obtain ⟨rfl, rfl⟩ := Prod.mk.inj e0
            clear hkf e0
            go_wp2_with fail
            go_ret
            exact ⟨ret_bool (by simp), hb⟩
    · have hd : s.data.toList.drop k = [] := List.drop_eq_nil_of_le (by simp; omega)
      have HE : Hid (leadRun (s.data.toList.drop 1) 0 1 = (z, k)) := by show _ = _; rw [HR.out, hd]; rfl
      clear hd
      by_cases hkf : k = 1
      · have hkb : ((k : Int) == 1) = true := by simp; omega
        have e0 := HV.out
        rw [lead_none _ _ HF.out _ _ HE.out hkf] at e0
        obtain ⟨rfl, rfl⟩ := Prod.mk.inj e0
        clear hkf e0
        go_wp2_with fail
        go_ret
        exact ⟨rfl, hb⟩
      · have hkb : ((k : Int) == 1) = false := by simp; omega
        have e0 := HV.out
        rw [lead_plus _ _ HF.out HM.out _ _ HE.out hkf] at e0
        obtain ⟨rfl, rfl⟩ := Prod.mk.inj e0
        clear hkf e0
        go_wp2_with fail
        go_ret
        exact ⟨ret_bool (by simp), hb⟩

set_option maxRecDepth 100000 in
set_option maxHeartbeats 4000000 in
theorem leads_bare (s : ByteArray) (hs : s.size ≤ 200) (h0 : 0 < s.size) (h1 : ¬ (s[0]).toNat = 45) (h2 : ¬ (s[0]).toNat = 43) (w : World) :
    Calls Try.prog 8 #[.string s] w fun e w' => e = .returned (.bool true) ∧ Below w.heap.size w w' := by
  have HF : Hid (sgn s.data.toList = 0) := by show _ = _; exact if_neg (fun h => h.elim (head_not s h0 45 (by omega) h1) (head_not s h0 43 (by omega) h2))
  have HM : Hid (s.data.toList.head? ≠ some 45) := head_not s h0 45 (by omega) h1
  have HL := Lib.hid fun w => leading_any s (by unfold maxLen; omega) w
  have hne := some_bytes s h0
  have b1 : (((s[0]).toNat : Int) == 45) = false := by simp; omega
  have b2 : (((s[0]).toNat : Int) == 43) = false := by simp; omega
  clear h1 h2
  generalize hv : lead s.data.toList = v at HL
  obtain ⟨v, vk⟩ := v
  have HV := Lib.hid hv
  clear hv
  go_enter Try.func8, Try.ntmps8
  go_wp2_with fail
  refine (reckons_any _).mono ?_
  rintro e w1 ⟨rfl, hbe⟩
  go_wp2_with fail
  refine (HL.out _).mono ?_
  rintro e w2 ⟨rfl, rfl⟩
  go_wp2_with fail
  go_loopw [6, 7] (fun n i wr => ∃ (k : Nat) (z : Int), 0 ≤ k ∧ k ≤ s.size ∧ i = .int .i64 (k : Int) ∧ n = .int .i64 z ∧ Hid (leadRun (s.data.toList.drop 0) 0 0 = leadRun (s.data.toList.drop k) z k) ∧ Below w.heap.size w wr) (fun _ i _ => s.size - (intOf i).toNat)
  case atStart => exact ⟨0, 0, by omega, by omega, rfl, rfl, rfl, hbe⟩
  case round =>
    obtain ⟨k, z, hfk, hk, rfl, rfl, HR, hb⟩ := hrel
    by_cases hlt : k < s.size
    · have hc := byte_lt s k hlt
      have hdr := Lib.hid (drop_byte s k hlt)
      by_cases hd : 48 ≤ (s[k]).toNat ∧ (s[k]).toNat ≤ 57
      · obtain ⟨d1, d2⟩ := hd
        go_wp2_with fail
        have hd9 : Hid (dv (s[k]).toNat = (s[k]).toNat - 48) := by show _ = _; unfold dv; rw [if_pos ⟨d1, d2⟩]
        go_region_with (first | (go_at_call 17; refine (rmul_any _ _ _).mono ?_; rintro e w3 ⟨rfl, hb3⟩) | (go_at_call 12; refine (radd_any _ _ _).mono ?_; rintro e w4 ⟨rfl, hb4⟩))
        all_goals
          go_wp2_with fail
          go_roundw
          case rel =>
            refine ⟨k + 1, _, by omega, by omega, by go_num, rfl, ?_, ?_⟩
            · have e9 := hd9.out
              show _ = _
              rw [HR.out, hdr.out, leadRun_yes _ _ _ _ (by omega), e9]
              congr 2
              omega
            · have s0 := hb.size
              have s3 := hb3.size
              simp at s0 s3
              exact ((below_drewN hb _).trans (hb3.mono (by first | omega | (simp; omega)))).trans (hb4.mono (by first | omega | (simp; omega)))
          case measure => simp [intOf]; omega
      · have hdn : Hid (¬ dv (s[k]).toNat < 10) := by
          show ¬ _
          unfold dv; rw [if_neg hd]; split
          · omega
          · split <;> omega
        have HE : Hid (leadRun (s.data.toList.drop 0) 0 0 = (z, k)) := by show _ = _; rw [HR.out, hdr.out, leadRun_no _ _ _ _ hdn.out]
        have hd2 : (s[k]).toNat < 48 ∨ 57 < (s[k]).toNat := by omega
        clear hd
        rcases hd2 with hd3 | hd3
        · by_cases hkf : k = 0
          · have hkb : ((k : Int) == 0) = true := by simp; omega
            have e0 := HV.out
            rw [lead_none _ _ HF.out _ _ HE.out hkf] at e0
            obtain ⟨rfl, rfl⟩ := Prod.mk.inj e0
            clear hkf e0
            go_wp2_with fail
            go_ret
            exact ⟨rfl, hb⟩
          · have hkb : ((k : Int) == 0) = false := by simp; omega
            have e0 := HV.out
            rw [lead_plus _ _ HF.out HM.out _ _ HE.out hkf] at e0
            obtain ⟨rfl, rfl⟩ := Prod.mk.inj e0
            clear hkf e0
            go_wp2_with fail
            go_ret
            exact ⟨ret_bool (by simp), hb⟩
        · by_cases hkf : k = 0
          · have hkb : ((k : Int) == 0) = true := by simp; omega
            have e0 := HV.out
            rw [lead_none _ _ HF.out _ _ HE.out hkf] at e0
            obtain ⟨rfl, rfl⟩ := Prod.mk.inj e0
            clear hkf e0
            go_wp2_with fail
            go_ret
            exact ⟨rfl, hb⟩
          · have hkb : ((k : Int) == 0) = false := by simp; omega
            have e0 := HV.out
            rw [lead_plus _ _ HF.out HM.out _ _ HE.out hkf] at e0
            obtain ⟨rfl, rfl⟩ := Prod.mk.inj e0
            clear hkf e0
            go_wp2_with fail
            go_ret
            exact ⟨ret_bool (by simp), hb⟩
    · have hd : s.data.toList.drop k = [] := List.drop_eq_nil_of_le (by simp; omega)
      have HE : Hid (leadRun (s.data.toList.drop 0) 0 0 = (z, k)) := by show _ = _; rw [HR.out, hd]; rfl
      clear hd
      by_cases hkf : k = 0
      · have hkb : ((k : Int) == 0) = true := by simp; omega
        have e0 := HV.out
        rw [lead_none _ _ HF.out _ _ HE.out hkf] at e0
        obtain ⟨rfl, rfl⟩ := Prod.mk.inj e0
        clear hkf e0
        go_wp2_with fail
        go_ret
        exact ⟨rfl, hb⟩
      · have hkb : ((k : Int) == 0) = false := by simp; omega
        have e0 := HV.out
        rw [lead_plus _ _ HF.out HM.out _ _ HE.out hkf] at e0
        obtain ⟨rfl, rfl⟩ := Prod.mk.inj e0
        clear hkf e0
        go_wp2_with fail
        go_ret
        exact ⟨ret_bool (by simp), hb⟩

theorem leads_long (s : ByteArray) (hs : 200 < s.size) (w : World) :
    Calls Try.prog 8 #[.string s] w fun e w' => e = .returned (.bool true) ∧ Below w.heap.size w w' := by
  go_enter Try.func8, Try.ntmps8
  go_wp2_with fail
  refine (reckons_any _).mono ?_
  rintro e w1 ⟨rfl, hbe⟩
  go_wp2_with fail
  go_ret
  exact ⟨rfl, hbe⟩
set_option maxRecDepth 100000 in
theorem leads_empty (s : ByteArray) (hs : s.size = 0) (w : World) :
    Calls Try.prog 8 #[.string s] w fun e w' => e = .returned (.bool true) ∧ Below w.heap.size w w' := by
  have HL := Lib.hid fun w => leading_empty s hs w
  have e : s.data.toList.length = s.size := by simp
  have hnil : s.data.toList = [] := List.eq_nil_of_length_eq_zero (by omega)
  rw [hnil] at HL
  have hl : lead [] = (0, 0) := rfl
  rw [hl] at HL
  have hne : s.toList.isEmpty = true := by rw [ByteArray.toList_eq, hnil]; rfl
  have hs2 : s.size ≤ 0 := by omega
  clear hnil hl e hs
  go_enter Try.func8, Try.ntmps8
  go_wp2_with fail
  refine (reckons_any _).mono ?_
  rintro e w1 ⟨rfl, hbe⟩
  go_wp2_with fail
  refine (HL.out _).mono ?_
  rintro e w2 ⟨rfl, rfl⟩
  go_wp2_with fail
  go_loop [6, 7] (fun n i => i = .int .i64 0 ∧ n = .int .i64 0) (fun _ _ => 0)
  case atStart => exact ⟨rfl, rfl⟩
  case round =>
    obtain ⟨rfl, rfl⟩ := hrel
    go_wp2_with fail
    go_ret
    exact ⟨rfl, hbe⟩

theorem numLeads_walk (s : ByteArray) (_ : s.size ≤ maxLen) (w : World) :
    Calls Try.prog 8 #[.string s] w fun e w' => e = .returned (.bool true) ∧ Below w.heap.size w w' := by
  by_cases hl : 200 < s.size
  · exact leads_long s hl w
  · by_cases h0 : 0 < s.size
    · by_cases h1 : (s[0]).toNat = 45
      · exact leads_minus s (by omega) h0 h1 w
      · by_cases h2 : (s[0]).toNat = 43
        · exact leads_plus s (by omega) h0 h2 w
        · exact leads_bare s (by omega) h0 h1 h2 w
    · exact leads_empty s (by omega) w
end Go.Proofs.Ytofodcnfdmlemaa
