/- 'StrLetters': the walk. -/
import Derived.Test.YtkpdjpplcejjiaaRune2
namespace Go.Proofs.Ytkpdjpplcejjiaa
open Go.RowKit Go.ChangeShapes Go.WideShapes Go.ChangeAt

structure BelowBy (B : Nat) (W : World) where
  x : World
  h : Below B W x
instance (B : Nat) (W : World) : Inhabited (BelowBy B W) := ⟨⟨W, Below.refl _ _⟩⟩
theorem wp_region_quiet_below {P : Program} {id : Nat} {Q : Exit → Act → World → Prop} {a : Act} {w : World} {l : List Oper} (hm : P.follows .mixedOrders = true) (hB : Region.lexB .any l.toArray = true)
    (h : wpQuiet P l.toArray (fun w' => ∃ p : BelowBy w.heap.size w, w' = p.x) (fun a' => ∀ w', (∃ p : BelowBy w.heap.size w, w' = p.x) → Q .normal a' w') l a) : (Code.region id l.toArray true).wp P Q a w :=
  wp_region_quiet (C := fun w' => ∃ p : BelowBy w.heap.size w, w' = p.x) hm hB ⟨⟨w.drew, (Below.refl _ _).drew⟩, rfl⟩ (by simpa using h)
theorem Calls.below_of {P : Program} {f : FuncId} {args : Array Value} {W : World} {p : BelowBy W.heap.size W} {v : Value}
    (h : Calls P f args p.x fun e w' => e = .returned v ∧ Below p.x.heap.size p.x w') : Calls P f args p.x fun e w'' => e = .returned v ∧ ∃ p : BelowBy W.heap.size W, w'' = p.x :=
  h.mono fun _ w' ⟨he, hb⟩ => ⟨he, ⟨w', p.h.trans (hb.mono p.h.size)⟩, rfl⟩
theorem mapped_at (f : Nat → Nat) (hf : ∀ c, c ≤ 255 → f c ≤ 255) (s : ByteArray) (k : Nat) (h : k < s.size) (h2 : k < (⟨(mapped f s).toArray⟩ : ByteArray).size) : ((⟨(mapped f s).toArray⟩ : ByteArray)[k]'h2).toNat = f (s[k]).toNat := by
  have h3 : k < (mapped f s).length := by rw [← size_mk]; exact h2
  have e := mapped_get f hf s k h3
  unfold part at e
  rw [if_pos h, bt_eq s k h] at e
  exact e
theorem mapped_size (f : Nat → Nat) (s : ByteArray) : (⟨(mapped f s).toArray⟩ : ByteArray).size = s.size := by rw [size_mk]; simp [mapped]
theorem behind_max (s : ByteArray) (f : Nat) : ∀ t, f ≤ t → behind s f t = max f (behind s 0 t)
  | 0, h => by have : f = 0 := by omega
               subst this; rfl
  | t + 1, h => by
    by_cases e : f = t + 1
    · subst e
      rw [behind_low _ _ _ (Nat.le_refl _)]
      have := behind_le s 0 (t + 1)
      omega
    · by_cases hb : ∃ h : t < s.size, blB (s[t]'h).toNat = true
      · obtain ⟨h1, h2⟩ := hb
        rw [behind_yes s f t h1 (by omega) h2, behind_yes s 0 t h1 (by omega) h2]
        exact behind_max s f t (by omega)
      · rw [behind, behind, if_neg (fun h3 => hb h3.2), if_neg (fun h3 => hb h3.2)]; omega
theorem extract_none (s : ByteArray) (a b : Nat) (h : b ≤ a) : s.extract a b = ⟨#[]⟩ := by
  apply bytes_ext
  simp only [ByteArray.data_extract, Array.toList_extract]
  rw [List.extract_eq_take_drop, show b - a = 0 by omega, List.take_zero]
theorem strip_same (s : ByteArray) (F : Nat) (hF : F ≤ s.size) : s.extract F (behind s F s.size) = s.extract (min F (behind s 0 s.size)) (behind s 0 s.size) := by
  rw [behind_max s F s.size hF]
  by_cases h : F ≤ behind s 0 s.size
  · rw [show max F (behind s 0 s.size) = behind s 0 s.size by omega, show min F (behind s 0 s.size) = F by omega]
  · rw [show max F (behind s 0 s.size) = F by omega, show min F (behind s 0 s.size) = behind s 0 s.size by omega, extract_none _ _ _ (Nat.le_refl _), extract_none _ _ _ (Nat.le_refl _)]

theorem bl_yes (c : Nat) (h : c = 32 ∨ (9 ≤ c ∧ c ≤ 13)) : blB c = true := by unfold blB; simp; omega
theorem bl_no (c : Nat) (h : c < 9 ∨ (13 < c ∧ c ≠ 32)) : blB c = false := by unfold blB; simp; omega

set_option maxRecDepth 100000 in
set_option maxHeartbeats 16000000 in
theorem strLetters_near (s : ByteArray) (hs : s.size ≤ 500) (m : Int) (w : World) (hm : w.cell? ⟨0, 0, none⟩ = some (.int .i64 m)) :
    Calls Try.prog 8 #[.string s] w fun e w' => e = .returned (.bool true) ∧ Below w.heap.size w w' := by
  have HT := Lib.hid (texts_any m w hm)
  clear hm
  have HLo := Lib.hid fun w => lower_any s (by omega) w
  have HUp := Lib.hid fun w => upper_any s (by omega) w
  have hsa := mapped_size lowN s
  have hsb := mapped_size highN s
  have hga : ∀ (k : Nat) (h : k < s.size) (h2 : k < (⟨(mapped lowN s).toArray⟩ : ByteArray).size), ((⟨(mapped lowN s).toArray⟩ : ByteArray)[k]'h2).toNat = lowN (s[k]).toNat := fun k h h2 => mapped_at lowN lowN_le s k h h2
  have hgb : ∀ (k : Nat) (h : k < s.size) (h2 : k < (⟨(mapped highN s).toArray⟩ : ByteArray).size), ((⟨(mapped highN s).toArray⟩ : ByteArray)[k]'h2).toNat = highN (s[k]).toNat := fun k h h2 => mapped_at highN highN_le s k h h2
  generalize (⟨(mapped lowN s).toArray⟩ : ByteArray) = A at *
  generalize (⟨(mapped highN s).toArray⟩ : ByteArray) = B at *
  have HGA := Lib.hid hga
  have HGB := Lib.hid hgb
  have HFr := Lib.hid fun w => front_any s (by omega) w
  have HBa := Lib.hid fun w => back_any s (by omega) w
  have HSt := Lib.hid fun w => strip_any s (by omega) w
  have hF := ahead_le s.data.toList 0
  rw [size_list] at hF
  have hE := behind_le s 0 s.size
  rw [strip_same s (ahead s.data.toList 0) (by omega)] at HSt
  obtain ⟨F, hFe⟩ : ∃ F, F = ahead s.data.toList 0 := ⟨_, rfl⟩
  obtain ⟨E, hEe⟩ : ∃ E, E = behind s 0 s.size := ⟨_, rfl⟩
  rw [← hFe] at HFr HSt hF
  rw [← hEe] at HBa HSt hE
  have HF := Lib.hid hFe
  have HE := Lib.hid hEe
  obtain ⟨_, hF⟩ := hF
  clear hFe hEe hga hgb
  go_enter Try.func8, Try.ntmps8
  go_wp2_with fail
  refine HT.out.mono ?_
  rintro e w1 ⟨rfl, hb1⟩
  go_wp2_with fail
  refine (HLo.out _).mono ?_
  rintro e w2 ⟨rfl, hb2⟩
  go_wp2_with fail
  refine (HUp.out _).mono ?_
  rintro e w3 ⟨rfl, hb3⟩
  have hb : Below w.heap.size w w3 := (hb1.trans (hb2.mono hb1.size)).trans (hb3.mono (Nat.le_trans hb1.size hb2.size))
  clear hb1 hb2 hb3
  go_wp2_with fail
  go_loopw [36] (fun i wr => ∃ k : Nat, k ≤ s.size ∧ i = .int .i64 (k : Int) ∧ Below w.heap.size w wr) (fun i _ => s.size - (intOf i).toNat)
  case atStart => exact ⟨0, by omega, rfl, hb⟩
  case round =>
    clear hb
    obtain ⟨k, hk, rfl, hb⟩ := hrel
    by_cases hlt : k < s.size
    · have hc := byte_lt s k hlt
      have hkA : k < A.size := by omega
      have hkB : k < B.size := by omega
      have ea := HGA.out k hlt hkA
      have eb := HGB.out k hlt hkB
      have h5 : s[k].toNat < 65 ∨ (65 ≤ s[k].toNat ∧ s[k].toNat ≤ 90) ∨ (90 < s[k].toNat ∧ s[k].toNat < 97) ∨ (97 ≤ s[k].toNat ∧ s[k].toNat ≤ 122) ∨ 122 < s[k].toNat := by omega
      have eA : (A[k].toNat : Int) = if 65 ≤ s[k].toNat ∧ s[k].toNat ≤ 90 then (s[k].toNat : Int) + 32 else (s[k].toNat : Int) := by
        rw [ea]; unfold lowN upB; split <;> split <;> first | (simp_all; done) | (simp_all; omega)
      have eB : (B[k].toNat : Int) = if 97 ≤ s[k].toNat ∧ s[k].toNat ≤ 122 then (s[k].toNat : Int) - 32 else (s[k].toNat : Int) := by
        rw [eb]; unfold highN loB; split <;> split <;> first | (simp_all; done) | (simp_all; omega)
      clear ea eb
      rcases h5 with h5 | ⟨h5, h6⟩ | ⟨h5, h6⟩ | ⟨h5, h6⟩ | h5
      all_goals
        first
          | rw [if_pos (by omega)] at eA
          | rw [if_neg (by omega)] at eA
        first
          | rw [if_pos (by omega)] at eB
          | rw [if_neg (by omega)] at eB
        go_wp2_with fail
        go_roundw
        case rel => exact ⟨k + 1, by omega, by go_num, hb⟩
        case measure => simp [intOf]; omega
    · go_wp2_with fail
      go_loopw [9] (fun i wr => ∃ k : Nat, k ≤ s.size ∧ i = .int .i64 (k : Int) ∧ Hid (ahead (s.data.toList.drop k) k = F) ∧ Below w.heap.size w wr) (fun i _ => s.size - (intOf i).toNat)
      case atStart => exact ⟨0, by omega, rfl, HF.out.symm, hb⟩
      case round =>
        clear hb
        obtain ⟨k, hk, rfl, HU, hb⟩ := hrel
        have hstop : (k < s.size → ∀ h : k < s.size, blB (s[k]).toNat = false) → k = F := fun h => by
          have e := HU.out
          by_cases hlt : k < s.size
          · rw [drop_byte s k hlt, ahead_no _ _ _ (by rw [h hlt hlt]; simp)] at e; exact e
          · rw [drop_end s k (by omega)] at e; exact e
        have HStop := Lib.hid hstop
        have hgo : ∀ h : k < s.size, blB (s[k]).toNat = true → ahead (s.data.toList.drop (k + 1)) (k + 1) = F := fun h hbl => by
          have e := HU.out
          rw [drop_byte s k h, ahead_yes _ _ _ hbl] at e
          exact e
        have HGo := Lib.hid hgo
        clear hstop hgo HU
        by_cases hlt : k < s.size
        · have hc := byte_lt s k hlt
          have h4 : s[k].toNat = 32 ∨ (9 ≤ s[k].toNat ∧ s[k].toNat ≤ 13) ∨ s[k].toNat < 9 ∨ (13 < s[k].toNat ∧ s[k].toNat ≠ 32) := by omega
          rcases h4 with h4 | ⟨h4, h5⟩ | h4 | ⟨h4, h5⟩
          · have HU2 : Hid (ahead (s.data.toList.drop (k + 1)) (k + 1) = F) := HGo.out hlt (bl_yes _ (by omega))
            have e32 : ((s[k].toNat : Int) == 32) = true := beq_yes h4
            clear HGo HStop
            go_wp2_with fail
            go_roundw
            case rel => exact ⟨k + 1, by omega, by go_num, HU2, hb⟩
            case measure => first | (simp [intOf]; done) | (simp [intOf]; omega)
          · have HU2 : Hid (ahead (s.data.toList.drop (k + 1)) (k + 1) = F) := HGo.out hlt (bl_yes _ (by omega))
            have e32 : ((s[k].toNat : Int) == 32) = false := beq_no (show ¬ _ = 32 by omega)
            clear HGo HStop
            go_wp2_with fail
            go_roundw
            case rel => exact ⟨k + 1, by omega, by go_num, HU2, hb⟩
            case measure => first | (simp [intOf]; done) | (simp [intOf]; omega)
          · have hkF : k = F := HStop.out fun _ _ => bl_no _ (by omega)
            have e32 : ((s[k].toNat : Int) == 32) = false := beq_no (show ¬ _ = 32 by omega)
            subst hkF
            clear HGo HStop
            go_wp2_with fail
            go_loopw [12] (fun i wr => ∃ q : Nat, q ≤ s.size ∧ i = .int .i64 (q : Int) ∧ Hid (behind s 0 q = E) ∧ Below w.heap.size w wr) (fun i _ => (intOf i).toNat)
            case atStart => exact ⟨s.size, by omega, rfl, HE.out.symm, hb⟩
            case round =>
              clear hb
              obtain ⟨q, hq, rfl, HU, hb⟩ := hrel
              by_cases hq0 : q = 0
              · subst hq0
                have hqE : 0 = E := HU.out
                subst hqE
                clear HU
                rcases Nat.lt_or_ge 0 k with hEF | hEF
                · have hmn : min k 0 = 0 := by omega
                  have hmi : min (k : Int) 0 = 0 := by omega
                  have hmj : min 0 (k : Int) = 0 := by omega
                  rw [hmn] at HSt
                  go_wp2_with fail
                  refine wp_region_quiet_below (by kernel_rfl) (by kernel_rfl) ?_
                  repeat (quiet_step (first | (go_at_call 24; refine Calls.below_of (HFr.out _)) | (go_at_call 25; refine Calls.below_of (HBa.out _)) | (go_at_call 26; refine Calls.below_of (HSt.out _))))
                  refine wpQuiet_nil ?_
                  intro _ hw'
                  obtain ⟨pq, hw''⟩ := hw'
                  subst hw''
                  go_wp2_with fail
                  go_ret
                  exact ⟨rfl, hb.trans (pq.h.mono hb.size)⟩
                · obtain rfl : k = 0 := by omega
                  rw [show min 0 0 = 0 from rfl] at HSt
                  go_wp2_with fail
                  refine wp_region_quiet_below (by kernel_rfl) (by kernel_rfl) ?_
                  repeat (quiet_step (first | (go_at_call 24; refine Calls.below_of (HFr.out _)) | (go_at_call 25; refine Calls.below_of (HBa.out _)) | (go_at_call 26; refine Calls.below_of (HSt.out _))))
                  refine wpQuiet_nil ?_
                  intro _ hw'
                  obtain ⟨pq, hw''⟩ := hw'
                  subst hw''
                  go_wp2_with fail
                  go_ret
                  exact ⟨rfl, hb.trans (pq.h.mono hb.size)⟩
              · obtain ⟨j, rfl⟩ : ∃ j, q = j + 1 := ⟨q - 1, by omega⟩
                have hjs : j < s.size := by omega
                have hc := byte_lt s j hjs
                have h4 : s[j].toNat = 32 ∨ (9 ≤ s[j].toNat ∧ s[j].toNat ≤ 13) ∨ s[j].toNat < 9 ∨ (13 < s[j].toNat ∧ s[j].toNat ≠ 32) := by omega
                rcases h4 with h4 | ⟨h4, h5⟩ | h4 | ⟨h4, h5⟩
                · have HU2 : Hid (behind s 0 j = E) := by show _ = _; rw [← HU.out, behind_yes s 0 j hjs (by omega) (bl_yes _ (by omega))]
                  have e32 : ((s[j].toNat : Int) == 32) = true := beq_yes h4
                  clear HU
                  go_wp2_with fail
                  go_roundw
                  case rel => exact ⟨j, by omega, by go_num, HU2, hb⟩
                  case measure => first | (simp [intOf]; done) | (simp [intOf]; omega)
                · have HU2 : Hid (behind s 0 j = E) := by show _ = _; rw [← HU.out, behind_yes s 0 j hjs (by omega) (bl_yes _ (by omega))]
                  have e32 : ((s[j].toNat : Int) == 32) = false := beq_no (show ¬ _ = 32 by omega)
                  clear HU
                  go_wp2_with fail
                  go_roundw
                  case rel => exact ⟨j, by omega, by go_num, HU2, hb⟩
                  case measure => first | (simp [intOf]; done) | (simp [intOf]; omega)
                · have hjE : j + 1 = E := by rw [← HU.out, behind_no s 0 j hjs (by rw [bl_no _ (by omega)]; simp)]
                  have e32 : ((s[j].toNat : Int) == 32) = false := beq_no (show ¬ _ = 32 by omega)
                  have HJ := Lib.hid hjE
                  clear hjE
                  clear HU
                  rcases Nat.lt_or_ge E k with hEF | hEF
                  · have hmn : min k E = E := by omega
                    have hmi : min (k : Int) (E : Int) = (E : Int) := by omega
                    have hmj : min (E : Int) (k : Int) = (E : Int) := by omega
                    rw [hmn] at HSt
                    go_wp2_with fail
                    have hjz : (j : Int) + 1 = (E : Int) := by have := HJ.out; omega
                    refine wp_region_quiet_below (by kernel_rfl) (by kernel_rfl) ?_
                    repeat (quiet_step (first | (go_at_call 24; refine Calls.below_of (HFr.out _)) | (go_at_call 25; refine Calls.below_of (HBa.out _)) | (go_at_call 26; refine Calls.below_of (HSt.out _))))
                    refine wpQuiet_nil ?_
                    intro _ hw'
                    obtain ⟨pq, hw''⟩ := hw'
                    subst hw''
                    go_wp2_with fail
                    go_ret
                    exact ⟨rfl, hb.trans (pq.h.mono hb.size)⟩
                  · have hmn : min k E = k := by omega
                    have hmi : min (k : Int) (E : Int) = (k : Int) := by omega
                    have hmj : min (E : Int) (k : Int) = (k : Int) := by omega
                    have hle : (k : Int) ≤ (E : Int) := by omega
                    rw [hmn] at HSt
                    go_wp2_with fail
                    have hjz : (j : Int) + 1 = (E : Int) := by have := HJ.out; omega
                    refine wp_region_quiet_below (by kernel_rfl) (by kernel_rfl) ?_
                    repeat (quiet_step (first | (go_at_call 24; refine Calls.below_of (HFr.out _)) | (go_at_call 25; refine Calls.below_of (HBa.out _)) | (go_at_call 26; refine Calls.below_of (HSt.out _))))
                    refine wpQuiet_nil ?_
                    intro _ hw'
                    obtain ⟨pq, hw''⟩ := hw'
                    subst hw''
                    go_wp2_with fail
                    go_ret
                    exact ⟨rfl, hb.trans (pq.h.mono hb.size)⟩
                · have hjE : j + 1 = E := by rw [← HU.out, behind_no s 0 j hjs (by rw [bl_no _ (by omega)]; simp)]
                  have e32 : ((s[j].toNat : Int) == 32) = false := beq_no h5
                  have HJ := Lib.hid hjE
                  clear hjE
                  clear HU
                  rcases Nat.lt_or_ge E k with hEF | hEF
                  · have hmn : min k E = E := by omega
                    have hmi : min (k : Int) (E : Int) = (E : Int) := by omega
                    have hmj : min (E : Int) (k : Int) = (E : Int) := by omega
                    rw [hmn] at HSt
                    go_wp2_with fail
                    have hjz : (j : Int) + 1 = (E : Int) := by have := HJ.out; omega
                    refine wp_region_quiet_below (by kernel_rfl) (by kernel_rfl) ?_
                    repeat (quiet_step (first | (go_at_call 24; refine Calls.below_of (HFr.out _)) | (go_at_call 25; refine Calls.below_of (HBa.out _)) | (go_at_call 26; refine Calls.below_of (HSt.out _))))
                    refine wpQuiet_nil ?_
                    intro _ hw'
                    obtain ⟨pq, hw''⟩ := hw'
                    subst hw''
                    go_wp2_with fail
                    go_ret
                    exact ⟨rfl, hb.trans (pq.h.mono hb.size)⟩
                  · have hmn : min k E = k := by omega
                    have hmi : min (k : Int) (E : Int) = (k : Int) := by omega
                    have hmj : min (E : Int) (k : Int) = (k : Int) := by omega
                    have hle : (k : Int) ≤ (E : Int) := by omega
                    rw [hmn] at HSt
                    go_wp2_with fail
                    have hjz : (j : Int) + 1 = (E : Int) := by have := HJ.out; omega
                    refine wp_region_quiet_below (by kernel_rfl) (by kernel_rfl) ?_
                    repeat (quiet_step (first | (go_at_call 24; refine Calls.below_of (HFr.out _)) | (go_at_call 25; refine Calls.below_of (HBa.out _)) | (go_at_call 26; refine Calls.below_of (HSt.out _))))
                    refine wpQuiet_nil ?_
                    intro _ hw'
                    obtain ⟨pq, hw''⟩ := hw'
                    subst hw''
                    go_wp2_with fail
                    go_ret
                    exact ⟨rfl, hb.trans (pq.h.mono hb.size)⟩
          · have hkF : k = F := HStop.out fun _ _ => bl_no _ (by omega)
            have e32 : ((s[k].toNat : Int) == 32) = false := beq_no h5
            subst hkF
            clear HGo HStop
            go_wp2_with fail
            go_loopw [12] (fun i wr => ∃ q : Nat, q ≤ s.size ∧ i = .int .i64 (q : Int) ∧ Hid (behind s 0 q = E) ∧ Below w.heap.size w wr) (fun i _ => (intOf i).toNat)
            case atStart => exact ⟨s.size, by omega, rfl, HE.out.symm, hb⟩
            case round =>
              clear hb
              obtain ⟨q, hq, rfl, HU, hb⟩ := hrel
              by_cases hq0 : q = 0
              · subst hq0
                have hqE : 0 = E := HU.out
                subst hqE
                clear HU
                rcases Nat.lt_or_ge 0 k with hEF | hEF
                · have hmn : min k 0 = 0 := by omega
                  have hmi : min (k : Int) 0 = 0 := by omega
                  have hmj : min 0 (k : Int) = 0 := by omega
                  rw [hmn] at HSt
                  go_wp2_with fail
                  refine wp_region_quiet_below (by kernel_rfl) (by kernel_rfl) ?_
                  repeat (quiet_step (first | (go_at_call 24; refine Calls.below_of (HFr.out _)) | (go_at_call 25; refine Calls.below_of (HBa.out _)) | (go_at_call 26; refine Calls.below_of (HSt.out _))))
                  refine wpQuiet_nil ?_
                  intro _ hw'
                  obtain ⟨pq, hw''⟩ := hw'
                  subst hw''
                  go_wp2_with fail
                  go_ret
                  exact ⟨rfl, hb.trans (pq.h.mono hb.size)⟩
                · obtain rfl : k = 0 := by omega
                  rw [show min 0 0 = 0 from rfl] at HSt
                  go_wp2_with fail
                  refine wp_region_quiet_below (by kernel_rfl) (by kernel_rfl) ?_
                  repeat (quiet_step (first | (go_at_call 24; refine Calls.below_of (HFr.out _)) | (go_at_call 25; refine Calls.below_of (HBa.out _)) | (go_at_call 26; refine Calls.below_of (HSt.out _))))
                  refine wpQuiet_nil ?_
                  intro _ hw'
                  obtain ⟨pq, hw''⟩ := hw'
                  subst hw''
                  go_wp2_with fail
                  go_ret
                  exact ⟨rfl, hb.trans (pq.h.mono hb.size)⟩
              · obtain ⟨j, rfl⟩ : ∃ j, q = j + 1 := ⟨q - 1, by omega⟩
                have hjs : j < s.size := by omega
                have hc := byte_lt s j hjs
                have h4 : s[j].toNat = 32 ∨ (9 ≤ s[j].toNat ∧ s[j].toNat ≤ 13) ∨ s[j].toNat < 9 ∨ (13 < s[j].toNat ∧ s[j].toNat ≠ 32) := by omega
                rcases h4 with h4 | ⟨h4, h5⟩ | h4 | ⟨h4, h5⟩
                · have HU2 : Hid (behind s 0 j = E) := by show _ = _; rw [← HU.out, behind_yes s 0 j hjs (by omega) (bl_yes _ (by omega))]
                  have e32 : ((s[j].toNat : Int) == 32) = true := beq_yes h4
                  clear HU
                  go_wp2_with fail
                  go_roundw
                  case rel => exact ⟨j, by omega, by go_num, HU2, hb⟩
                  case measure => first | (simp [intOf]; done) | (simp [intOf]; omega)
                · have HU2 : Hid (behind s 0 j = E) := by show _ = _; rw [← HU.out, behind_yes s 0 j hjs (by omega) (bl_yes _ (by omega))]
                  have e32 : ((s[j].toNat : Int) == 32) = false := beq_no (show ¬ _ = 32 by omega)
                  clear HU
                  go_wp2_with fail
                  go_roundw
                  case rel => exact ⟨j, by omega, by go_num, HU2, hb⟩
                  case measure => first | (simp [intOf]; done) | (simp [intOf]; omega)
                · have hjE : j + 1 = E := by rw [← HU.out, behind_no s 0 j hjs (by rw [bl_no _ (by omega)]; simp)]
                  have e32 : ((s[j].toNat : Int) == 32) = false := beq_no (show ¬ _ = 32 by omega)
                  have HJ := Lib.hid hjE
                  clear hjE
                  clear HU
                  rcases Nat.lt_or_ge E k with hEF | hEF
                  · have hmn : min k E = E := by omega
                    have hmi : min (k : Int) (E : Int) = (E : Int) := by omega
                    have hmj : min (E : Int) (k : Int) = (E : Int) := by omega
                    rw [hmn] at HSt
                    go_wp2_with fail
                    have hjz : (j : Int) + 1 = (E : Int) := by have := HJ.out; omega
                    refine wp_region_quiet_below (by kernel_rfl) (by kernel_rfl) ?_
                    repeat (quiet_step (first | (go_at_call 24; refine Calls.below_of (HFr.out _)) | (go_at_call 25; refine Calls.below_of (HBa.out _)) | (go_at_call 26; refine Calls.below_of (HSt.out _))))
                    refine wpQuiet_nil ?_
                    intro _ hw'
                    obtain ⟨pq, hw''⟩ := hw'
                    subst hw''
                    go_wp2_with fail
                    go_ret
                    exact ⟨rfl, hb.trans (pq.h.mono hb.size)⟩
                  · have hmn : min k E = k := by omega
                    have hmi : min (k : Int) (E : Int) = (k : Int) := by omega
                    have hmj : min (E : Int) (k : Int) = (k : Int) := by omega
                    have hle : (k : Int) ≤ (E : Int) := by omega
                    rw [hmn] at HSt
                    go_wp2_with fail
                    have hjz : (j : Int) + 1 = (E : Int) := by have := HJ.out; omega
                    refine wp_region_quiet_below (by kernel_rfl) (by kernel_rfl) ?_
                    repeat (quiet_step (first | (go_at_call 24; refine Calls.below_of (HFr.out _)) | (go_at_call 25; refine Calls.below_of (HBa.out _)) | (go_at_call 26; refine Calls.below_of (HSt.out _))))
                    refine wpQuiet_nil ?_
                    intro _ hw'
                    obtain ⟨pq, hw''⟩ := hw'
                    subst hw''
                    go_wp2_with fail
                    go_ret
                    exact ⟨rfl, hb.trans (pq.h.mono hb.size)⟩
                · have hjE : j + 1 = E := by rw [← HU.out, behind_no s 0 j hjs (by rw [bl_no _ (by omega)]; simp)]
                  have e32 : ((s[j].toNat : Int) == 32) = false := beq_no h5
                  have HJ := Lib.hid hjE
                  clear hjE
                  clear HU
                  rcases Nat.lt_or_ge E k with hEF | hEF
                  · have hmn : min k E = E := by omega
                    have hmi : min (k : Int) (E : Int) = (E : Int) := by omega
                    have hmj : min (E : Int) (k : Int) = (E : Int) := by omega
                    rw [hmn] at HSt
                    go_wp2_with fail
                    have hjz : (j : Int) + 1 = (E : Int) := by have := HJ.out; omega
                    refine wp_region_quiet_below (by kernel_rfl) (by kernel_rfl) ?_
                    repeat (quiet_step (first | (go_at_call 24; refine Calls.below_of (HFr.out _)) | (go_at_call 25; refine Calls.below_of (HBa.out _)) | (go_at_call 26; refine Calls.below_of (HSt.out _))))
                    refine wpQuiet_nil ?_
                    intro _ hw'
                    obtain ⟨pq, hw''⟩ := hw'
                    subst hw''
                    go_wp2_with fail
                    go_ret
                    exact ⟨rfl, hb.trans (pq.h.mono hb.size)⟩
                  · have hmn : min k E = k := by omega
                    have hmi : min (k : Int) (E : Int) = (k : Int) := by omega
                    have hmj : min (E : Int) (k : Int) = (k : Int) := by omega
                    have hle : (k : Int) ≤ (E : Int) := by omega
                    rw [hmn] at HSt
                    go_wp2_with fail
                    have hjz : (j : Int) + 1 = (E : Int) := by have := HJ.out; omega
                    refine wp_region_quiet_below (by kernel_rfl) (by kernel_rfl) ?_
                    repeat (quiet_step (first | (go_at_call 24; refine Calls.below_of (HFr.out _)) | (go_at_call 25; refine Calls.below_of (HBa.out _)) | (go_at_call 26; refine Calls.below_of (HSt.out _))))
                    refine wpQuiet_nil ?_
                    intro _ hw'
                    obtain ⟨pq, hw''⟩ := hw'
                    subst hw''
                    go_wp2_with fail
                    go_ret
                    exact ⟨rfl, hb.trans (pq.h.mono hb.size)⟩
        · have hkF : k = F := HStop.out fun h => absurd h hlt
          subst hkF
          clear HGo HStop
          go_wp2_with fail
          go_loopw [12] (fun i wr => ∃ q : Nat, q ≤ s.size ∧ i = .int .i64 (q : Int) ∧ Hid (behind s 0 q = E) ∧ Below w.heap.size w wr) (fun i _ => (intOf i).toNat)
          case atStart => exact ⟨s.size, by omega, rfl, HE.out.symm, hb⟩
          case round =>
            clear hb
            obtain ⟨q, hq, rfl, HU, hb⟩ := hrel
            by_cases hq0 : q = 0
            · subst hq0
              have hqE : 0 = E := HU.out
              subst hqE
              clear HU
              rcases Nat.lt_or_ge 0 k with hEF | hEF
              · have hmn : min k 0 = 0 := by omega
                have hmi : min (k : Int) 0 = 0 := by omega
                have hmj : min 0 (k : Int) = 0 := by omega
                rw [hmn] at HSt
                go_wp2_with fail
                refine wp_region_quiet_below (by kernel_rfl) (by kernel_rfl) ?_
                repeat (quiet_step (first | (go_at_call 24; refine Calls.below_of (HFr.out _)) | (go_at_call 25; refine Calls.below_of (HBa.out _)) | (go_at_call 26; refine Calls.below_of (HSt.out _))))
                refine wpQuiet_nil ?_
                intro _ hw'
                obtain ⟨pq, hw''⟩ := hw'
                subst hw''
                go_wp2_with fail
                go_ret
                exact ⟨rfl, hb.trans (pq.h.mono hb.size)⟩
              · obtain rfl : k = 0 := by omega
                rw [show min 0 0 = 0 from rfl] at HSt
                go_wp2_with fail
                refine wp_region_quiet_below (by kernel_rfl) (by kernel_rfl) ?_
                repeat (quiet_step (first | (go_at_call 24; refine Calls.below_of (HFr.out _)) | (go_at_call 25; refine Calls.below_of (HBa.out _)) | (go_at_call 26; refine Calls.below_of (HSt.out _))))
                refine wpQuiet_nil ?_
                intro _ hw'
                obtain ⟨pq, hw''⟩ := hw'
                subst hw''
                go_wp2_with fail
                go_ret
                exact ⟨rfl, hb.trans (pq.h.mono hb.size)⟩
            · obtain ⟨j, rfl⟩ : ∃ j, q = j + 1 := ⟨q - 1, by omega⟩
              have hjs : j < s.size := by omega
              have hc := byte_lt s j hjs
              have h4 : s[j].toNat = 32 ∨ (9 ≤ s[j].toNat ∧ s[j].toNat ≤ 13) ∨ s[j].toNat < 9 ∨ (13 < s[j].toNat ∧ s[j].toNat ≠ 32) := by omega
              rcases h4 with h4 | ⟨h4, h5⟩ | h4 | ⟨h4, h5⟩
              · have HU2 : Hid (behind s 0 j = E) := by show _ = _; rw [← HU.out, behind_yes s 0 j hjs (by omega) (bl_yes _ (by omega))]
                have e32 : ((s[j].toNat : Int) == 32) = true := beq_yes h4
                clear HU
                go_wp2_with fail
                go_roundw
                case rel => exact ⟨j, by omega, by go_num, HU2, hb⟩
                case measure => first | (simp [intOf]; done) | (simp [intOf]; omega)
              · have HU2 : Hid (behind s 0 j = E) := by show _ = _; rw [← HU.out, behind_yes s 0 j hjs (by omega) (bl_yes _ (by omega))]
                have e32 : ((s[j].toNat : Int) == 32) = false := beq_no (show ¬ _ = 32 by omega)
                clear HU
                go_wp2_with fail
                go_roundw
                case rel => exact ⟨j, by omega, by go_num, HU2, hb⟩
                case measure => first | (simp [intOf]; done) | (simp [intOf]; omega)
              · have hjE : j + 1 = E := by rw [← HU.out, behind_no s 0 j hjs (by rw [bl_no _ (by omega)]; simp)]
                have e32 : ((s[j].toNat : Int) == 32) = false := beq_no (show ¬ _ = 32 by omega)
                have HJ := Lib.hid hjE
                clear hjE
                clear HU
                rcases Nat.lt_or_ge E k with hEF | hEF
                · have hmn : min k E = E := by omega
                  have hmi : min (k : Int) (E : Int) = (E : Int) := by omega
                  have hmj : min (E : Int) (k : Int) = (E : Int) := by omega
                  rw [hmn] at HSt
                  go_wp2_with fail
                  have hjz : (j : Int) + 1 = (E : Int) := by have := HJ.out; omega
                  refine wp_region_quiet_below (by kernel_rfl) (by kernel_rfl) ?_
                  repeat (quiet_step (first | (go_at_call 24; refine Calls.below_of (HFr.out _)) | (go_at_call 25; refine Calls.below_of (HBa.out _)) | (go_at_call 26; refine Calls.below_of (HSt.out _))))
                  refine wpQuiet_nil ?_
                  intro _ hw'
                  obtain ⟨pq, hw''⟩ := hw'
                  subst hw''
                  go_wp2_with fail
                  go_ret
                  exact ⟨rfl, hb.trans (pq.h.mono hb.size)⟩
                · have hmn : min k E = k := by omega
                  have hmi : min (k : Int) (E : Int) = (k : Int) := by omega
                  have hmj : min (E : Int) (k : Int) = (k : Int) := by omega
                  have hle : (k : Int) ≤ (E : Int) := by omega
                  rw [hmn] at HSt
                  go_wp2_with fail
                  have hjz : (j : Int) + 1 = (E : Int) := by have := HJ.out; omega
                  refine wp_region_quiet_below (by kernel_rfl) (by kernel_rfl) ?_
                  repeat (quiet_step (first | (go_at_call 24; refine Calls.below_of (HFr.out _)) | (go_at_call 25; refine Calls.below_of (HBa.out _)) | (go_at_call 26; refine Calls.below_of (HSt.out _))))
                  refine wpQuiet_nil ?_
                  intro _ hw'
                  obtain ⟨pq, hw''⟩ := hw'
                  subst hw''
                  go_wp2_with fail
                  go_ret
                  exact ⟨rfl, hb.trans (pq.h.mono hb.size)⟩
              · have hjE : j + 1 = E := by rw [← HU.out, behind_no s 0 j hjs (by rw [bl_no _ (by omega)]; simp)]
                have e32 : ((s[j].toNat : Int) == 32) = false := beq_no h5
                have HJ := Lib.hid hjE
                clear hjE
                clear HU
                rcases Nat.lt_or_ge E k with hEF | hEF
                · have hmn : min k E = E := by omega
                  have hmi : min (k : Int) (E : Int) = (E : Int) := by omega
                  have hmj : min (E : Int) (k : Int) = (E : Int) := by omega
                  rw [hmn] at HSt
                  go_wp2_with fail
                  have hjz : (j : Int) + 1 = (E : Int) := by have := HJ.out; omega
                  refine wp_region_quiet_below (by kernel_rfl) (by kernel_rfl) ?_
                  repeat (quiet_step (first | (go_at_call 24; refine Calls.below_of (HFr.out _)) | (go_at_call 25; refine Calls.below_of (HBa.out _)) | (go_at_call 26; refine Calls.below_of (HSt.out _))))
                  refine wpQuiet_nil ?_
                  intro _ hw'
                  obtain ⟨pq, hw''⟩ := hw'
                  subst hw''
                  go_wp2_with fail
                  go_ret
                  exact ⟨rfl, hb.trans (pq.h.mono hb.size)⟩
                · have hmn : min k E = k := by omega
                  have hmi : min (k : Int) (E : Int) = (k : Int) := by omega
                  have hmj : min (E : Int) (k : Int) = (k : Int) := by omega
                  have hle : (k : Int) ≤ (E : Int) := by omega
                  rw [hmn] at HSt
                  go_wp2_with fail
                  have hjz : (j : Int) + 1 = (E : Int) := by have := HJ.out; omega
                  refine wp_region_quiet_below (by kernel_rfl) (by kernel_rfl) ?_
                  repeat (quiet_step (first | (go_at_call 24; refine Calls.below_of (HFr.out _)) | (go_at_call 25; refine Calls.below_of (HBa.out _)) | (go_at_call 26; refine Calls.below_of (HSt.out _))))
                  refine wpQuiet_nil ?_
                  intro _ hw'
                  obtain ⟨pq, hw''⟩ := hw'
                  subst hw''
                  go_wp2_with fail
                  go_ret
                  exact ⟨rfl, hb.trans (pq.h.mono hb.size)⟩

set_option maxRecDepth 100000 in
theorem strLetters_walk (s : ByteArray) (_ : s.size ≤ maxLen) (m : Int) (w : World) (hm : w.cell? ⟨0, 0, none⟩ = some (.int .i64 m)) :
    Calls Try.prog 8 #[.string s] w fun e w' => e = .returned (.bool true) ∧ Below w.heap.size w w' := by
  by_cases hs : s.size ≤ 500
  · exact strLetters_near s hs m w hm
  · have HT := Lib.hid (texts_any m w hm)
    clear hm
    go_enter Try.func8, Try.ntmps8
    go_wp2_with fail
    refine HT.out.mono ?_
    rintro e w1 ⟨rfl, hb1⟩
    go_wp2_with fail
    go_ret
    exact ⟨rfl, hb1⟩
end Go.Proofs.Ytkpdjpplcejjiaa
