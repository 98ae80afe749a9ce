/- Contract of dreyref08.Gap. -/
import Derived.Test.YthjmlgbnpnfkgaaDoorLexI
set_option linter.unusedVariables false
namespace Go.Proofs.YthjmlgbnpnfkgaaDoor.Lx
open Go.RowKit Go.ChangeShapes Go.WideShapes Go.ChangeAt Go.Proofs.YthjmlgbnpnfkgaaDoor.Nu

/-- Where a note of two signs ends, and whether a line ended in it. -/
def nc : List UInt8 → Nat → Bool → Option (Nat × Bool)
  | [], _, _ => none
  | c :: m, k, b => if Lib.hasPrefix (c :: m) [42, 47] = true then some (k, b) else nc m (k + 1) (b || c == 10)
theorem nc_at (m : List UInt8) : ∀ (k : Nat) (b : Bool), nc m k b = if 0 ≤ Lib.index m [42, 47] then some (k + (Lib.index m [42, 47]).toNat, b || (m.take (Lib.index m [42, 47]).toNat).contains 10) else none := by
  induction m with
  | nil => intro k b; rfl
  | cons c m ih =>
    intro k b
    rw [nc, Lib.index]
    by_cases h : Lib.hasPrefix (c :: m) [42, 47] = true
    · have h' : List.isPrefixOf [42, 47] (c :: m) = true := h
      rw [if_pos h, if_pos h', if_pos (by decide)]
      simp
    · have h' : ¬ List.isPrefixOf [42, 47] (c :: m) = true := h
      rw [if_neg h, if_neg h', ih]
      have hge := Lib.index_ge m [42, 47]
      by_cases h0 : Lib.index m [42, 47] = -1
      · rw [h0]; rfl
      · have h1 : (Lib.index m [42, 47] == -1) = false := by rw [beq_eq_false_iff_ne]; exact h0
        rw [if_pos (show 0 ≤ Lib.index m [42, 47] by omega)]
        simp only [h1]
        rw [if_neg (by decide : ¬ (false = true)), if_pos (by omega)]
        obtain ⟨j, hj⟩ := Int.eq_ofNat_of_zero_le (show 0 ≤ Lib.index m [42, 47] by omega)
        rw [hj, show ((j : Int) + 1).toNat = j + 1 by omega, show ((j : Int)).toNat = j by omega, List.take_succ_cons, List.contains_cons]
        congr 2
        · omega
        · rw [show ((10 : UInt8) == c) = (c == 10) from by rw [Bool.eq_iff_iff, beq_iff_eq, beq_iff_eq]; exact eq_comm, Bool.or_assoc]
theorem nc_pre (m : List UInt8) : ∀ (k : Nat) (b : Bool) (j : Nat) (b' : Bool), nc m k b = some (j, b') → ∃ pre r, m = pre ++ 42 :: 47 :: r ∧ j = k + pre.length ∧ b' = (b || pre.contains 10) := by
  induction m with
  | nil => intro k b j b' h; cases h
  | cons c m ih =>
    intro k b j b' h
    rw [nc] at h
    by_cases hp : Lib.hasPrefix (c :: m) [42, 47] = true
    · rw [if_pos hp] at h
      obtain ⟨r, hr⟩ := List.isPrefixOf_iff_prefix.1 hp
      cases h
      exact ⟨[], r, hr.symm, rfl, by simp⟩
    · rw [if_neg hp] at h
      obtain ⟨pre, r, e1, e2, e3⟩ := ih _ _ _ _ h
      exact ⟨c :: pre, r, by rw [e1]; rfl, by rw [e2, List.length_cons]; omega, by
        rw [e3, List.contains_cons, show ((10 : UInt8) == c) = (c == 10) from by rw [Bool.eq_iff_iff, beq_iff_eq, beq_iff_eq]; exact eq_comm, Bool.or_assoc]⟩
/-- A note of two signs, told by 'nc'. -/
theorem nl_nc (c d : UInt8) (m : List UInt8) (k : Nat) (b : Bool) (hc : ¬ c = 10) (hd : ¬ d = 10) : (nc m (k + 2) b = none → nl (c :: d :: m) = 0) ∧ ∀ j b', nc m (k + 2) b = some (j, b') → nl (c :: d :: m) ≠ 0 ∧ k + nl (c :: d :: m) = j + 2 ∧ (b || ((c :: d :: m).take (nl (c :: d :: m))).contains 10) = b' := by
  have hn := nc_at m (k + 2) b
  have he : nl (c :: d :: m) = if 0 ≤ Lib.index m [42, 47] then (Lib.index m [42, 47]).toNat + 4 else 0 := rfl
  by_cases h0 : 0 ≤ Lib.index m [42, 47]
  · rw [if_pos h0] at hn he
    refine ⟨fun h => (by rw [hn] at h; cases h), fun j b' h => ?_⟩
    obtain ⟨pre, r, e1, e2, e3⟩ := nc_pre m _ _ _ _ h
    rw [hn] at h
    have h5 := Option.some.inj h
    have h6 := (Prod.mk.inj h5).1
    have hpl : (Lib.index m [42, 47]).toNat = pre.length := by omega
    rw [he, hpl]
    refine ⟨by omega, by omega, ?_⟩
    have h7 : (c :: d :: m).take (pre.length + 4) = c :: d :: (pre ++ [42, 47]) := by
      rw [e1, List.take_succ_cons, List.take_succ_cons, List.take_length_add_append]; rfl
    have hc' : ((10 : UInt8) == c) = false := by rw [beq_eq_false_iff_ne]; exact fun h => hc h.symm
    have hd' : ((10 : UInt8) == d) = false := by rw [beq_eq_false_iff_ne]; exact fun h => hd h.symm
    rw [h7, e3, List.contains_cons, List.contains_cons, hc', hd', Bool.false_or, Bool.false_or]
    congr 1
    rw [Bool.eq_iff_iff, List.contains_iff_mem, List.contains_iff_mem, List.mem_append]
    exact ⟨fun h => h.elim id (fun h => absurd h (by decide)), Or.inl⟩
  · rw [if_neg h0] at hn he
    exact ⟨fun _ => he, fun j b' h => (by rw [hn] at h; cases h)⟩
def gapR (G : Nat × Bool × Bool) : Value := .tuple #[.int .i64 (if G.2.2 = true then (G.1 : Int) else 0), .bool (G.2.2 && G.2.1), .int .i64 (if G.2.2 = true then -1 else (G.1 : Int))]
theorem gapR_ok (n : Nat) (b : Bool) : gapR (n, b, true) = .tuple #[.int .i64 n, .bool b, .int .i64 (-1)] := by unfold gapR; simp
theorem gapR_no (n : Nat) (b : Bool) : gapR (n, b, false) = .tuple #[.int .i64 0, .bool false, .int .i64 n] := by unfold gapR; simp
theorem ll_end {l : List UInt8} {j : Nat} (h : l.length ≤ j) : ll (l.drop j) = 0 := by rw [List.drop_eq_nil_of_le h]; rfl
set_option maxRecDepth 100000 in
set_option maxHeartbeats 4000000 in
theorem rgap_any (s : ByteArray) (hs : s.size ≤ 1048576) (w : World) : Calls Tryd.prog 14 #[.string s] w fun e w' => e = .returned (gapR (gapF s.size s.data.toList 0 false)) ∧ w = w' := by
  have HG0 : Hid (gapF s.size (s.data.toList.drop 0) 0 false = gapF s.size s.data.toList 0 false) := rfl
  generalize gapF s.size s.data.toList 0 false = G at *
  have HST := Lib.hid (fun x p => starts_any x p w)
  go_enter Tryd.func14, Tryd.ntmps14
  go_wp2_with fail
  go_loop [5, 6, 7] (fun n b _ => ∃ (k f : Nat) (x : Bool), k ≤ s.size ∧ s.size ≤ f + k ∧ n = .int .i64 (k : Int) ∧ b = .bool x ∧ Hid (gapF f (s.data.toList.drop k) k x = G)) (fun n _ _ => s.size - (intOf n).toNat)
  case atStart => exact ⟨0, s.size, false, by omega, by omega, rfl, rfl, HG0.out⟩
  case round =>
    obtain ⟨k, f, x, hk, hf, rfl, rfl, HU⟩ := hrel
    by_cases hlt : k < s.size
    · obtain ⟨f, rfl⟩ : ∃ g, f = g + 1 := ⟨f - 1, by omega⟩
      have hU := HU.out
      have hdr := drop_byte s k hlt
      rw [hdr] at hU
      have hxl : (s.extract k s.size).data.toList = s.data.toList.drop k := by rw [Lib.extract_data]; exact List.take_of_length_le (by simp)
      have hgo : (s[k] :: s.data.toList.drop (k + 1)).length = s.size - k := by rw [← hdr, List.length_drop, size_list]
      have hdd : ∀ j, (s[k] :: s.data.toList.drop (k + 1)).drop j = s.data.toList.drop (k + j) := fun j => by rw [← hdr, List.drop_drop]
      have hc := byte_lt s k hlt
      have HS1 : Hid (Calls Tryd.prog 25 #[.string (s.extract k s.size), .string ⟨#[47, 47]⟩] w fun e w' => e = .returned (.bool (Lib.hasPrefix (s[k] :: s.data.toList.drop (k + 1)) [47, 47])) ∧ w = w') := by
        have h := HST.out (s.extract k s.size) ⟨#[47, 47]⟩
        rw [hxl, hdr] at h
        exact h
      have HS2 : Hid (Calls Tryd.prog 25 #[.string (s.extract k s.size), .string ⟨#[47, 42]⟩] w fun e w' => e = .returned (.bool (Lib.hasPrefix (s[k] :: s.data.toList.drop (k + 1)) [47, 42])) ∧ w = w') := by
        have h := HST.out (s.extract k s.size) ⟨#[47, 42]⟩
        rw [hxl, hdr] at h
        exact h
      have HDR := Lib.hid hdr
      have HGO := Lib.hid hgo
      have HDD := Lib.hid hdd
      have h1m : (10 : Nat) ≤ 1048576 := by decide
      clear hdr hgo hdd HU hxl
      generalize hcc : s[k] = c at *
      by_cases e10 : c = 10
      · rw [gap_line e10] at hU
        have q10 : ((c.toNat : Int) == 10) = true := by rw [e10]; rfl
        have HU2 := Lib.hid hU
        clear hU e10
        go_wp2_with fail
        go_round
        case rel => exact ⟨k + 1, f, true, by omega, by omega, by go_num, rfl, HU2⟩
        case measure => simp [intOf]; omega
      · have q10 : ((c.toNat : Int) == 10) = false := by rw [beq_eq_false_iff_ne]; exact fun h => e10 (u8_eq.2 (by show c.toNat = 10; omega))
        by_cases eb : c = 32 ∨ c = 9 ∨ c = 13
        · rw [gap_blank e10 eb] at hU
          have HU2 := Lib.hid hU
          clear hU
          rcases eb with rfl | rfl | rfl
          all_goals
            go_wp2_with fail
            go_round
            case rel => exact ⟨k + 1, f, x, by omega, by omega, by go_num, rfl, HU2⟩
            case measure => simp [intOf]; omega
        · have n32 : ¬ c.toNat = 32 := fun h => eb (.inl (u8_eq.2 h))
          have n9 : ¬ c.toNat = 9 := fun h => eb (.inr (.inl (u8_eq.2 h)))
          have n13 : ¬ c.toNat = 13 := fun h => eb (.inr (.inr (u8_eq.2 h)))
          have q32 : ((c.toNat : Int) == 32) = false := by rw [beq_eq_false_iff_ne]; omega
          have q9 : ((c.toNat : Int) == 9) = false := by rw [beq_eq_false_iff_ne]; omega
          have q13 : ((c.toNat : Int) == 13) = false := by rw [beq_eq_false_iff_ne]; omega
          clear n32 n9 n13
          by_cases e35 : c = 35
          · rw [gap_note e10 eb (.inl e35)] at hU
            have q35 : ((c.toNat : Int) == 35) = true := by rw [e35]; rfl
            clear HS1 HS2 HST eb
            go_wp2_with fail
            have HE : Hid (∃ e, e = k + ll (c :: s.data.toList.drop (k + 1)) ∧ k < e ∧ e ≤ s.size ∧ gapF f (s.data.toList.drop e) e x = G) := by
              have h1 := ll_pos (m := s.data.toList.drop (k + 1)) e10
              rw [HGO.out] at h1
              exact ⟨_, rfl, by omega, by omega, by rw [HDD.out] at hU; exact hU⟩
            obtain ⟨e, he, he1, he2, hG⟩ := HE.out
            rw [← HDR.out] at he
            have HG := Lib.hid hG
            have HEE := Lib.hid he
            clear HE hU hG he
            go_loop [5] (fun i => ∃ j : Nat, k ≤ j ∧ j ≤ s.size ∧ i = .int .i64 (j : Int) ∧ Hid (e = j + ll (s.data.toList.drop j))) (fun i => s.size - (intOf i).toNat)
            case atStart => exact ⟨k, by omega, by omega, rfl, HEE.out⟩
            case round =>
              obtain ⟨j, hkj, hj, rfl, HJ⟩ := hrel
              by_cases hlj : j < s.size
              · have hcj := byte_lt s j hlj
                have hdj := drop_byte s j hlj
                have hJ := HJ.out
                rw [hdj] at hJ
                generalize hccj : s[j] = cj at *
                by_cases ej : cj = 10
                · have qj : ((cj.toNat : Int) != 10) = false := by rw [ej]; rfl
                  rw [ll_cons, if_pos ej] at hJ
                  have hej : e = j := by omega
                  clear hJ HJ hdj
                  subst hej
                  go_wp2_with fail
                  go_round
                  case rel => exact ⟨e, f, x, by omega, by omega, by go_num, rfl, HG⟩
                  case measure => simp [intOf]; omega
                · have qj : ((cj.toNat : Int) != 10) = true := by rw [bne_iff_ne]; exact fun h => ej (u8_eq.2 (by show cj.toNat = 10; omega))
                  rw [ll_cons, if_neg ej] at hJ
                  have HJ2 : Hid (e = (j + 1) + ll (s.data.toList.drop (j + 1))) := by show _ = _; omega
                  clear hJ HJ hdj
                  go_wp2_with fail
                  go_round
                  case rel => exact ⟨j + 1, by omega, by omega, by go_num, HJ2⟩
                  case measure => simp [intOf]; omega
              · have hej : e = j := by
                  have hJ := HJ.out
                  rw [ll_end (by rw [size_list]; omega)] at hJ
                  omega
                clear HJ
                subst hej
                go_wp2_with fail
                go_round
                case rel => exact ⟨e, f, x, by omega, by omega, by go_num, rfl, HG⟩
                case measure => simp [intOf]; omega
          · have q35 : ((c.toNat : Int) == 35) = false := by rw [beq_eq_false_iff_ne]; exact fun h => e35 (u8_eq.2 (by show c.toNat = 35; omega))
            by_cases ep : Lib.hasPrefix (c :: s.data.toList.drop (k + 1)) [47, 47] = true
            · rw [gap_note e10 eb (.inr ep)] at hU
              rw [ep] at HS1
              clear HS2 HST eb ep
              go_wp2_with fail
              refine HS1.out.mono ?_
              rintro e' w1 ⟨rfl, rfl⟩
              clear HS1
              go_wp2_with fail
              have HE : Hid (∃ e, e = k + ll (c :: s.data.toList.drop (k + 1)) ∧ k < e ∧ e ≤ s.size ∧ gapF f (s.data.toList.drop e) e x = G) := by
                have h1 := ll_pos (m := s.data.toList.drop (k + 1)) e10
                rw [HGO.out] at h1
                exact ⟨_, rfl, by omega, by omega, by rw [HDD.out] at hU; exact hU⟩
              obtain ⟨e, he, he1, he2, hG⟩ := HE.out
              rw [← HDR.out] at he
              have HG := Lib.hid hG
              have HEE := Lib.hid he
              clear HE hU hG he
              go_loop [5] (fun i => ∃ j : Nat, k ≤ j ∧ j ≤ s.size ∧ i = .int .i64 (j : Int) ∧ Hid (e = j + ll (s.data.toList.drop j))) (fun i => s.size - (intOf i).toNat)
              case atStart => exact ⟨k, by omega, by omega, rfl, HEE.out⟩
              case round =>
                obtain ⟨j, hkj, hj, rfl, HJ⟩ := hrel
                by_cases hlj : j < s.size
                · have hcj := byte_lt s j hlj
                  have hdj := drop_byte s j hlj
                  have hJ := HJ.out
                  rw [hdj] at hJ
                  generalize hccj : s[j] = cj at *
                  by_cases ej : cj = 10
                  · have qj : ((cj.toNat : Int) != 10) = false := by rw [ej]; rfl
                    rw [ll_cons, if_pos ej] at hJ
                    have hej : e = j := by omega
                    clear hJ HJ hdj
                    subst hej
                    go_wp2_with fail
                    go_round
                    case rel => exact ⟨e, f, x, by omega, by omega, by go_num, rfl, HG⟩
                    case measure => simp [intOf]; omega
                  · have qj : ((cj.toNat : Int) != 10) = true := by rw [bne_iff_ne]; exact fun h => ej (u8_eq.2 (by show cj.toNat = 10; omega))
                    rw [ll_cons, if_neg ej] at hJ
                    have HJ2 : Hid (e = (j + 1) + ll (s.data.toList.drop (j + 1))) := by show _ = _; omega
                    clear hJ HJ hdj
                    go_wp2_with fail
                    go_round
                    case rel => exact ⟨j + 1, by omega, by omega, by go_num, HJ2⟩
                    case measure => simp [intOf]; omega
                · have hej : e = j := by
                    have hJ := HJ.out
                    rw [ll_end (by rw [size_list]; omega)] at hJ
                    omega
                  clear HJ
                  subst hej
                  go_wp2_with fail
                  go_round
                  case rel => exact ⟨e, f, x, by omega, by omega, by go_num, rfl, HG⟩
                  case measure => simp [intOf]; omega
            · rw [Bool.not_eq_true] at ep
              rw [ep] at HS1
              by_cases eo : Lib.hasPrefix (c :: s.data.toList.drop (k + 1)) [47, 42] = true
              · rw [eo] at HS2
                have HK : Hid (∃ N, nc (s.data.toList.drop (k + 2)) (k + 2) x = N ∧ k + 2 ≤ s.size ∧ (N = none → gapR G = .tuple #[.int .i64 0, .bool false, .int .i64 k]) ∧ ∀ j b', N = some (j, b') → k < j + 2 ∧ gapF f (s.data.toList.drop (j + 2)) (j + 2) b' = G) := by
                  have hlen : 2 ≤ (c :: s.data.toList.drop (k + 1)).length := (List.isPrefixOf_iff_prefix.1 eo).length_le
                  rw [HGO.out] at hlen
                  have hd1 := drop_byte s (k + 1) (by omega)
                  have hd10 : ¬ s[k + 1] = 10 := by
                    intro h
                    rw [hd1, h] at eo
                    simp [Lib.hasPrefix, List.isPrefixOf] at eo
                  have hno : ¬ (c = 35 ∨ Lib.hasPrefix (c :: s.data.toList.drop (k + 1)) [47, 47] = true) := fun h => h.elim e35 (fun h => by rw [ep] at h; cases h)
                  obtain ⟨q1, q2⟩ := nl_nc c s[k + 1] (s.data.toList.drop (k + 1 + 1)) k x e10 hd10
                  rw [← hd1] at q1 q2
                  refine ⟨_, rfl, by omega, fun h => ?_, fun j b' h => ?_⟩
                  · rw [gap_open e10 eb hno eo (q1 h)] at hU
                    rw [← hU, gapR_no]
                  · obtain ⟨p1, p2, p3⟩ := q2 j b' h
                    rw [gap_long e10 eb hno eo p1, p3, HDD.out, p2] at hU
                    exact ⟨by omega, hU⟩
                obtain ⟨N, hN, hk2, hNn, hNs⟩ := HK.out
                have HN := Lib.hid hN
                have HNN := Lib.hid hNn
                have HNS := Lib.hid hNs
                clear HK hN hNn hNs hU eb ep eo
                go_wp2_with fail
                refine HS1.out.mono ?_
                rintro e' w1 ⟨rfl, rfl⟩
                go_wp2_with fail
                refine HS2.out.mono ?_
                rintro e' w1 ⟨rfl, rfl⟩
                clear HS1 HS2
                go_wp2_with fail
                go_loop [6, 7] (fun b i => ∃ (j : Nat) (y : Bool), k + 2 ≤ j ∧ j ≤ s.size ∧ b = .bool y ∧ i = .int .i64 (j : Int) ∧ Hid (nc (s.data.toList.drop j) j y = N)) (fun _ i => s.size - (intOf i).toNat)
                case atStart => exact ⟨k + 2, x, by omega, by omega, rfl, by go_num, HN.out⟩
                case round =>
                  obtain ⟨j, y, hkj, hj, rfl, rfl, HJ⟩ := hrel
                  by_cases hlj : j < s.size
                  · have hcj := byte_lt s j hlj
                    have hdj := drop_byte s j hlj
                    have hJ := HJ.out
                    rw [hdj] at hJ
                    have hxl : (s.extract j s.size).data.toList = s.data.toList.drop j := by rw [Lib.extract_data]; exact List.take_of_length_le (by simp)
                    have HSJ : Hid (Calls Tryd.prog 25 #[.string (s.extract j s.size), .string ⟨#[42, 47]⟩] w fun e w' => e = .returned (.bool (Lib.hasPrefix (s[j] :: s.data.toList.drop (j + 1)) [42, 47])) ∧ w = w') := by
                      have h := HST.out (s.extract j s.size) ⟨#[42, 47]⟩
                      rw [hxl, hdj] at h
                      exact h
                    have hlen : (s[j] :: s.data.toList.drop (j + 1)).length = s.size - j := by rw [← hdj, List.length_drop, size_list]
                    clear hxl hdj HJ
                    generalize hccj : s[j] = cj at *
                    by_cases ej : Lib.hasPrefix (cj :: s.data.toList.drop (j + 1)) [42, 47] = true
                    · rw [nc, if_pos ej] at hJ
                      have hl2 := (List.isPrefixOf_iff_prefix.1 ej).length_le
                      rw [hlen] at hl2
                      have hl3 : j + 2 ≤ s.size := by simp at hl2; omega
                      have HG2 := Lib.hid (HNS.out j y hJ.symm).2
                      rw [ej] at HSJ
                      clear hJ ej hl2 hlen
                      go_wp2_with fail
                      refine HSJ.out.mono ?_
                      rintro e' w1 ⟨rfl, rfl⟩
                      clear HSJ HST
                      go_wp2_with fail
                      go_round
                      case rel => exact ⟨j + 2, f, y, by omega, by omega, by go_num, rfl, HG2⟩
                      case measure => simp [intOf]; omega
                    · rw [nc, if_neg ej] at hJ
                      rw [Bool.not_eq_true] at ej
                      rw [ej] at HSJ
                      have HJ2 := Lib.hid hJ
                      clear hJ ej hlen
                      by_cases ec : cj = 10
                      · have qj : ((cj.toNat : Int) == 10) = true := by rw [ec]; rfl
                        have HY : Hid ((y || cj == 10) = true) := by show _ = _; rw [ec]; simp
                        clear ec
                        cases y
                        all_goals
                          go_wp2_with fail
                          refine HSJ.out.mono ?_
                          rintro e' w1 ⟨rfl, rfl⟩
                          go_wp2_with fail
                          go_round
                          case rel => exact ⟨j + 1, true, by omega, by omega, rfl, by go_num, by rw [← HY.out]; exact HJ2.out⟩
                          case measure => simp [intOf]; omega
                      · have qj : ((cj.toNat : Int) == 10) = false := by rw [beq_eq_false_iff_ne]; exact fun h => ec (u8_eq.2 (by show cj.toNat = 10; omega))
                        have HY : Hid ((cj == 10) = false) := by show _ = _; rw [beq_eq_false_iff_ne]; exact ec
                        clear ec
                        cases y
                        all_goals
                          go_wp2_with fail
                          refine HSJ.out.mono ?_
                          rintro e' w1 ⟨rfl, rfl⟩
                          go_wp2_with fail
                          go_round
                          case rel => exact ⟨j + 1, _, by omega, by omega, rfl, by go_num, by have := HJ2.out; rw [HY.out] at this; exact this⟩
                          case measure => simp [intOf]; omega
                  · have HR : Hid (gapR G = .tuple #[.int .i64 0, .bool false, .int .i64 k]) := HNN.out (by
                      have hJ := HJ.out
                      rw [List.drop_eq_nil_of_le (by rw [size_list]; omega)] at hJ
                      exact hJ.symm)
                    clear HJ
                    go_wp2_with fail
                    (try simp only [Exit.inBlock, Exit.then])
                    refine bodyPost_ret (results_three rfl _ _) rfl ?_
                    exact ⟨by rw [HR.out]; rfl, rfl⟩
              · rw [gap_end e10 eb (fun h => h.elim e35 (fun h => by rw [ep] at h; cases h)) eo] at hU
                rw [Bool.not_eq_true] at eo
                rw [eo] at HS2
                have HR : Hid (gapR G = .tuple #[.int .i64 k, .bool x, .int .i64 (-1)]) := by show _ = _; rw [← hU, gapR_ok]
                clear hU eb ep eo HST
                go_wp2_with fail
                refine HS1.out.mono ?_
                rintro e' w1 ⟨rfl, rfl⟩
                go_wp2_with fail
                refine HS2.out.mono ?_
                rintro e' w1 ⟨rfl, rfl⟩
                go_wp2_with fail
                (try simp only [Exit.inBlock, Exit.then])
                refine bodyPost_ret (results_three rfl _ _) rfl ?_
                exact ⟨by rw [HR.out]; rfl, rfl⟩
    · have HR : Hid (gapR G = .tuple #[.int .i64 k, .bool x, .int .i64 (-1)]) := by
        have hU := HU.out
        rw [List.drop_eq_nil_of_le (by rw [size_list]; omega), gap_nil] at hU
        show _ = _
        rw [← hU, gapR_ok]
      clear HU
      go_wp2_with fail
      (try simp only [Exit.inBlock, Exit.then])
      refine bodyPost_ret (results_three rfl _ _) rfl ?_
      exact ⟨by rw [HR.out]; rfl, rfl⟩
end Go.Proofs.YthjmlgbnpnfkgaaDoor.Lx
