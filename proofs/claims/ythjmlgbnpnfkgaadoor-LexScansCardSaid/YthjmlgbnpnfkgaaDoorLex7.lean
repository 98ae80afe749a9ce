/- Contract of lex.between. -/
import Derived.Test.YthjmlgbnpnfkgaaDoorLex6
import Derived.WalkMore
set_option linter.unusedVariables false
namespace Go.Proofs.YthjmlgbnpnfkgaaDoor.Lx
open Go.RowKit Go.ChangeShapes Go.WideShapes Go.ChangeAt Go.Proofs.YthjmlgbnpnfkgaaDoor.Nu

/-- Where what stands between tokens ends, whether a line ended in it, and whether all is right. -/
def gapF : Nat → List UInt8 → Nat → Bool → Nat × Bool × Bool
  | 0, _, a, b => (a, b, true)
  | _ + 1, [], a, b => (a, b, true)
  | f + 1, c :: m, a, b =>
    if c = 10 then gapF f m (a + 1) true
    else if c = 32 ∨ c = 9 ∨ c = 13 then gapF f m (a + 1) b
    else if c = 35 ∨ Lib.hasPrefix (c :: m) [47, 47] = true then gapF f ((c :: m).drop (ll (c :: m))) (a + ll (c :: m)) b
    else if Lib.hasPrefix (c :: m) [47, 42] = true then (if nl (c :: m) = 0 then (a, b, false) else gapF f ((c :: m).drop (nl (c :: m))) (a + nl (c :: m)) (b || ((c :: m).take (nl (c :: m))).contains 10))
    else (a, b, true)
theorem gap_nil (f a : Nat) (b : Bool) : gapF f [] a b = (a, b, true) := by cases f <;> rfl
theorem gap_line {f a : Nat} {c : UInt8} {m : List UInt8} {b : Bool} (h : c = 10) : gapF (f + 1) (c :: m) a b = gapF f m (a + 1) true := by rw [gapF, if_pos h]
theorem gap_blank {f a : Nat} {c : UInt8} {m : List UInt8} {b : Bool} (h1 : ¬ c = 10) (h : c = 32 ∨ c = 9 ∨ c = 13) : gapF (f + 1) (c :: m) a b = gapF f m (a + 1) b := by rw [gapF, if_neg h1, if_pos h]
theorem gap_note {f a : Nat} {c : UInt8} {m : List UInt8} {b : Bool} (h1 : ¬ c = 10) (h2 : ¬ (c = 32 ∨ c = 9 ∨ c = 13)) (h : c = 35 ∨ Lib.hasPrefix (c :: m) [47, 47] = true) : gapF (f + 1) (c :: m) a b = gapF f ((c :: m).drop (ll (c :: m))) (a + ll (c :: m)) b := by rw [gapF, if_neg h1, if_neg h2, if_pos h]
theorem gap_open {f a : Nat} {c : UInt8} {m : List UInt8} {b : Bool} (h1 : ¬ c = 10) (h2 : ¬ (c = 32 ∨ c = 9 ∨ c = 13)) (h3 : ¬ (c = 35 ∨ Lib.hasPrefix (c :: m) [47, 47] = true)) (h : Lib.hasPrefix (c :: m) [47, 42] = true) (hn : nl (c :: m) = 0) : gapF (f + 1) (c :: m) a b = (a, b, false) := by rw [gapF, if_neg h1, if_neg h2, if_neg h3, if_pos h, if_pos hn]
theorem gap_long {f a : Nat} {c : UInt8} {m : List UInt8} {b : Bool} (h1 : ¬ c = 10) (h2 : ¬ (c = 32 ∨ c = 9 ∨ c = 13)) (h3 : ¬ (c = 35 ∨ Lib.hasPrefix (c :: m) [47, 47] = true)) (h : Lib.hasPrefix (c :: m) [47, 42] = true) (hn : ¬ nl (c :: m) = 0) : gapF (f + 1) (c :: m) a b = gapF f ((c :: m).drop (nl (c :: m))) (a + nl (c :: m)) (b || ((c :: m).take (nl (c :: m))).contains 10) := by rw [gapF, if_neg h1, if_neg h2, if_neg h3, if_pos h, if_neg hn]
theorem gap_end {f a : Nat} {c : UInt8} {m : List UInt8} {b : Bool} (h1 : ¬ c = 10) (h2 : ¬ (c = 32 ∨ c = 9 ∨ c = 13)) (h3 : ¬ (c = 35 ∨ Lib.hasPrefix (c :: m) [47, 47] = true)) (h : ¬ Lib.hasPrefix (c :: m) [47, 42] = true) : gapF (f + 1) (c :: m) a b = (a, b, true) := by rw [gapF, if_neg h1, if_neg h2, if_neg h3, if_neg h]
theorem ll_pos {c : UInt8} {m : List UInt8} (h : ¬ c = 10) : 1 ≤ ll (c :: m) ∧ ll (c :: m) ≤ (c :: m).length := by
  unfold ll
  by_cases h0 : 0 ≤ Lib.indexByte (c :: m) 10
  · rw [if_pos h0]
    obtain ⟨o, ho⟩ := Int.eq_ofNat_of_zero_le h0
    rw [ho]
    obtain ⟨h1, _⟩ := Lib.indexByte_some ho
    have h2 := (List.getElem?_eq_some_iff.1 h1).1
    refine ⟨?_, by simp at h2 ⊢; omega⟩
    cases o with
    | zero => simp at h1; exact absurd h1 h
    | succ o => simp
  · rw [if_neg h0]; simp
theorem nl_le (l : List UInt8) : nl l ≤ l.length := by
  unfold nl
  by_cases h0 : 0 ≤ Lib.index (l.drop 2) [42, 47]
  · rw [if_pos h0]
    have := Lib.index_room _ _ h0
    simp at this
    omega
  · rw [if_neg h0]; omega
theorem nl_some {l : List UInt8} (h : ¬ nl l = 0) : 4 ≤ nl l := by
  unfold nl at h ⊢
  split at h
  · rename_i h1; rw [if_pos h1]; omega
  · exact absurd rfl h
theorem prefix_any (x p : ByteArray) (w : World) : Calls Tryd.prog 32 #[.string x, .string p] w fun e w' => e = .returned (.bool (Lib.hasPrefix x.data.toList p.data.toList)) ∧ w = w' :=
  (Tryd.strings_HasPrefix x p w).mono fun e w' ⟨h1, h2⟩ => ⟨h1, h2.symm⟩
theorem has_byte {l : List UInt8} {c : UInt8} (h : c ∈ l) : 0 ≤ Lib.indexByte l c := by
  have hg := Lib.indexByte_ge l c
  by_cases h0 : Lib.indexByte l c = -1
  · obtain ⟨k, hk⟩ := List.mem_iff_getElem?.1 h
    exact absurd hk (Lib.indexByte_none h0 k)
  · omega
theorem no_byte {l : List UInt8} {c : UInt8} (h : c ∉ l) : Lib.indexByte l c = -1 := by
  have hg := Lib.indexByte_ge l c
  by_cases h0 : Lib.indexByte l c = -1
  · exact h0
  · obtain ⟨o, ho⟩ := Int.eq_ofNat_of_zero_le (a := Lib.indexByte l c) (by omega)
    have := (Lib.indexByte_some ho).1
    exact absurd (List.mem_of_getElem? this) h
theorem contains_ten (x : ByteArray) (w : World) : Calls Tryd.prog 39 #[.string x, .string ⟨#[10]⟩] w fun e w' => e = .returned (.bool (x.data.toList.contains 10)) ∧ w = w' :=
  (Tryd.strings_Contains_one x 10 w).mono fun e w' ⟨h1, h2⟩ => ⟨by
    rw [h1]
    congr 2
    by_cases h : (10 : UInt8) ∈ x.data.toList
    · rw [decide_eq_true (has_byte h)]; simpa using h
    · rw [no_byte h]
      simpa using h, h2.symm⟩
theorem results_three {P : Program} {fn : Func} {p q s : Tmp} (h : fn.results = #[.tmp p, .tmp q, .tmp s]) (tmps : Array Value) (w : World) :
    (results fn tmps).run P w = .ok (.tuple #[tmps.getD p undef, tmps.getD q undef, tmps.getD s undef]) w := by
  simp [results, h]
set_option maxRecDepth 100000 in
set_option maxHeartbeats 8000000 in
theorem between_any (s : ByteArray) (hs : s.size ≤ 1048576) (a : Nat) (ha : a ≤ s.size) (F : Nat) (hF : s.size ≤ F + a) (m : Int) (w : World) (hm : w.cell? ⟨0, 0, none⟩ = some (.int .i64 m)) :
    Calls Tryd.prog 20 #[.string s, .int .i64 (a : Int)] w fun e w' => e = .returned (.tuple #[.int .i64 ((gapF F (s.data.toList.drop a) a false).1 : Int), .bool (gapF F (s.data.toList.drop a) a false).2.1, .bool (gapF F (s.data.toList.drop a) a false).2.2]) ∧ w = w' := by
  obtain ⟨R, hR⟩ : ∃ R, R = gapF F (s.data.toList.drop a) a false := ⟨_, rfl⟩
  rw [← hR]
  have HR := Lib.hid hR
  have HM := Lib.hid hm
  clear hR hm
  go_enter Tryd.func20, Tryd.ntmps20
  go_wp2_with fail
  go_step3
  go_wp2_with fail
  go_step3
  go_wp2_with fail
  go_loop [1, 7] (fun i b => ∃ (k f : Nat) (bb : Bool), k ≤ s.size ∧ s.size ≤ f + k ∧ i = .int .i64 (k : Int) ∧ b = .bool bb ∧ Hid (R = gapF f (s.data.toList.drop k) k bb)) (fun i _ => s.size - (intOf i).toNat)
  case atStart => exact ⟨a, F, false, ha, hF, rfl, rfl, HR.out⟩
  case round =>
    obtain ⟨k, f, bb, hk, hf, rfl, rfl, HU⟩ := hrel
    by_cases hlt : k < s.size
    · obtain ⟨f, rfl⟩ : ∃ g, f = g + 1 := ⟨f - 1, by omega⟩
      have hU := HU.out
      have hdr := drop_byte s k hlt
      rw [hdr] at hU
      have hxl : (s.extract k s.size).data.toList = s.data.toList.drop k := by rw [Lib.extract_data]; exact List.take_of_length_le (by simp)
      have hxz : (s.extract k s.size).size = s.size - k := by simp
      have hx0 : 0 < (s.extract k s.size).size := by omega
      have hxe : (s.extract k s.size)[0] = s[k] := by rw [ByteArray.getElem_extract]; rfl
      have hc := byte_lt s k hlt
      rw [hdr] at hxl
      generalize hxx : s.extract k s.size = x at *
      generalize hcc : s[k] = c at *
      have hc0 : ((x[0]).toNat : Int) = (c.toNat : Int) := by rw [hxe]
      have HXL := Lib.hid hxl
      have HXE := Lib.hid hxe
      have hgo : (c :: s.data.toList.drop (k + 1)).length = s.size - k := by rw [← hxl, size_list, hxz]
      have HGO := Lib.hid hgo
      have hdd : ∀ j, (c :: s.data.toList.drop (k + 1)).drop j = s.data.toList.drop (k + j) := fun j => by rw [← hdr, List.drop_drop]
      have HDD := Lib.hid hdd
      have HXZ := Lib.hid hxz
      clear hxl hxe hxz hgo hdd hdr HU hcc
      by_cases e10 : c = 10
      · rw [gap_line e10] at hU
        have q10 : ((c.toNat : Int) == 10) = true := by rw [e10]; rfl
        have HU2 := Lib.hid hU
        clear hU e10
        go_wp2_with fail
        go_round
        case rel => exact ⟨k + 1, f, true, by omega, by omega, by go_num, rfl, HU2⟩
        case measure => simp [intOf]; omega
      · have n10 : ¬ c.toNat = 10 := fun h => e10 (u8_eq.2 h)
        have q10 : ((c.toNat : Int) == 10) = false := by rw [beq_eq_false_iff_ne]; omega
        by_cases eb : c = 32 ∨ c = 9 ∨ c = 13
        · rw [gap_blank e10 eb] at hU
          have HU2 := Lib.hid hU
          have qb : ((c.toNat : Int) == 32) = true ∨ (((c.toNat : Int) == 32) = false ∧ ((c.toNat : Int) == 9) = true) ∨ (((c.toNat : Int) == 32) = false ∧ ((c.toNat : Int) == 9) = false ∧ ((c.toNat : Int) == 13) = true) := by
            rcases eb with rfl | rfl | rfl
            · left; rfl
            · right; left; exact ⟨rfl, rfl⟩
            · right; right; exact ⟨rfl, rfl, rfl⟩
          clear hU e10 eb n10
          rcases qb with qb | ⟨qb, qc⟩ | ⟨qb, qc, qd⟩
          all_goals
            go_wp2_with fail
            go_round
            case rel => exact ⟨k + 1, f, bb, by omega, by omega, by go_num, rfl, HU2⟩
            case measure => simp [intOf]; omega
        · have q32 : ((c.toNat : Int) == 32) = false := by rw [beq_eq_false_iff_ne]; intro h; exact eb (Or.inl (u8_eq.2 (by show c.toNat = 32; omega)))
          have q9 : ((c.toNat : Int) == 9) = false := by rw [beq_eq_false_iff_ne]; intro h; exact eb (Or.inr (Or.inl (u8_eq.2 (by show c.toNat = 9; omega))))
          have q13 : ((c.toNat : Int) == 13) = false := by rw [beq_eq_false_iff_ne]; intro h; exact eb (Or.inr (Or.inr (u8_eq.2 (by show c.toNat = 13; omega))))
          have hlp := ll_pos (m := s.data.toList.drop (k + 1)) e10
          rw [HGO.out] at hlp
          have HLL : Hid (∀ w, Calls Tryd.prog 37 #[.string x] w fun e w' => e = .returned (.int .i64 ((ll (c :: s.data.toList.drop (k + 1)) : Nat) : Int)) ∧ w = w') := fun w => by
            have := lineLen_any x (by have := HXZ.out; omega) w
            rw [HXL.out] at this; exact this
          have HP1 : Hid (∀ w, Calls Tryd.prog 32 #[.string x, .string ⟨#[47, 47]⟩] w fun e w' => e = .returned (.bool (Lib.hasPrefix (c :: s.data.toList.drop (k + 1)) [47, 47])) ∧ w = w') := fun w => by
            have := prefix_any x ⟨#[47, 47]⟩ w
            rw [HXL.out] at this; exact this
          have HP2 : Hid (∀ w, Calls Tryd.prog 32 #[.string x, .string ⟨#[47, 42]⟩] w fun e w' => e = .returned (.bool (Lib.hasPrefix (c :: s.data.toList.drop (k + 1)) [47, 42])) ∧ w = w') := fun w => by
            have := prefix_any x ⟨#[47, 42]⟩ w
            rw [HXL.out] at this; exact this
          by_cases e35 : c = 35
          · have q35 : ((c.toNat : Int) == 35) = true := by rw [e35]; rfl
            rw [gap_note e10 eb (Or.inl e35), HDD.out] at hU
            have HU2 := Lib.hid hU
            generalize ll (c :: s.data.toList.drop (k + 1)) = g at *
            clear hU e10 eb n10 e35
            go_wp2_with fail
            refine (HLL.out _).mono ?_
            rintro e w' ⟨rfl, rfl⟩
            go_wp2_with fail
            go_round
            case rel => exact ⟨k + g, f, bb, by omega, by omega, by go_num, rfl, HU2⟩
            case measure => simp [intOf]; omega
          · have q35 : ((c.toNat : Int) == 35) = false := by rw [beq_eq_false_iff_ne]; intro h; exact e35 (u8_eq.2 (by show c.toNat = 35; omega))
            by_cases p1 : Lib.hasPrefix (c :: s.data.toList.drop (k + 1)) [47, 47] = true
            · rw [gap_note e10 eb (Or.inr p1), HDD.out] at hU
              rw [p1] at HP1
              have HU2 := Lib.hid hU
              generalize ll (c :: s.data.toList.drop (k + 1)) = g at *
              clear hU e10 eb n10 e35 p1
              go_wp2_with fail
              refine (HP1.out _).mono ?_
              rintro e w' ⟨rfl, rfl⟩
              go_wp2_with fail
              refine (HLL.out _).mono ?_
              rintro e w' ⟨rfl, rfl⟩
              go_wp2_with fail
              go_round
              case rel => exact ⟨k + g, f, bb, by omega, by omega, by go_num, rfl, HU2⟩
              case measure => simp [intOf]; omega
            · have p1' : Lib.hasPrefix (c :: s.data.toList.drop (k + 1)) [47, 47] = false := by simpa using p1
              rw [p1'] at HP1
              have e3 : ¬ (c = 35 ∨ Lib.hasPrefix (c :: s.data.toList.drop (k + 1)) [47, 47] = true) := fun h => h.elim e35 p1
              by_cases p2 : Lib.hasPrefix (c :: s.data.toList.drop (k + 1)) [47, 42] = true
              · rw [p2] at HP2
                have h2x : 2 ≤ x.size := by
                  have := p2
                  unfold Lib.hasPrefix at this
                  have := (List.isPrefixOf_iff_prefix.1 this).length_le
                  rw [HGO.out] at this
                  have h3 : ([47, 42] : List UInt8).length = 2 := rfl
                  rw [HXZ.out]; omega
                have HNL : Hid (∀ w, w.cell? ⟨0, 0, none⟩ = some (.int .i64 m) → Calls Tryd.prog 38 #[.string x] w fun e w' => e = .returned (.int .i64 ((nl (c :: s.data.toList.drop (k + 1)) : Nat) : Int)) ∧ w = w') := fun w hm => by
                  have := noteLen_any x (by have := HXZ.out; omega) h2x m w hm
                  rw [HXL.out] at this; exact this
                have hnle := nl_le (c :: s.data.toList.drop (k + 1))
                rw [HGO.out] at hnle
                by_cases hn : nl (c :: s.data.toList.drop (k + 1)) = 0
                · rw [gap_open e10 eb e3 p2 hn] at hU
                  rw [hn] at HNL
                  have HU2 := Lib.hid hU
                  clear hU e10 eb n10 e35 p1 p1' p2 e3 hn hnle h2x
                  go_wp2_with fail
                  refine (HP1.out _).mono ?_
                  rintro e w' ⟨rfl, rfl⟩
                  go_wp2_with fail
                  refine (HP2.out _).mono ?_
                  rintro e w' ⟨rfl, rfl⟩
                  go_wp2_with fail
                  refine (HNL.out _ HM.out).mono ?_
                  rintro e w' ⟨rfl, rfl⟩
                  go_wp2_with fail
                  (try rw [Exit.noGoto_ret])
                  refine bodyPost_ret (results_three rfl _ _) rfl ⟨?_, rfl⟩
                  rw [HU2.out]; rfl
                · have hn4 := nl_some hn
                  rw [gap_long e10 eb e3 p2 hn, HDD.out] at hU
                  have HCT : Hid (∀ w, Calls Tryd.prog 39 #[.string (x.extract 0 (nl (c :: s.data.toList.drop (k + 1)))), .string ⟨#[10]⟩] w fun e w' => e = .returned (.bool (((c :: s.data.toList.drop (k + 1)).take (nl (c :: s.data.toList.drop (k + 1)))).contains 10)) ∧ w = w') := fun w => by
                    have := contains_ten (x.extract 0 (nl (c :: s.data.toList.drop (k + 1)))) w
                    rw [take_list, HXL.out] at this; exact this
                  have hn0 : (((nl (c :: s.data.toList.drop (k + 1)) : Nat) : Int) == 0) = false := by rw [beq_eq_false_iff_ne]; omega
                  have HU2 := Lib.hid hU
                  have hgx : nl (c :: s.data.toList.drop (k + 1)) ≤ x.size := by rw [HXZ.out]; exact hnle
                  generalize ((c :: s.data.toList.drop (k + 1)).take (nl (c :: s.data.toList.drop (k + 1)))).contains 10 = t10 at *
                  generalize nl (c :: s.data.toList.drop (k + 1)) = g at *
                  clear hU e10 eb n10 e35 p1 p1' p2 e3 hn h2x
                  cases bb
                  · go_wp2_with fail
                    refine (HP1.out _).mono ?_
                    rintro e w' ⟨rfl, rfl⟩
                    go_wp2_with fail
                    refine (HP2.out _).mono ?_
                    rintro e w' ⟨rfl, rfl⟩
                    go_wp2_with fail
                    refine (HNL.out _ HM.out).mono ?_
                    rintro e w' ⟨rfl, rfl⟩
                    go_wp2_with fail
                    refine (HCT.out _).mono ?_
                    rintro e w' ⟨rfl, rfl⟩
                    go_wp2_with fail
                    go_round
                    case rel => exact ⟨k + g, f, t10, by omega, by omega, by go_num, by simp, by rw [Bool.false_or] at HU2; exact HU2⟩
                    case measure => simp [intOf]; omega
                  · go_wp2_with fail
                    refine (HP1.out _).mono ?_
                    rintro e w' ⟨rfl, rfl⟩
                    go_wp2_with fail
                    refine (HP2.out _).mono ?_
                    rintro e w' ⟨rfl, rfl⟩
                    go_wp2_with fail
                    refine (HNL.out _ HM.out).mono ?_
                    rintro e w' ⟨rfl, rfl⟩
                    go_wp2_with fail
                    go_round
                    case rel => exact ⟨k + g, f, true, by omega, by omega, by go_num, rfl, by rw [Bool.true_or] at HU2; exact HU2⟩
                    case measure => simp [intOf]; omega
              · have p2' : Lib.hasPrefix (c :: s.data.toList.drop (k + 1)) [47, 42] = false := by simpa using p2
                rw [p2'] at HP2
                rw [gap_end e10 eb e3 p2] at hU
                have HU2 := Lib.hid hU
                clear hU e10 eb n10 e35 p1 p1' p2 p2' e3
                go_wp2_with fail
                refine (HP1.out _).mono ?_
                rintro e w' ⟨rfl, rfl⟩
                go_wp2_with fail
                refine (HP2.out _).mono ?_
                rintro e w' ⟨rfl, rfl⟩
                go_wp2_with fail
                (try rw [Exit.noGoto_ret])
                refine bodyPost_ret (results_three rfl _ _) rfl ⟨?_, rfl⟩
                rw [HU2.out]; rfl
    · have hR2 : R = (k, bb, true) := by rw [HU.out, drop_end s k (by omega), gap_nil]
      have HR2 := Lib.hid hR2
      clear hR2
      go_wp2_with fail
      (try rw [Exit.noGoto_ret])
      refine bodyPost_ret (results_three rfl _ _) rfl ⟨?_, rfl⟩
      rw [HR2.out]; rfl
end Go.Proofs.YthjmlgbnpnfkgaaDoor.Lx
