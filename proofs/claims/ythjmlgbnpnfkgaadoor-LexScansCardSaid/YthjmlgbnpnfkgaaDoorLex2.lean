/- Contracts of lex.hex, number. -/
import Derived.Test.YthjmlgbnpnfkgaaDoorLex1
import Derived.Test.YthjmlgbnpnfkgaaDoorNum3
set_option linter.unusedVariables false
namespace Go.Proofs.YthjmlgbnpnfkgaaDoor.Lx
open Go.RowKit Go.ChangeShapes Go.WideShapes Go.ChangeAt Go.Proofs.YthjmlgbnpnfkgaaDoor.Nu

theorem left32_any (a : Int) (w : World) : Calls Tryd.prog 80 #[.int .i64 a, .int .i64 32] w fun e w' => e = .returned (.int .i64 (wrap64 (a * 4294967296))) ∧ w = w' := by
  have h : bits .and .i64 32 63 = 32 := by decide
  go_enter Tryd.func80, Tryd.ntmps80
  go_wp2
  go_ret
  exact ⟨rfl, rfl⟩
theorem or_any (a b : Int) (w : World) : Calls Tryd.prog 79 #[.int .i64 a, .int .i64 b] w fun e w' => e = .returned (.int .i64 (bits .or .i64 a b)) ∧ w = w' := by
  go_enter Tryd.func79, Tryd.ntmps79
  go_wp2
  go_ret
  exact ⟨rfl, rfl⟩
theorem pow_le {j : Nat} (h : j ≤ 14) : 16 ^ j ≤ 72057594037927936 := Nat.le_trans (Nat.pow_le_pow_right (by decide) h) (by decide)
theorem pow_le15 {j : Nat} (h : j ≤ 15) : 16 ^ j ≤ 1152921504606846976 := Nat.le_trans (Nat.pow_le_pow_right (by decide) h) (by decide)
theorem rd_len : ∀ (l : List UInt8) (n j m e : Nat), rd 16 l n false = (m, e) → n < 16 ^ j → (e = 11 ∨ m = 9223372036854775808) → 16 ≤ j + l.length
  | [], n, j, m, e, h, hn, he => by
    rw [rd, if_neg (by simp)] at h
    simp only [Prod.mk.injEq] at h
    obtain ⟨rfl, rfl⟩ := h
    rcases he with he | rfl
    · omega
    · by_cases hj : j ≤ 15
      · have := pow_le15 hj; omega
      · omega
  | c :: l, n, j, m, e, h, hn, he => by
    by_cases h1 : 16 ≤ dv c.toNat
    · rw [rd_bad _ _ _ _ _ h1] at h
      simp only [Prod.mk.injEq] at h
      omega
    · by_cases h2 : (9223372036854775808 - dv c.toNat) / 16 < n
      · by_cases hj : j ≤ 14
        · have := pow_le hj; omega
        · rw [List.length_cons]; omega
      · rw [rd_more _ _ _ _ (by omega) h2] at h
        have := rd_len l (n * 16 + dv c.toNat) (j + 1) m e h (by rw [Nat.pow_succ]; omega) he
        rw [List.length_cons]; omega
theorem rd_zero (l : List UInt8) : rd 16 (48 :: l) 0 false = rd 16 l 0 false := by
  rw [rd_more 16 48 l 0 (by decide) (by decide)]; rfl
theorem rd_trim : ∀ l : List UInt8, rd 16 (Lib.trimLeftB l 48) 0 false = rd 16 l 0 false
  | [] => rfl
  | c :: l => by
    by_cases h : c = 48
    · subst h
      rw [rd_zero, ← rd_trim l]
      simp [Lib.trimLeftB]
    · have : Lib.trimLeftB (c :: l) 48 = c :: l := by simp [Lib.trimLeftB, h]
      rw [this]
/-- The number of digits to the base 16. -/
def p16 (l : List UInt8) : Int × Nat := pv false (rdv 16 l)
theorem p16_len {l : List UInt8} (h : (p16 l).2 = 11) : 16 ≤ (Lib.trimLeftB l 48).length := by
  unfold p16 rdv at h
  by_cases hl : l = []
  · rw [if_pos hl, pv_bad _ _ _ (by decide)] at h; cases h
  · rw [if_neg hl, ← rd_trim] at h
    generalize hr : rd 16 (Lib.trimLeftB l 48) 0 false = r at h
    obtain ⟨m, e⟩ := r
    have := rd_len (Lib.trimLeftB l 48) 0 0 m e hr (by decide) (by
      unfold pv at h
      by_cases he : e = 0
      · rw [if_pos he, if_neg (by simp)] at h
        by_cases hm : m = 9223372036854775808
        · exact Or.inr hm
        · rw [if_neg hm] at h; cases h
      · rw [if_neg he] at h; exact Or.inl h)
    omega
/-- The number of digits behind 0x. -/
def hexV (l : List UInt8) : Int × Nat :=
  if (p16 l).2 = 11 then (if 16 < (Lib.trimLeftB l 48).length then (0, 11) else (bits .or .i64 (wrap64 ((p16 ((Lib.trimLeftB l 48).take 8)).1 * 4294967296)) (p16 ((Lib.trimLeftB l 48).drop 8)).1, 0)) else p16 l
theorem parse16 (s : ByteArray) (hs : s.size ≤ 1048576) (hno : (45 : UInt8) ∉ s.data.toList) (w : World) :
    Calls Tryd.prog 69 #[.string s, .int .i64 16] w fun e w' => e = .returned (.tuple #[.int .i64 (p16 s.data.toList).1, .int .i64 (((p16 s.data.toList).2 : Nat) : Int)]) ∧ w = w' :=
  parse_bare s (by unfold maxLen; omega) (fun h h2 => hno (by
    have hd := drop_byte s 0 h
    rw [List.drop_zero] at hd
    have : s[0] = 45 := UInt8.toNat_inj.1 h2
    rw [hd, this]; exact List.mem_cons_self)) 16 (by decide) (by decide) w
theorem trim_mem {l : List UInt8} {c : UInt8} (h : c ∉ l) : c ∉ Lib.trimLeftB l 48 := fun hm => h (List.dropWhile_sublist _ |>.subset hm)
theorem trim_len (l : List UInt8) : (Lib.trimLeftB l 48).length ≤ l.length := (List.dropWhile_sublist _).length_le
set_option maxRecDepth 100000 in
set_option maxHeartbeats 1000000 in
theorem hex_any (s : ByteArray) (hs : s.size ≤ 1048576) (hno : (45 : UInt8) ∉ s.data.toList) (w : World) :
    Calls Tryd.prog 68 #[.string s] w fun e w' => e = .returned (.tuple #[.int .i64 (hexV s.data.toList).1, .int .i64 (((hexV s.data.toList).2 : Nat) : Int)]) ∧ w = w' := by
  have HP := Lib.hid fun w => parse16 s hs hno w
  unfold hexV
  by_cases h11 : (p16 s.data.toList).2 = 11
  · have h16 := p16_len h11
    rw [if_pos h11]
    have htl := trim_len s.data.toList
    rw [size_list] at htl
    have htm := trim_mem hno
    have HT : Hid (∀ w, Calls Tryd.prog 78 #[.string s, .string ⟨#[48]⟩] w fun e w' => e = .returned (.string ⟨(Lib.trimLeftB s.data.toList 48).toArray⟩) ∧ w = w') := fun w => (Tryd.strings_TrimLeft_one s 48 (by decide) w).mono fun e w' ⟨h1, h2⟩ => ⟨h1, h2.symm⟩
    obtain ⟨t, ht⟩ : ∃ t : ByteArray, t.data.toList = Lib.trimLeftB s.data.toList 48 := ⟨⟨(Lib.trimLeftB s.data.toList 48).toArray⟩, by simp⟩
    rw [← ht] at HT htl h16 htm ⊢
    have hmk : (⟨t.data.toList.toArray⟩ : ByteArray) = t := Lib.mk_data t
    rw [hmk] at HT
    rw [size_list] at htl h16 ⊢
    rw [h11] at HP
    generalize (p16 s.data.toList).1 = v at HP
    clear hmk ht h11
    by_cases hg : 16 < t.size
    · rw [if_pos hg]
      go_enter Tryd.func68, Tryd.ntmps68
      go_wp2_with fail
      refine (HP.out _).mono ?_
      rintro e w' ⟨rfl, rfl⟩
      go_wp2_with fail
      refine (HT.out _).mono ?_
      rintro e w' ⟨rfl, rfl⟩
      go_wp2_with fail
      go_ret2
      exact ⟨rfl, rfl⟩
    · rw [if_neg hg]
      have e1 : (t.extract 0 8).data.toList = t.data.toList.take 8 := by rw [Lib.extract_data]; rfl
      have e2 : (t.extract 8 t.size).data.toList = t.data.toList.drop 8 := by rw [Lib.extract_data]; exact List.take_of_length_le (by simp)
      have HP1 := Lib.hid fun w => parse16 (t.extract 0 8) (by simp; omega) (by rw [e1]; exact fun h => htm (List.mem_of_mem_take h)) w
      have HP2 := Lib.hid fun w => parse16 (t.extract 8 t.size) (by simp; omega) (by rw [e2]; exact fun h => htm (List.mem_of_mem_drop h)) w
      rw [e1] at HP1
      rw [e2] at HP2
      generalize p16 (t.data.toList.take 8) = q1 at *
      generalize p16 (t.data.toList.drop 8) = q2 at *
      obtain ⟨a1, b1⟩ := q1
      obtain ⟨a2, b2⟩ := q2
      have hsz : t.size = 16 := by omega
      clear e1 e2 htm h16 hg htl
      go_enter Tryd.func68, Tryd.ntmps68
      go_wp2_with fail
      refine (HP.out _).mono ?_
      rintro e w' ⟨rfl, rfl⟩
      go_wp2_with fail
      refine (HT.out _).mono ?_
      rintro e w' ⟨rfl, rfl⟩
      go_wp2_with fail
      refine (HP1.out _).mono ?_
      rintro e w' ⟨rfl, rfl⟩
      go_wp2_with fail
      rw [hsz] at HP2
      refine (HP2.out _).mono ?_
      rintro e w' ⟨rfl, rfl⟩
      go_wp2_with fail
      refine (left32_any _ _).mono ?_
      rintro e w' ⟨rfl, rfl⟩
      go_wp2_with fail
      refine (or_any _ _ _).mono ?_
      rintro e w' ⟨rfl, rfl⟩
      go_wp2_with fail
      go_ret2
      exact ⟨rfl, rfl⟩
  · rw [if_neg h11]
    have h11' : ((((p16 s.data.toList).2 : Nat) : Int) != 11) = true := by rw [bne_iff_ne]; omega
    generalize p16 s.data.toList = q at *
    obtain ⟨v, er⟩ := q
    simp only at h11' h11 HP ⊢
    have h12 : ¬ (er : Int) = 11 := by omega
    clear h11
    go_enter Tryd.func68, Tryd.ntmps68
    go_wp2_with fail
    refine (HP.out _).mono ?_
    rintro e w' ⟨rfl, rfl⟩
    go_wp2_with fail
    go_ret2
    exact ⟨rfl, rfl⟩
/-- The number that letters, low lines and digits tell. -/
def numV (l : List UInt8) : Int × Nat := if Lib.hasPrefix l [48, 120] = true then hexV (l.drop 2) else if l.head? = some 48 ∧ 1 < l.length then (0, 5) else pv false (rdv 10 l)
set_option maxRecDepth 100000 in
set_option maxHeartbeats 1000000 in
theorem number_any (s : ByteArray) (hs : s.size ≤ 1048576) (h0 : 0 < s.size) (hno : (45 : UInt8) ∉ s.data.toList) (w : World) :
    Calls Tryd.prog 57 #[.string s] w fun e w' => e = .returned (.tuple #[.int .i64 (numV s.data.toList).1, .int .i64 (((numV s.data.toList).2 : Nat) : Int)]) ∧ w = w' := by
  have HC : Hid (∀ w, Calls Tryd.prog 67 #[.string s, .string ⟨#[48, 120]⟩] w fun e w' => e = .returned (.tuple #[.string ⟨(Lib.trimPrefix s.data.toList [48, 120]).toArray⟩, .bool (Lib.hasPrefix s.data.toList [48, 120])]) ∧ w = w') := fun w => (Tryd.strings_CutPrefix s ⟨#[48, 120]⟩ w).mono fun e w' ⟨h1, h2⟩ => ⟨h1, h2.symm⟩
  have hd0 := drop_byte s 0 h0
  rw [List.drop_zero] at hd0
  have hhd : s.data.toList.head? = some s[0] := by rw [hd0]; rfl
  unfold numV
  unfold Lib.trimPrefix at HC
  by_cases hp : Lib.hasPrefix s.data.toList [48, 120] = true
  · rw [if_pos hp] at HC ⊢
    rw [hp] at HC
    obtain ⟨t, ht⟩ : ∃ t : ByteArray, t.data.toList = s.data.toList.drop 2 := ⟨⟨(s.data.toList.drop 2).toArray⟩, by simp⟩
    have ht2 : (⟨(s.data.toList.drop ([48, 120] : List UInt8).length).toArray⟩ : ByteArray) = t := by
      show (⟨(s.data.toList.drop 2).toArray⟩ : ByteArray) = t
      rw [← ht]
    rw [ht2] at HC
    have hts : t.size ≤ s.size := by rw [← size_list t, ht, List.length_drop, size_list]; omega
    have HH := Lib.hid fun w => hex_any t (by omega) (by rw [ht]; exact fun h => hno (List.mem_of_mem_drop h)) w
    rw [← ht]
    clear ht ht2 hd0 hhd hp
    go_enter Tryd.func57, Tryd.ntmps57
    go_wp2_with fail
    refine (HC.out _).mono ?_
    rintro e w' ⟨rfl, rfl⟩
    go_wp2_with fail
    refine (HH.out _).mono ?_
    rintro e w' ⟨rfl, rfl⟩
    go_wp2_with fail
    go_ret2
    exact ⟨rfl, rfl⟩
  · rw [if_neg hp] at HC ⊢
    have hp2 : Lib.hasPrefix s.data.toList [48, 120] = false := by simpa using hp
    rw [hp2, show (⟨s.data.toList.toArray⟩ : ByteArray) = s from Lib.mk_data s] at HC
    rw [hhd, size_list]
    have h256 := byte_lt s 0 h0
    have h48 : (s[0] = 48) ↔ s[0].toNat = 48 := by rw [← UInt8.toNat_inj]; rfl
    by_cases h1 : s[0].toNat = 48
    · have hb : ((s[0].toNat : Int) == 48) = true := by rw [beq_iff_eq]; omega
      by_cases h2 : 1 < s.size
      · rw [if_pos ⟨by rw [h48.2 h1], h2⟩]
        clear hp hp2 hd0 hhd h48
        go_enter Tryd.func57, Tryd.ntmps57
        go_wp2_with fail
        refine (HC.out _).mono ?_
        rintro e w' ⟨rfl, rfl⟩
        go_wp2_with fail
        go_ret2
        exact ⟨rfl, rfl⟩
      · rw [if_neg (fun h => h2 h.2)]
        have HP := Lib.hid fun w => parse_bare s (by unfold maxLen; omega) (fun h => by omega) 10 (by decide) (by decide) w
        clear hp hp2 hd0 hhd h48
        go_enter Tryd.func57, Tryd.ntmps57
        go_wp2_with fail
        refine (HC.out _).mono ?_
        rintro e w' ⟨rfl, rfl⟩
        go_wp2_with fail
        refine (HP.out _).mono ?_
        rintro e w' ⟨rfl, rfl⟩
        go_wp2_with fail
        go_ret2
        exact ⟨rfl, rfl⟩
    · have hb : ((s[0].toNat : Int) == 48) = false := by rw [beq_eq_false_iff_ne]; omega
      rw [if_neg (fun h => h1 (h48.1 (by simpa using h.1)))]
      have HP := Lib.hid fun w => parse_bare s (by unfold maxLen; omega) (fun h h2 => hno (by
        have : s[0] = 45 := UInt8.toNat_inj.1 h2
        rw [hd0, this]; exact List.mem_cons_self)) 10 (by decide) (by decide) w
      clear hp hp2 hd0 hhd h48
      go_enter Tryd.func57, Tryd.ntmps57
      go_wp2_with fail
      refine (HC.out _).mono ?_
      rintro e w' ⟨rfl, rfl⟩
      go_wp2_with fail
      refine (HP.out _).mono ?_
      rintro e w' ⟨rfl, rfl⟩
      go_wp2_with fail
      go_ret2
      exact ⟨rfl, rfl⟩
end Go.Proofs.YthjmlgbnpnfkgaaDoor.Lx
