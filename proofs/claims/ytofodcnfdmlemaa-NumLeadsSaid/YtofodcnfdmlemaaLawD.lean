/- The walk of dreylaw01.NumTexts. -/
import Derived.Test.YtofodcnfdmlemaaLawB
import Derived.Test.YtofodcnfdmlemaaTxt
namespace Go.Proofs.Ytofodcnfdmlemaa
open Go.RowKit Go.ChangeShapes Go.WideShapes Go.ChangeAt

theorem A.strFrom1 (s : ByteArray) (h : 1 ≤ s.size) (w : World) :
    (Instr.sliceAt 9 (.string s) (some (.int .i64 1)) none none).run Try.prog w = .ok (.string (s.extract 1 s.size)) w := by
  rw [run_sliceAt_string w 9 _ _ _ _ Try.underlying9, run_slice_string_l w 9 _ Try.underlying9 .i64 1 (by omega) (by omega)]
  rfl

theorem some_bytes (s : ByteArray) (h : 0 < s.size) : s.toList.isEmpty = false := by
  rw [ByteArray.toList_eq]
  have e : s.data.toList.length = s.size := by simp
  cases hl : s.data.toList with
  | nil => rw [hl] at e; simp at e; omega
  | cons _ _ => rfl
set_option maxHeartbeats 1000000 in
theorem texts_out (a base : Int) (hb : base < 2 ∨ 36 < base) (w : World) :
    Calls Try.prog 6 #[.int .i64 a, .int .i64 base] w fun e w' => e = .returned (.bool true) ∧ Below w.heap.size w w' := by
  have HI := Lib.hid fun w => in_no a base hb w
  have HP := Lib.hid fun s w => parse_no s base hb w
  rcases hb with hb | hb
  all_goals
    go_enter Try.func6, Try.ntmps6
    go_wp2_with fail
    refine (reckons_any _).mono ?_
    rintro e w1 ⟨rfl, hbe⟩
    go_wp2_with fail
    refine (HI.out _).mono ?_
    rintro e w2 ⟨rfl, rfl⟩
    go_wp2_with fail
    refine (HP.out _ _).mono ?_
    rintro e w2 ⟨rfl, rfl⟩
    go_wp2_with fail
    go_ret
    exact ⟨rfl, hbe⟩

set_option maxRecDepth 100000 in
set_option maxHeartbeats 2000000 in
theorem texts_pos (a : Int) (base : Nat) (S : ByteArray) (ha : 0 ≤ a) (hb1 : 2 ≤ base) (hb2 : base ≤ 36)
    (hin : ∀ w, Calls Try.prog 30 #[.int .i64 a, .int .i64 (base : Int)] w fun e w' => e = .returned (.tuple #[.string S, .int .i64 0]) ∧ Below w.heap.size w w')
    (hparse : ∀ w, Calls Try.prog 31 #[.string S, .int .i64 (base : Int)] w fun e w' => e = .returned (.tuple #[.int .i64 a, .int .i64 0]) ∧ w = w')
    (htext : ∀ w, base = 10 → Calls Try.prog 32 #[.int .i64 a] w fun e w' => e = .returned (.string S) ∧ Below w.heap.size w w')
    (hS : 0 < S.size) (_ : S.size ≤ 65) (hm : ¬ (S[0]).toNat = 45) (HG : Digits base S) (w : World) :
    Calls Try.prog 6 #[.int .i64 a, .int .i64 (base : Int)] w fun e w' => e = .returned (.bool true) ∧ Below w.heap.size w w' := by
  have HI := Lib.hid hin
  have HP := Lib.hid hparse
  have HT := Lib.hid htext
  clear hin hparse htext
  have hne := some_bytes S hS
  have hb0 : (((S[0]).toNat : Int) == 45) = false := by simp; omega
  have hD0 := HG.some
  have hD1 := HG.few
  have hneD := some_bytes S hD0
  have start : (S.size = 1 ∧ Hid True) ∨ (1 < S.size ∧ Hid (((((S[0]'hD0).toNat : Nat) : Int) == 48) = false)) := by
    rcases Nat.lt_or_ge 1 S.size with h | h
    · exact .inr ⟨h, by have := HG.lead h; simp [Hid]; omega⟩
    · exact .inl ⟨by omega, trivial⟩
  have last : (Hid (base = 10) ∧ ((base : Int) != 10) = false) ∨ ((base : Int) != 10) = true := by
    by_cases h : base = 10
    · exact .inl ⟨h, by simp; omega⟩
    · exact .inr (by simp; omega)
  have HL := Lib.hid last
  clear last hm
  have hD01 : 1 ≤ S.size := hD0
  have step : ∀ (wr : World), Hid (Below w.heap.size w wr) → True := fun _ _ => trivial
  clear step
  rcases start with ⟨h1, h2⟩ | ⟨h1, h2⟩
  · clear h2
    have h3 : S.size ≤ 1 := by omega
    have h4 : 1 ≤ S.size := by omega
    clear h1
    go_enter Try.func6, Try.ntmps6
    go_wp2_with fail
    refine (reckons_any _).mono ?_
    rintro e w1 ⟨rfl, hbe⟩
    go_wp2_with fail
    refine (HI.out _).mono ?_
    rintro e w2 ⟨rfl, hbi⟩
    go_wp2_with fail
    refine (HP.out _).mono ?_
    rintro e w3 ⟨rfl, rfl⟩
    go_wp2_with fail
    go_loop [12, 13, 96] (fun _ _ i => ∃ k : Nat, k ≤ S.size ∧ i = .int .i64 (k : Int)) (fun _ _ i => S.size - (intOf i).toNat)
    case atStart => exact ⟨0, by omega, rfl⟩
    case round =>
      obtain ⟨k, hk, rfl⟩ := hrel
      by_cases hlt : k < S.size
      · rcases HG.each k hlt with ⟨c1, c2, c3⟩ | ⟨c1, c2, c3⟩
        · go_wp2_with fail
          go_round
          case rel => exact ⟨k + 1, by omega, by go_num⟩
          case measure => simp [intOf]; omega
        · go_wp2_with fail
          go_round
          case rel => exact ⟨k + 1, by omega, by go_num⟩
          case measure => simp [intOf]; omega
      · rcases HL.out with ⟨l1, l2⟩ | l2
        · go_wp2_with fail
          refine (HT.out _ l1.out).mono ?_
          rintro e w4 ⟨rfl, hbt⟩
          go_wp2_with fail
          go_ret
          exact ⟨ret_bool (by simp), (hbe.trans (hbi.mono hbe.size)).trans (hbt.mono (Nat.le_trans hbe.size hbi.size))⟩
        · go_wp2_with fail
          go_ret
          exact ⟨rfl, hbe.trans (hbi.mono hbe.size)⟩
  · have h3 := h2.out
    clear h2
    go_enter Try.func6, Try.ntmps6
    go_wp2_with fail
    refine (reckons_any _).mono ?_
    rintro e w1 ⟨rfl, hbe⟩
    go_wp2_with fail
    refine (HI.out _).mono ?_
    rintro e w2 ⟨rfl, hbi⟩
    go_wp2_with fail
    refine (HP.out _).mono ?_
    rintro e w3 ⟨rfl, rfl⟩
    go_wp2_with fail
    go_loop [12, 13, 96] (fun _ _ i => ∃ k : Nat, k ≤ S.size ∧ i = .int .i64 (k : Int)) (fun _ _ i => S.size - (intOf i).toNat)
    case atStart => exact ⟨0, by omega, rfl⟩
    case round =>
      obtain ⟨k, hk, rfl⟩ := hrel
      by_cases hlt : k < S.size
      · rcases HG.each k hlt with ⟨c1, c2, c3⟩ | ⟨c1, c2, c3⟩
        · go_wp2_with fail
          go_round
          case rel => exact ⟨k + 1, by omega, by go_num⟩
          case measure => simp [intOf]; omega
        · go_wp2_with fail
          go_round
          case rel => exact ⟨k + 1, by omega, by go_num⟩
          case measure => simp [intOf]; omega
      · rcases HL.out with ⟨l1, l2⟩ | l2
        · go_wp2_with fail
          refine (HT.out _ l1.out).mono ?_
          rintro e w4 ⟨rfl, hbt⟩
          go_wp2_with fail
          go_ret
          exact ⟨ret_bool (by simp), (hbe.trans (hbi.mono hbe.size)).trans (hbt.mono (Nat.le_trans hbe.size hbi.size))⟩
        · go_wp2_with fail
          go_ret
          exact ⟨rfl, hbe.trans (hbi.mono hbe.size)⟩

set_option maxRecDepth 100000 in
set_option maxHeartbeats 2000000 in
theorem texts_neg (a : Int) (base : Nat) (S D : ByteArray) (ha : a < 0) (hb1 : 2 ≤ base) (hb2 : base ≤ 36)
    (hin : ∀ w, Calls Try.prog 30 #[.int .i64 a, .int .i64 (base : Int)] w fun e w' => e = .returned (.tuple #[.string S, .int .i64 0]) ∧ Below w.heap.size w w')
    (hparse : ∀ w, Calls Try.prog 31 #[.string S, .int .i64 (base : Int)] w fun e w' => e = .returned (.tuple #[.int .i64 a, .int .i64 0]) ∧ w = w')
    (htext : ∀ w, base = 10 → Calls Try.prog 32 #[.int .i64 a] w fun e w' => e = .returned (.string S) ∧ Below w.heap.size w w')
    (hS : 0 < S.size) (_ : S.size ≤ 65) (hm : (S[0]).toNat = 45) (hsl : ∀ w, (Instr.sliceAt 9 (.string S) (some (.int .i64 1)) none none).run Try.prog w = .ok (.string D) w) (HG : Digits base D) (w : World) :
    Calls Try.prog 6 #[.int .i64 a, .int .i64 (base : Int)] w fun e w' => e = .returned (.bool true) ∧ Below w.heap.size w w' := by
  have HI := Lib.hid hin
  have HP := Lib.hid hparse
  have HT := Lib.hid htext
  clear hin hparse htext
  have hne := some_bytes S hS
  have hb0 : (((S[0]).toNat : Int) == 45) = true := by simp; omega
  have hD0 := HG.some
  have hD1 := HG.few
  have hneD := some_bytes D hD0
  have start : (D.size = 1 ∧ Hid True) ∨ (1 < D.size ∧ Hid (((((D[0]'hD0).toNat : Nat) : Int) == 48) = false)) := by
    rcases Nat.lt_or_ge 1 D.size with h | h
    · exact .inr ⟨h, by have := HG.lead h; simp [Hid]; omega⟩
    · exact .inl ⟨by omega, trivial⟩
  have last : (Hid (base = 10) ∧ ((base : Int) != 10) = false) ∨ ((base : Int) != 10) = true := by
    by_cases h : base = 10
    · exact .inl ⟨h, by simp; omega⟩
    · exact .inr (by simp; omega)
  have HL := Lib.hid last
  clear last hm
  have hD01 : 1 ≤ D.size := hD0
  have step : ∀ (wr : World), Hid (Below w.heap.size w wr) → True := fun _ _ => trivial
  clear step
  rcases start with ⟨h1, h2⟩ | ⟨h1, h2⟩
  · clear h2
    have h3 : D.size ≤ 1 := by omega
    have h4 : 1 ≤ D.size := by omega
    clear h1
    go_enter Try.func6, Try.ntmps6
    go_wp2_with fail
    refine (reckons_any _).mono ?_
    rintro e w1 ⟨rfl, hbe⟩
    go_wp2_with fail
    refine (HI.out _).mono ?_
    rintro e w2 ⟨rfl, hbi⟩
    go_wp2_with fail
    refine (HP.out _).mono ?_
    rintro e w3 ⟨rfl, rfl⟩
    go_wp2_with fail
    go_loop [12, 13, 96] (fun _ _ i => ∃ k : Nat, k ≤ D.size ∧ i = .int .i64 (k : Int)) (fun _ _ i => D.size - (intOf i).toNat)
    case atStart => exact ⟨0, by omega, rfl⟩
    case round =>
      obtain ⟨k, hk, rfl⟩ := hrel
      by_cases hlt : k < D.size
      · rcases HG.each k hlt with ⟨c1, c2, c3⟩ | ⟨c1, c2, c3⟩
        · go_wp2_with fail
          go_round
          case rel => exact ⟨k + 1, by omega, by go_num⟩
          case measure => simp [intOf]; omega
        · go_wp2_with fail
          go_round
          case rel => exact ⟨k + 1, by omega, by go_num⟩
          case measure => simp [intOf]; omega
      · rcases HL.out with ⟨l1, l2⟩ | l2
        · go_wp2_with fail
          refine (HT.out _ l1.out).mono ?_
          rintro e w4 ⟨rfl, hbt⟩
          go_wp2_with fail
          go_ret
          exact ⟨ret_bool (by simp), (hbe.trans (hbi.mono hbe.size)).trans (hbt.mono (Nat.le_trans hbe.size hbi.size))⟩
        · go_wp2_with fail
          go_ret
          exact ⟨rfl, hbe.trans (hbi.mono hbe.size)⟩
  · have h3 := h2.out
    clear h2
    go_enter Try.func6, Try.ntmps6
    go_wp2_with fail
    refine (reckons_any _).mono ?_
    rintro e w1 ⟨rfl, hbe⟩
    go_wp2_with fail
    refine (HI.out _).mono ?_
    rintro e w2 ⟨rfl, hbi⟩
    go_wp2_with fail
    refine (HP.out _).mono ?_
    rintro e w3 ⟨rfl, rfl⟩
    go_wp2_with fail
    go_loop [12, 13, 96] (fun _ _ i => ∃ k : Nat, k ≤ D.size ∧ i = .int .i64 (k : Int)) (fun _ _ i => D.size - (intOf i).toNat)
    case atStart => exact ⟨0, by omega, rfl⟩
    case round =>
      obtain ⟨k, hk, rfl⟩ := hrel
      by_cases hlt : k < D.size
      · rcases HG.each k hlt with ⟨c1, c2, c3⟩ | ⟨c1, c2, c3⟩
        · go_wp2_with fail
          go_round
          case rel => exact ⟨k + 1, by omega, by go_num⟩
          case measure => simp [intOf]; omega
        · go_wp2_with fail
          go_round
          case rel => exact ⟨k + 1, by omega, by go_num⟩
          case measure => simp [intOf]; omega
      · rcases HL.out with ⟨l1, l2⟩ | l2
        · go_wp2_with fail
          refine (HT.out _ l1.out).mono ?_
          rintro e w4 ⟨rfl, hbt⟩
          go_wp2_with fail
          go_ret
          exact ⟨ret_bool (by simp), (hbe.trans (hbi.mono hbe.size)).trans (hbt.mono (Nat.le_trans hbe.size hbi.size))⟩
        · go_wp2_with fail
          go_ret
          exact ⟨rfl, hbe.trans (hbi.mono hbe.size)⟩

theorem numTexts_walk (a base : Int) (ha : (Lit.int .i64 a).wf = true) (_ : (Lit.int .i64 base).wf = true) (w : World) :
    Calls Try.prog 6 #[.int .i64 a, .int .i64 base] w fun e w' => e = .returned (.bool true) ∧ Below w.heap.size w w' := by
  obtain ⟨ha1, ha2⟩ := i64_range ha
  by_cases hb : base < 2 ∨ 36 < base
  · exact texts_out a base hb w
  · obtain ⟨b, rfl⟩ := Int.eq_ofNat_of_zero_le (a := base) (by omega)
    have hb1 : 2 ≤ b := by omega
    have hb2 : b ≤ 36 := by omega
    clear hb
    obtain ⟨S, hS⟩ : ∃ S : ByteArray, S = ⟨(txt a b).toArray⟩ := ⟨_, rfl⟩
    have hin := fun w => in_yes a ha1 ha2 b hb1 hb2 w
    rw [← hS] at hin
    have htext : ∀ w, b = 10 → Calls Try.prog 32 #[.int .i64 a] w fun e w' => e = .returned (.string S) ∧ Below w.heap.size w w' := fun w h => by
      subst h; rw [hS]; exact text_any a ha1 ha2 w
    have hdat : S.data.toList = txt a b := by rw [hS]
    have hsz : S.size = (txt a b).length := by rw [← hdat]; simp
    have hlen := ds_len b 63 a.natAbs
    have hpos := List.length_pos_iff.2 (ds_ne b 63 a.natAbs)
    have hn : a.natAbs ≤ 9223372036854775808 := by omega
    have hrd := rdv_ds b hb1 hb2 a.natAbs hn
    by_cases hs : a < 0
    · have ht : txt a b = 45 :: ds b 63 a.natAbs := by unfold txt; rw [if_pos hs]; rfl
      rw [ht] at hdat hsz
      simp only [List.length_cons] at hsz
      have h0 : 0 < S.size := by omega
      have hd1 : S.data.toList.drop 1 = ds b 63 a.natAbs := by rw [hdat]; rfl
      have h45 : (S[0]).toNat = 45 := by
        have h1 := drop_byte S 0 h0
        rw [List.drop_zero, hdat] at h1
        rw [← (List.cons.inj h1).1]; rfl
      have hparse := fun w => parse_below S (by unfold maxLen; omega) h0 h45 b hb1 hb2 w
      rw [hd1, hrd, pv_below] at hparse
      have e : -((a.natAbs : Nat) : Int) = a := by omega
      rw [e] at hparse
      have hD : (S.extract 1 S.size).data.toList = ds b 63 a.natAbs := by rw [Lib.extract_to_end]; exact hd1
      exact texts_neg a b S (S.extract 1 S.size) hs hb1 hb2 hin hparse htext h0 (by omega) h45 (A.strFrom1 S (by omega)) (digits_ds b hb1 hb2 a.natAbs hn _ hD) w
    · have ht : txt a b = ds b 63 a.natAbs := by unfold txt; rw [if_neg hs]; rfl
      rw [ht] at hdat hsz
      have h0 : 0 < S.size := by omega
      have HG := digits_ds b hb1 hb2 a.natAbs hn _ hdat
      have h45 : ¬ (S[0]).toNat = 45 := by rcases HG.each 0 h0 with h | h <;> omega
      have hparse := fun w => parse_bare S (by unfold maxLen; omega) (fun _ => h45) b hb1 hb2 w
      rw [hdat, hrd, pv_above _ (by omega)] at hparse
      have e : ((a.natAbs : Nat) : Int) = a := by omega
      rw [e] at hparse
      exact texts_pos a b S (by omega) hb1 hb2 hin hparse htext h0 (by omega) h45 HG w
end Go.Proofs.Ytofodcnfdmlemaa
