/- LexGreat is true: the walk. -/
import Derived.Test.YtmlhknkeacpnhaaDoorLexA
set_option linter.unusedVariables false
namespace Go.Proofs.YtmlhknkeacpnhaaDoor.Lx
open Go.RowKit Go.ChangeShapes Go.WideShapes Go.ChangeAt Go.Proofs.YtmlhknkeacpnhaaDoor.Nu

theorem rep_cons (c : UInt8) (n : Nat) : Lib.repeatL [c] (n + 1) = c :: Lib.repeatL [c] n := rfl
theorem rep_len (c : UInt8) (n : Nat) : (Lib.repeatL [c] n).length = n := by rw [Lib.repeatL_length]; simp
theorem rep_drop (c : UInt8) (n e : Nat) (h : e ≤ n) : (Lib.repeatL [c] n).drop e = Lib.repeatL [c] (n - e) := by
  obtain ⟨k, rfl⟩ := Nat.exists_eq_add_of_le h
  rw [Lib.repeatL_add, Nat.add_sub_cancel_left]
  have := List.drop_left (l₁ := Lib.repeatL [c] e) (l₂ := Lib.repeatL [c] k)
  rwa [rep_len] at this
theorem gap_semi (f k a : Nat) (b : Bool) : gapF (f + 1) (Lib.repeatL [59] (k + 1)) a b = (a, b, true) := by
  rw [rep_cons]
  refine gap_end (by decide) (by decide) ?_ ?_
  · cases k <;> simp [Lib.hasPrefix, Lib.repeatL]
  · cases k <;> simp [Lib.hasPrefix, Lib.repeatL]
theorem gap_spaces : ∀ (k f a : Nat) (b : Bool), k ≤ f → gapF f (Lib.repeatL [32] k) a b = (a + k, b, true)
  | 0, f, a, b, _ => by rw [Lib.repeatL, gap_nil]; rfl
  | k + 1, 0, a, b, h => by omega
  | k + 1, f + 1, a, b, h => by
    rw [rep_cons, gap_blank (by decide) (by decide), gap_spaces k f (a + 1) b (by omega)]
    simp; omega
theorem sg_semi (k : Nat) : sg (Lib.repeatL [59] (k + 1)) = 1 := by
  refine sg_at (Nat.le_refl _) (by omega) (by rw [rep_len]; omega) (by rw [rep_cons, List.take_succ_cons, List.take_zero]; decide) ?_
  intro j h1 h2 h3
  rw [rep_len] at h3
  have hj : j = 2 ∨ j = 3 := by omega
  rcases hj with rfl | rfl
  · obtain ⟨q, rfl⟩ : ∃ q, k = q + 1 := ⟨k - 1, by omega⟩
    rw [rep_cons, rep_cons, List.take_succ_cons, List.take_succ_cons, List.take_zero]; decide
  · obtain ⟨q, rfl⟩ : ∃ q, k = q + 2 := ⟨k - 2, by omega⟩
    rw [rep_cons, rep_cons, rep_cons, List.take_succ_cons, List.take_succ_cons, List.take_succ_cons, List.take_zero]; decide
theorem frs_semi (k : Nat) : frs (Lib.repeatL [59] (k + 1)) = ⟨5, [59], 0, 1, 0, 0⟩ := by
  have h := sg_semi k
  rw [rep_cons] at h ⊢
  rw [frs_cons, if_neg (by decide), if_neg (by decide), if_neg (by decide)]
  unfold frS
  rw [h, if_neg (by decide)]
  rfl
theorem scanF_fit (N : Nat) (hN : N ≤ 65536) : ∀ (f e : Nat) (acc : List Tk), acc.length = e → e ≤ N → N + 1 ≤ f + e → ∃ L, scanF f (Lib.repeatL [59] N) e acc = (L, 0, 0)
  | 0, e, acc, h1, h2, h3 => by omega
  | f + 1, e, acc, h1, h2, h3 => by
    rw [scanF]
    unfold gap
    rw [rep_len, rep_drop _ _ _ h2]
    by_cases he : e = N
    · subst he
      rw [Nat.sub_self, Lib.repeatL, gap_nil, if_neg (by simp), if_pos rfl]
      exact ⟨_, rfl⟩
    · obtain ⟨k, hk⟩ : ∃ k, N - e = k + 1 := ⟨N - e - 1, by omega⟩
      obtain ⟨M, hM⟩ : ∃ M, N = M + 1 := ⟨N - 1, by omega⟩
      rw [hk]
      have hg : gapF N (Lib.repeatL [59] (k + 1)) e false = (e, false, true) := by rw [hM]; exact gap_semi M k e false
      rw [hg, if_neg (by simp), if_neg he, if_neg (by omega)]
      dsimp only
      rw [rep_drop _ _ _ h2, hk, frs_semi, if_pos rfl]
      exact scanF_fit N hN f (e + 1) _ (by rw [List.length_append, h1]; rfl) (by omega) (by omega)
theorem scanF_over (N : Nat) (hN : 65536 < N) : ∀ (f e : Nat) (acc : List Tk), acc.length = e → e ≤ 65536 → N + 1 ≤ f + e → scanF f (Lib.repeatL [59] N) e acc = ([], 2, 65536)
  | 0, e, acc, h1, h2, h3 => by omega
  | f + 1, e, acc, h1, h2, h3 => by
    rw [scanF]
    unfold gap
    rw [rep_len, rep_drop _ _ _ (by omega)]
    obtain ⟨k, hk⟩ : ∃ k, N - e = k + 1 := ⟨N - e - 1, by omega⟩
    obtain ⟨M, hM⟩ : ∃ M, N = M + 1 := ⟨N - 1, by omega⟩
    rw [hk]
    have hg : gapF N (Lib.repeatL [59] (k + 1)) e false = (e, false, true) := by rw [hM]; exact gap_semi M k e false
    rw [hg, if_neg (by simp), if_neg (show ¬ e = N by omega)]
    by_cases he : e = 65536
    · rw [if_pos (by omega)]
      show ([], 2, (e : Int)) = _
      rw [he]; rfl
    · rw [if_neg (by omega)]
      dsimp only
      rw [rep_drop _ _ _ (by omega), hk, frs_semi, if_pos rfl]
      exact scanF_over N hN f (e + 1) _ (by rw [List.length_append, h1]; rfl) (by omega) (by omega)
theorem scan_fit (N : Nat) (hN : N ≤ 65536) : ∃ L, scan (Lib.repeatL [59] N) = (L, 0, 0) := by
  unfold scan
  rw [rep_len, if_neg (by omega)]
  exact scanF_fit N hN _ 0 [] rfl (by omega) (by omega)
theorem scan_over (N : Nat) (hN : 65536 < N) (hN2 : N ≤ 262144) : scan (Lib.repeatL [59] N) = ([], 2, 65536) := by
  unfold scan
  rw [rep_len, if_neg (by omega)]
  exact scanF_over N hN _ 0 [] rfl (by omega) (by omega)
theorem scan_blank (N : Nat) (hN : N ≤ 262144) : ∃ L, scan (Lib.repeatL [32] N) = (L, 0, 0) := by
  unfold scan
  rw [rep_len, if_neg (by omega), scanF]
  unfold gap
  rw [rep_len, List.drop_zero, gap_spaces N N 0 false (Nat.le_refl _), if_neg (by simp), if_pos (by simp)]
  exact ⟨_, rfl⟩
theorem scan_long (N : Nat) (hN : 262144 < N) : scan (Lib.repeatL [32] N) = ([], 2, 0) := by
  unfold scan
  rw [rep_len, if_pos hN]
/-- What Scan says of a row of one byte. -/
theorem scan_rep (c : UInt8) (N : Nat) (hN : N ≤ 1048576) (R : List Tk × Int × Int) (hR : scan (Lib.repeatL [c] N) = R) (m : Int) (w : World) (hm : w.cell? ⟨0, 0, none⟩ = some (.int .i64 m)) :
    Calls Tryd.prog 10 #[.string ⟨(Lib.repeatL [c] N).toArray⟩] w fun e w' => ∃ v, e = .returned (.tuple #[v, .agg #[.int .i64 R.2.1, .int .i64 R.2.2]]) ∧ Below w.heap.size w w' := by
  have hs : (⟨(Lib.repeatL [c] N).toArray⟩ : ByteArray).size = N := by rw [size_list2, rep_len]
  refine (scan_any ⟨(Lib.repeatL [c] N).toArray⟩ m w hm (by rw [hs]; omega)).mono ?_
  rintro e w' ⟨v, h, _, hb⟩
  rw [show (ByteArray.mk (Lib.repeatL [c] N).toArray).data.toList = Lib.repeatL [c] N from rfl, hR] at h
  exact ⟨v, h, hb⟩
theorem rep_semi (N : Nat) (h : N ≤ 1048576) (w : World) : Calls Tryd.prog 18 #[.string ⟨#[59]⟩, .int .i64 (N : Int)] w fun e w' => e = .returned (.string ⟨(Lib.repeatL [59] N).toArray⟩) ∧ Below w.heap.size w w' :=
  Tryd.strings_Repeat ⟨#[59]⟩ N w (by omega) (by show 1 * N ≤ _; omega)
theorem rep_blank (N : Nat) (h : N ≤ 1048576) (w : World) : Calls Tryd.prog 18 #[.string ⟨#[32]⟩, .int .i64 (N : Int)] w fun e w' => e = .returned (.string ⟨(Lib.repeatL [32] N).toArray⟩) ∧ Below w.heap.size w w' :=
  Tryd.strings_Repeat ⟨#[32]⟩ N w (by omega) (by show 1 * N ≤ _; omega)
set_option maxRecDepth 100000 in
set_option maxHeartbeats 4000000 in
theorem great_in (N M : Nat) (more : Int) (hN : N ≤ 1048576) (hM : M ≤ 1048576) (hn : 65536 + more = (N : Int)) (hm' : 262144 + more = (M : Int)) (h1 : 0 ≤ more) (h2 : more ≤ 3)
    (R1 R2 : List Tk × Int × Int) (hR1 : scan (Lib.repeatL [59] N) = R1) (hR2 : scan (Lib.repeatL [32] M) = R2)
    (hz : (more = 0 ∧ R1.2 = (0, 0) ∧ R2.2 = (0, 0)) ∨ (more ≠ 0 ∧ R1.2 = (2, 65536) ∧ R2.2 = (2, 0)))
    (w : World) (m : Int) (hm : w.cell? ⟨0, 0, none⟩ = some (.int .i64 m)) :
    Calls Tryd.prog 8 #[.int .i64 more] w fun e w' => e = .returned (.bool true) ∧ Below w.heap.size w w' := by
  have h0 := pos_of hm
  have HM := Lib.hid hm
  have HS1 := Lib.hid fun w hm => scan_rep 59 N hN R1 hR1 m w hm
  have HS2 := Lib.hid fun w hm => scan_rep 32 M hM R2 hR2 m w hm
  obtain ⟨L1, c1, a1⟩ := R1
  obtain ⟨L2, c2, a2⟩ := R2
  clear hR1 hR2
  have HNN := Lib.hid hn
  have HMM := Lib.hid hm'
  have w1 : wrap64 (65536 + more) = 65536 + more := by unfold wrap64; omega
  have w2 : wrap64 (262144 + more) = 262144 + more := by unfold wrap64; omega
  clear hn hm'
  go_enter Tryd.func8, Tryd.ntmps8
  go_wp2_with fail
  refine (cuts_any m _ hm).mono ?_
  rintro e w1 ⟨rfl, hb1⟩
  clear hm
  go_wp2_with fail
  rw [HNN.out]
  refine (rep_semi N hN _).mono ?_
  rintro e w2 ⟨rfl, hb2⟩
  have HB2 := Lib.hid (hb1.trans (hb2.mono hb1.size))
  clear hb1 hb2
  go_wp2_with fail
  refine (HS1.out _ (cell_below HB2.out h0 HM.out)).mono ?_
  rintro e w3 ⟨v1, rfl, hb3⟩
  have hB3 := HB2.out.trans (hb3.mono HB2.out.size)
  have HB4 := Lib.hid (hB3.trans (((Below.refl _ _).alloc (Nat.le_refl _) (.cells #[.int .i64 c1, .int .i64 a1] 26)).mono hB3.size))
  have HX4 := Lib.hid (heap_alloc_new w3 (.cells #[.int .i64 c1, .int .i64 a1] 26))
  have hz3 := hB3.size
  clear hB3 hb3 HB2
  go_wp2_with fail
  rw [HMM.out]
  refine (rep_blank M hM _).mono ?_
  rintro e w5 ⟨rfl, hb5⟩
  have HB5 := Lib.hid (HB4.out.trans (hb5.mono HB4.out.size))
  have HX5 := Lib.hid (keep HX4.out hb5)
  clear hb5 HB4 HX4
  go_wp2_with fail
  refine (HS2.out _ (cell_below HB5.out h0 HM.out)).mono ?_
  rintro e w6 ⟨v2, rfl, hb6⟩
  have hB6 := HB5.out.trans (hb6.mono HB5.out.size)
  have hbx := (Below.refl w6.heap.size w6).alloc (Nat.le_refl _) (.cells #[.int .i64 c2, .int .i64 a2] 26)
  have HB7 := Lib.hid (hB6.trans (hbx.mono hB6.size))
  have hX7 := keep (keep HX5.out hb6) hbx
  have hY7 := heap_alloc_new w6 (.cells #[.int .i64 c2, .int .i64 a2] 26)
  obtain ⟨c0, c1', _, _⟩ := fault_facts hX7
  obtain ⟨e0, e1', _, _⟩ := fault_facts hY7
  clear hX7 hY7 hbx hB6 hb6 HX5 HB5 HS1 HS2
  rcases hz with ⟨hm0, hr1, hr2⟩ | ⟨hm0, hr1, hr2⟩
  · skip
    obtain ⟨rfl, rfl⟩ := Prod.mk.inj hr1
    obtain ⟨rfl, rfl⟩ := Prod.mk.inj hr2
    have hme : (more == 0) = true := by rw [hm0]; rfl
    clear hr1 hr2 hm0
    go_wp2_with fail
    go_ret
    exact ⟨rfl, HB7.out⟩
  · skip
    obtain ⟨rfl, rfl⟩ := Prod.mk.inj hr1
    obtain ⟨rfl, rfl⟩ := Prod.mk.inj hr2
    have hme : (more == 0) = false := by rw [beq_eq_false_iff_ne]; exact hm0
    clear hr1 hr2
    go_wp2_with fail
    go_ret
    exact ⟨rfl, HB7.out⟩
set_option maxRecDepth 100000 in
set_option maxHeartbeats 4000000 in
theorem lexGreat_walk (w : World) (more : Int) (_ : (Lit.int .i64 more).wf = true) (m : Int) (hm : w.cell? ⟨0, 0, none⟩ = some (.int .i64 m)) :
    Calls Tryd.prog 8 #[.int .i64 more] w fun e w' => e = .returned (.bool true) ∧ Below w.heap.size w w' := by
  by_cases h1 : more < 0
  · go_enter Tryd.func8, Tryd.ntmps8
    go_wp2_with fail
    refine (cuts_any m _ hm).mono ?_
    rintro e w1 ⟨rfl, hb1⟩
    go_wp2_with fail
    go_ret
    exact ⟨rfl, hb1⟩
  · by_cases h2 : 3 < more
    · go_enter Tryd.func8, Tryd.ntmps8
      go_wp2_with fail
      refine (cuts_any m _ hm).mono ?_
      rintro e w1 ⟨rfl, hb1⟩
      go_wp2_with fail
      go_ret
      exact ⟨rfl, hb1⟩
    · obtain ⟨k, rfl⟩ := Int.eq_ofNat_of_zero_le (show 0 ≤ more by omega)
      obtain ⟨N, hN⟩ : ∃ N : Nat, N = 65536 + k := ⟨_, rfl⟩
      obtain ⟨M, hM⟩ : ∃ M : Nat, M = 262144 + k := ⟨_, rfl⟩
      by_cases hk : k = 0
      · obtain ⟨L1, hL1⟩ := scan_fit N (by omega)
        obtain ⟨L2, hL2⟩ := scan_blank M (by omega)
        exact great_in N M k (by omega) (by omega) (by omega) (by omega) (by omega) (by omega) _ _ hL1 hL2 (Or.inl ⟨by omega, rfl, rfl⟩) w m hm
      · exact great_in N M k (by omega) (by omega) (by omega) (by omega) (by omega) (by omega) _ _ (scan_over N (by omega) (by omega)) (scan_long M (by omega)) (Or.inr ⟨by omega, rfl, rfl⟩) w m hm
end Go.Proofs.YtmlhknkeacpnhaaDoor.Lx
