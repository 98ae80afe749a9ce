/- LexWords is true: the walk. -/
import Derived.Test.YthjmlgbnpnfkgaaDoorLexA
set_option linter.unusedVariables false
namespace Go.Proofs.YthjmlgbnpnfkgaaDoor.Lx
open Go.RowKit Go.ChangeShapes Go.WideShapes Go.ChangeAt Go.Proofs.YthjmlgbnpnfkgaaDoor.Nu

/-- A token that is a name, or a word, is so by its text. -/
def Wd (t : Tk) : Prop := (t.k = 1 → kws.contains t.x = false) ∧ (t.k = 2 → kws.contains t.x = true)
theorem frs_wd (l : List UInt8) (a : Int) (b : Bool) : Wd ⟨(frs l).k, a, (frs l).x, (frs l).v, b⟩ := by
  have hbad : ∀ c d : Int, Wd ⟨(bad c d).k, a, (bad c d).x, (bad c d).v, b⟩ := fun c d => ⟨fun h => absurd h (by show ¬ (0 : Int) = 1; decide), fun h => absurd h (by show ¬ (0 : Int) = 2; decide)⟩
  have hno : ∀ (k : Int) (x : List UInt8) (v : Int), k ≠ 1 → k ≠ 2 → Wd ⟨k, a, x, v, b⟩ := fun k x v h1 h2 => ⟨fun h => absurd h h1, fun h => absurd h h2⟩
  cases l with
  | nil => exact hbad 80 0
  | cons c l =>
    rw [frs_cons]
    split
    · unfold frD; split
      · exact hno 3 _ _ (by decide) (by decide)
      · exact hbad _ _
    · split
      · unfold frQ; split
        · exact hbad _ _
        · split
          · split
            · exact hno 4 _ _ (by decide) (by decide)
            · split
              · exact hno 3 _ _ (by decide) (by decide)
              · exact hbad _ _
          · exact hbad _ _
      · split
        · unfold frN
          by_cases h : kws.contains ((c :: l).take (wl (c :: l))) = true
          · rw [if_pos h]; exact ⟨fun h1 => absurd h1 (by show ¬ (2 : Int) = 1; decide), fun _ => h⟩
          · rw [if_neg h]; exact ⟨fun _ => by simpa using h, fun h1 => absurd h1 (by show ¬ (1 : Int) = 2; decide)⟩
        · unfold frS; split
          · exact hbad _ _
          · exact hno 5 _ _ (by decide) (by decide)
theorem scanF_wd : ∀ (f : Nat) (l : List UInt8) (e : Nat) (acc : List Tk), (∀ t ∈ acc, Wd t) → ∀ t ∈ (scanF f l e acc).1, Wd t
  | 0, l, e, acc, h, t, ht => by rw [scanF] at ht; cases ht
  | f + 1, l, e, acc, h, t, ht => by
    rw [scanF] at ht
    split at ht
    · cases ht
    · split at ht
      · rcases List.mem_append.1 ht with h1 | h1
        · exact h t h1
        · obtain rfl := List.mem_singleton.1 h1
          exact ⟨fun h => absurd h (by show ¬ (6 : Int) = 1; decide), fun h => absurd h (by show ¬ (6 : Int) = 2; decide)⟩
      · split at ht
        · cases ht
        · split at ht
          · refine scanF_wd f l _ _ (fun u hu => ?_) t ht
            rcases List.mem_append.1 hu with h1 | h1
            · exact h u h1
            · obtain rfl := List.mem_singleton.1 h1
              exact frs_wd _ _ _
          · cases ht
theorem scan_wd (l : List UInt8) : ∀ t ∈ (scan l).1, Wd t := by
  unfold scan
  split
  · intro t ht; cases ht
  · exact scanF_wd _ _ _ _ (fun t ht => by cases ht)
def kwB : List ByteArray := kws.map fun l => ⟨l.toArray⟩
def hasK (s : ByteArray) (k : Nat) : Bool := (kwB.take k).any fun y => decide (y.toList = s.toList)
theorem hasK_zero (s : ByteArray) : hasK s 0 = false := rfl
theorem hasK_next (s : ByteArray) (k : Nat) (h : k < kwB.length) : hasK s (k + 1) = (hasK s k || decide (kwB[k].toList = s.toList)) := by
  unfold hasK
  rw [List.take_succ_eq_append_getElem h, List.any_append]; simp
theorem hasK_all (s : ByteArray) : hasK s 35 = kws.contains s.toList := by
  have h35 : kwB.take 35 = kwB := by decide
  unfold hasK
  rw [h35, kwB, List.any_map, List.contains_eq_any_beq]
  congr 1
  funext y
  rw [Bool.eq_iff_iff]
  simp [ByteArray.toList_eq]
  constructor
  · intro h; rw [← h]
  · intro h; rw [← h]
set_option maxRecDepth 100000 in
set_option maxHeartbeats 2000000 in
theorem words_any (w : World) : Calls Tryd.prog 16 #[] w fun e w' => ∃ g, e = .returned (.slice (some ⟨g, 0, none⟩) 35 35) ∧ g < w'.heap.size ∧ (∀ (k : Nat) (h : k < kwB.length), w'.cell? ⟨g, k, none⟩ = some (.string kwB[k])) ∧ Below w.heap.size w w' := by
  go_enter Tryd.func16, Tryd.ntmps16
  go_wp2
  go_ret
  refine ⟨w.heap.size, rfl, by simp, fun k hk => ?_, (Below.refl _ _).alloc (Nat.le_refl _) _⟩
  rw [cell_of_row _ _ _ _ _ _ (heap_alloc_new w _)]
  have h35 : kwB.length = 35 := by decide
  rw [h35] at hk
  match k, hk with
  | 0, _ => rfl | 1, _ => rfl | 2, _ => rfl | 3, _ => rfl | 4, _ => rfl | 5, _ => rfl | 6, _ => rfl | 7, _ => rfl | 8, _ => rfl | 9, _ => rfl
  | 10, _ => rfl | 11, _ => rfl | 12, _ => rfl | 13, _ => rfl | 14, _ => rfl | 15, _ => rfl | 16, _ => rfl | 17, _ => rfl | 18, _ => rfl | 19, _ => rfl
  | 20, _ => rfl | 21, _ => rfl | 22, _ => rfl | 23, _ => rfl | 24, _ => rfl | 25, _ => rfl | 26, _ => rfl | 27, _ => rfl | 28, _ => rfl | 29, _ => rfl
  | 30, _ => rfl | 31, _ => rfl | 32, _ => rfl | 33, _ => rfl | 34, _ => rfl
  | n + 35, hk => exact absurd hk (by omega)
theorem byteArray_list (l : List UInt8) : (⟨l.toArray⟩ : ByteArray).toList = l := by rw [ByteArray.toList_eq]
set_option maxRecDepth 100000 in
set_option maxHeartbeats 4000000 in
theorem lexWords_walk (w : World) (s : ByteArray) (_ : s.size ≤ maxLen) (m : Int) (hm : w.cell? ⟨0, 0, none⟩ = some (.int .i64 m)) :
    Calls Tryd.prog 7 #[.string s] w fun e w' => e = .returned (.bool true) ∧ Below w.heap.size w w' := by
  have h0 := pos_of hm
  have HM := Lib.hid hm
  go_enter Tryd.func7, Tryd.ntmps7
  go_wp2_with fail
  refine (cuts_any m _ hm).mono ?_
  rintro e w1 ⟨rfl, hb1⟩
  clear hm
  by_cases hbig : 200 < s.size
  · go_wp2_with fail
    go_ret
    exact ⟨rfl, hb1⟩
  · go_wp2_with fail
    refine (words_any _).mono ?_
    rintro e w2 ⟨g, rfl, hg2, hc2, hb2⟩
    have hk35 : kwB.length = 35 := by decide
    have HB2 := Lib.hid (hb1.trans (hb2.mono hb1.size))
    have HC2 := Lib.hid hc2
    clear hb1 hb2 hc2
    go_wp2_with fail
    go_loopw [3, 15] (fun b i wr => ∃ k : Nat, k ≤ 35 ∧ i = .int .i64 (k : Int) ∧ b = .bool (hasK s k) ∧ wr = w2) (fun _ i _ => 35 - (intOf i).toNat)
    case atStart => exact ⟨0, by omega, rfl, rfl, rfl⟩
    case round =>
      obtain ⟨k, hk, rfl, rfl, rfl⟩ := hrel
      by_cases hlt : k < 35
      · have hc := HC2.out k (by omega)
        have hnx := hasK_next s k (by omega)
        have HNX := Lib.hid hnx
        clear hnx
        generalize kwB[k]'(by omega) = y at *
        generalize hasK s k = b at *
        by_cases hy : y.toList = s.toList
        · cases b
          all_goals
            go_wp2_with fail
            go_roundw
            case rel => exact ⟨k + 1, by omega, by go_num, by rw [HNX.out]; simp [hy], trivial⟩
            case measure => simp [intOf]; omega
        · cases b
          all_goals
            go_wp2_with fail
            go_roundw
            case rel => exact ⟨k + 1, by omega, by go_num, by rw [HNX.out]; simp [hy], trivial⟩
            case measure => simp [intOf]; omega
      · obtain rfl : k = 35 := by omega
        rw [hasK_all]
        have hP := scan_wd s.data.toList
        have HS := Lib.hid (scan_any s m _ (cell_below HB2.out h0 HM.out) (by omega))
        generalize scan s.data.toList = R at *
        obtain ⟨L, c, a⟩ := R
        have hkl : kws.contains s.toList = kws.contains s.data.toList := by rw [ByteArray.toList_eq]
        have HK := Lib.hid fun w => keyword_any s w
        have HP := Lib.hid hP
        have HKL := Lib.hid hkl
        clear hP hkl
        generalize hB : kws.contains s.toList = B at *
        have HBB := Lib.hid hB
        clear hB
        go_wp2_with fail
        refine HS.out.mono ?_
        rintro e w3 ⟨v, rfl, hown, hb3⟩
        have hB3 := HB2.out.trans (hb3.mono HB2.out.size)
        have hbx := (Below.refl w3.heap.size w3).alloc (Nat.le_refl _) (.cells #[.int .i64 c, .int .i64 a] 26)
        have HB4 := Lib.hid (hB3.trans (hbx.mono hB3.size))
        have HX := heap_alloc_new w3 (.cells #[.int .i64 c, .int .i64 a] 26)
        obtain ⟨c0, c1, _, _⟩ := fault_facts HX
        have hB := HBB.out
        dsimp only at hown
        by_cases hc0 : c = 0
        · subst hc0
          by_cases hl2 : L.length = 2
          · obtain ⟨g2, cap, rfl, hg1, hg3, hcap, hcap2, hrow⟩ := own_open hown (by omega)
            have hrow4 := row_keep hrow hg3 hbx
            match L, hl2 with
            | [t, t2], _ =>
              have hwd := HP.out t (by simp)
              have r0 := hrow4 0 _ rfl
              have r2 := hrow4 2 _ rfl
              obtain ⟨y, hy⟩ : ∃ y : ByteArray, y = ⟨t.x.toArray⟩ := ⟨_, rfl⟩
              have hyl : y.toList = t.x := by rw [hy, byteArray_list]
              rw [← hy] at r2
              obtain ⟨hw1, hw2⟩ := hwd
              rw [← hyl] at hw1 hw2
              generalize hQ : t.k = q at *
              have hl : (([t, t2] : List Tk).length : Int) = 2 := rfl
              clear hown hrow hrow4 hbx HP HX hB3 hb3 hy hyl HS HKL HC2 hQ
              by_cases he : y.toList = s.toList
              · rw [he, hB] at hw1 hw2
                have HBX := Lib.hid hB
                clear hB
                by_cases hq1 : q = 1
                · subst hq1
                  obtain rfl := hw1 rfl
                  clear hw1 hw2
                  go_wp2_with fail
                  refine (HK.out _).mono ?_
                  rintro e w5 ⟨rfl, rfl⟩
                  go_wp2_with fail
                  go_ret
                  exact ⟨ret_b (by first | rfl | (cases B <;> rfl)), HB4.out⟩
                · by_cases hq2 : q = 2
                  · subst hq2
                    obtain rfl := hw2 rfl
                    clear hw1 hw2
                    go_wp2_with fail
                    refine (HK.out _).mono ?_
                    rintro e w5 ⟨rfl, rfl⟩
                    go_wp2_with fail
                    go_ret
                    exact ⟨ret_b (by first | rfl | (cases B <;> rfl)), HB4.out⟩
                  · have e1 : (q == 1) = false := by rw [beq_eq_false_iff_ne]; exact hq1
                    have e2 : (q == 2) = false := by rw [beq_eq_false_iff_ne]; exact hq2
                    clear hw1 hw2
                    go_wp2_with fail
                    refine (HK.out _).mono ?_
                    rintro e w5 ⟨rfl, rfl⟩
                    go_wp2_with fail
                    go_ret
                    exact ⟨ret_b (by first | rfl | (cases B <;> rfl)), HB4.out⟩
              · clear hw1 hw2
                have HBX := Lib.hid hB
                clear hB
                go_wp2_with fail
                refine (HK.out _).mono ?_
                rintro e w5 ⟨rfl, rfl⟩
                go_wp2_with fail
                go_ret
                exact ⟨ret_b (by first | rfl | (cases B <;> rfl)), HB4.out⟩
          · have hl : ((L.length : Int) == 2) = false := by rw [beq_eq_false_iff_ne]; omega
            obtain ⟨ad, cap, rfl⟩ := row_shape hown
            clear hown hb3 hB3 HX HS HKL HC2 HP hbx
            go_wp2_with fail
            refine (HK.out _).mono ?_
            rintro e w5 ⟨rfl, rfl⟩
            go_wp2_with fail
            go_ret
            exact ⟨ret_b (by first | rfl | (cases B <;> rfl)), HB4.out⟩
        · have hcn : (c == 0) = false := by rw [beq_eq_false_iff_ne]; exact hc0
          obtain ⟨ad, cap, rfl⟩ := row_shape hown
          clear hown hb3 hB3 HX HS HKL HC2 HP hbx
          go_wp2_with fail
          refine (HK.out _).mono ?_
          rintro e w5 ⟨rfl, rfl⟩
          go_wp2_with fail
          go_ret
          exact ⟨ret_b (by first | rfl | (cases B <;> rfl)), HB4.out⟩
end Go.Proofs.YthjmlgbnpnfkgaaDoor.Lx
