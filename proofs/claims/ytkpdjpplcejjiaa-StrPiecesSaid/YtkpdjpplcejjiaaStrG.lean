/- 'StrPieces': the walk. -/
import Derived.Test.YtkpdjpplcejjiaaPcs
namespace Go.Proofs.Ytkpdjpplcejjiaa
open Go.RowKit Go.ChangeShapes Go.WideShapes Go.ChangeAt

/-- What Split hands back, as Join and a range read it. -/
theorem row_cells {W : World} {base n : Nat} {v : Value} {L : List ByteArray} (h : W.ownsRow base 9 1 v n (L.map .string)) (hn : n = L.length) (h0 : 0 < L.length) :
    ∃ g cap, v = .slice (some ⟨g, 0, none⟩) L.length cap ∧ g < W.heap.size ∧ ∀ (k : Nat) (hk : k < L.length), W.cell? ⟨g, k, none⟩ = some (.string L[k]) := by
  obtain ⟨_, h⟩ := h
  rcases h with ⟨_, e⟩ | ⟨g, cap, cur, hv, _, hg, _, _, _, ht⟩
  · omega
  · refine ⟨g, cap, by rw [hv, hn], lt_of_block hg, fun k hk => ?_⟩
    rw [cell_of_row _ _ _ _ _ _ hg]
    have h1 : (cur.toList.take (n * 1))[k]? = (L.map Value.string)[k]? := by rw [ht]
    rw [List.getElem?_take, if_pos (by omega), List.getElem?_map, List.getElem?_eq_getElem hk] at h1
    simpa using h1

set_option maxRecDepth 100000 in
set_option maxHeartbeats 4000000 in
theorem strPieces_near (s t : ByteArray) (hs : s.size ≤ 500) (ht : t.size ≤ 50) (m : Int) (w : World) (hm : w.cell? ⟨0, 0, none⟩ = some (.int .i64 m)) :
    Calls Try.prog 9 #[.string s, .string t] w fun e w' => e = .returned (.bool true) ∧ Below w.heap.size w w' := by
  have HT := Lib.hid (texts_any m w hm)
  clear hm
  have HS := Lib.hid fun w => split_any s t (by omega) (by omega) w
  have hno : ∀ (c k : Nat) (hk : k < t.size), among t.data.toList c = false → ¬ c = t[k].toNat := fun c k hk h => among_no t c k hk h
  have hP := srun_pcs (among t.data.toList) s s.data.toList 0 0 true 0 (by rw [List.drop_zero]) (by omega) (by omega) rfl (fun j h h1 h2 => by omega)
  have hLl := srun_len (among t.data.toList) s s.data.toList 0 0 []
  have hL0 := srun_pos (among t.data.toList) s s.data.toList 0 0
  rw [size_list] at hLl
  simp only [List.length_nil, Nat.zero_add] at hLl
  generalize among t.data.toList = cut at *
  generalize srun cut s s.data.toList 0 0 [] = L at *
  have hJ := pcs_join cut s [45] rfl L true 0 [] hP rfl
  have HJ : ∀ (g cap : Nat) (w : World), g < w.heap.size → (∀ (k : Nat) (h : k < L.length), w.cell? ⟨g, k, none⟩ = some (.string L[k])) →
      Calls Try.prog 28 #[.string ⟨#[45]⟩, .slice (some ⟨g, 0, none⟩) L.length cap] w fun e w' => ∃ J : ByteArray, J.size = s.size ∧ e = .returned (.tuple #[.string J, .int .i64 0]) ∧ Below w.heap.size w w' := fun g cap w hg hc =>
    (join_any ⟨#[45]⟩ L g cap w hg (by omega) hc (by show (jrun [45] L true []).length ≤ _; omega)).mono fun e w' ⟨h1, h2⟩ => ⟨_, by rw [size_mk]; exact hJ, h1, h2⟩
  have HJ' := Lib.hid HJ
  have HN := Lib.hid hno
  have HP := Lib.hid hP
  clear hJ HJ hno hP
  go_enter Try.func9, Try.ntmps9
  go_wp2_with fail
  refine HT.out.mono ?_
  rintro e w1 ⟨rfl, hb1⟩
  go_wp2_with fail
  refine (HS.out _).mono ?_
  rintro e w2 ⟨v, n, rfl, hn, hown, hb2⟩
  obtain ⟨g, cap, rfl, hg, hcell⟩ := row_cells hown hn hL0
  have HC := Lib.hid hcell
  have hb : Below w.heap.size w w2 := hb1.trans (hb2.mono hb1.size)
  have hsw := hb.size
  clear hcell hown hn hb1 hb2
  have hL1 : ((L.length : Int) == 0) = false := by rw [beq_eq_false_iff_ne]; omega
  go_wp2_with fail
  go_loopw [6, 31] (fun a i wr => ∃ (k z : Nat), k ≤ L.length ∧ i = .int .i64 (k : Int) ∧ a = .int .i64 (z : Int) ∧ z ≤ s.size ∧ Hid (pcs cut s (decide (k = 0)) z (L.drop k)) ∧ Below w2.heap.size w2 wr) (fun _ i _ => L.length - (intOf i).toNat)
  case atStart => exact ⟨0, 0, by omega, rfl, rfl, by omega, HP.out, Below.refl _ _⟩
  case round =>
    obtain ⟨k, z, hk, rfl, rfl, hz, HU, hbr⟩ := hrel
    by_cases hlt : k < L.length
    · have hc := cell_below hbr hg (HC.out k hlt)
      have hd : L.drop k = L[k] :: L.drop (k + 1) := List.drop_eq_getElem_cons hlt
      have hpc := HU.out
      rw [hd] at hpc
      obtain ⟨p1, p2, p3, p4⟩ := hpc
      generalize L[k] = p at *
      obtain ⟨a, ha⟩ : ∃ a, a = (if decide (k = 0) = true then z else z + 1) := ⟨_, rfl⟩
      rw [← ha] at p1 p2 p4
      obtain ⟨y, hy⟩ : ∃ y, y = a + p.size := ⟨_, rfl⟩
      rw [← hy] at p1 p2 p4
      have hyz : (a : Int) + (p.size : Int) = (y : Int) := by omega
      have HP4 : Hid (pcs cut s (decide (k + 1 = 0)) y (L.drop (k + 1))) := by rw [show decide (k + 1 = 0) = false by simp]; exact p4
      have HP3 := Lib.hid p3
      have hay : a ≤ y := by omega
      clear hd HU p3 p4 hy
      by_cases k0 : k = 0
      · subst k0
        have haz : a = z := ha
        subst haz
        clear ha
        go_wp2_with fail
        go_loopw [60] (fun i wr => ∃ j : Nat, j ≤ p.size ∧ i = .int .i64 (j : Int) ∧ Below w2.heap.size w2 wr) (fun i _ => p.size - (intOf i).toNat)
        case atStart => exact ⟨0, by omega, rfl, hbr⟩
        case round =>
          clear hbr hc
          obtain ⟨j, hj, rfl, hbj⟩ := hrel
          by_cases hltj : j < p.size
          · have hcj := byte_lt p j hltj
            have hcut := Lib.hid (HP3.out j hltj)
            go_wp2_with fail
            go_loopw [65] (fun i wr => ∃ q : Nat, q ≤ t.size ∧ i = .int .i64 (q : Int) ∧ Below w2.heap.size w2 wr) (fun i _ => t.size - (intOf i).toNat)
            case atStart => exact ⟨0, by omega, rfl, hbj⟩
            case round =>
              clear hbj
              obtain ⟨q, hq, rfl, hbq⟩ := hrel
              by_cases hltq : q < t.size
              · have hcq := byte_lt t q hltq
                have e0 : ((p[j].toNat : Int) == (t[q].toNat : Int)) = false := beq_no (HN.out _ q hltq hcut.out)
                go_wp2_with fail
                go_quiet (fail)
                go_wp2_with fail
                go_roundw
                case rel => exact ⟨q + 1, by omega, by go_num, below_drewN hbq _⟩
                case measure => simp [intOf]; omega
              · go_wp2_with fail
                go_roundw
                case rel => exact ⟨j + 1, by omega, by go_num, hbq⟩
                case measure => simp [intOf]; omega
          · go_wp2_with fail
            go_roundw
            case rel => exact ⟨0 + 1, y, by omega, by go_num, by go_num, p1, HP4, hbj⟩
            case measure => simp [intOf]; omega
      · have haz : a = z + 1 := by rw [ha, if_neg (by simpa using k0)]
        have hza : (z : Int) + 1 = (a : Int) := by omega
        have hk0 : 0 < k := by omega
        clear ha haz k0
        go_wp2_with fail
        go_loopw [60] (fun i wr => ∃ j : Nat, j ≤ p.size ∧ i = .int .i64 (j : Int) ∧ Below w2.heap.size w2 wr) (fun i _ => p.size - (intOf i).toNat)
        case atStart => exact ⟨0, by omega, rfl, hbr⟩
        case round =>
          clear hbr hc
          obtain ⟨j, hj, rfl, hbj⟩ := hrel
          by_cases hltj : j < p.size
          · have hcj := byte_lt p j hltj
            have hcut := Lib.hid (HP3.out j hltj)
            go_wp2_with fail
            go_loopw [65] (fun i wr => ∃ q : Nat, q ≤ t.size ∧ i = .int .i64 (q : Int) ∧ Below w2.heap.size w2 wr) (fun i _ => t.size - (intOf i).toNat)
            case atStart => exact ⟨0, by omega, rfl, hbj⟩
            case round =>
              clear hbj
              obtain ⟨q, hq, rfl, hbq⟩ := hrel
              by_cases hltq : q < t.size
              · have hcq := byte_lt t q hltq
                have e0 : ((p[j].toNat : Int) == (t[q].toNat : Int)) = false := beq_no (HN.out _ q hltq hcut.out)
                go_wp2_with fail
                go_quiet (fail)
                go_wp2_with fail
                go_roundw
                case rel => exact ⟨q + 1, by omega, by go_num, below_drewN hbq _⟩
                case measure => simp [intOf]; omega
              · go_wp2_with fail
                go_roundw
                case rel => exact ⟨j + 1, by omega, by go_num, hbq⟩
                case measure => simp [intOf]; omega
          · go_wp2_with fail
            go_roundw
            case rel => exact ⟨k + 1, y, by omega, by go_num, by go_num, p1, HP4, hbj⟩
            case measure => simp [intOf]; omega
    · have hzs : z = s.size := by
        have h := HU.out
        rw [List.drop_eq_nil_of_le (by omega)] at h
        exact h
      subst hzs
      clear HU
      have hsz := hbr.size
      go_wp2_with fail
      refine (HJ'.out g cap _ (by omega) (fun k h => cell_below hbr hg (HC.out k h))).mono ?_
      rintro e w4 ⟨J, hJs, rfl, hb4⟩
      go_wp2_with fail
      go_ret
      exact ⟨rfl, hb.trans ((hbr.trans (hb4.mono hsz)).mono hsw)⟩

set_option maxRecDepth 100000 in
theorem strPieces_walk (a b : ByteArray) (_ : a.size ≤ maxLen) (_ : b.size ≤ maxLen) (m : Int) (w : World) (hm : w.cell? ⟨0, 0, none⟩ = some (.int .i64 m)) :
    Calls Try.prog 9 #[.string a, .string b] w fun e w' => e = .returned (.bool true) ∧ Below w.heap.size w w' := by
  have h3 : (a.size ≤ 500 ∧ b.size ≤ 50) ∨ 500 < a.size ∨ (a.size ≤ 500 ∧ 50 < b.size) := by omega
  rcases h3 with ⟨ha, hb⟩ | h3 | ⟨h3, h4⟩
  · exact strPieces_near a b ha hb m w hm
  all_goals
    have HT := Lib.hid (texts_any m w hm)
    clear hm
    go_enter Try.func9, Try.ntmps9
    go_wp2_with fail
    refine HT.out.mono ?_
    rintro e w1 ⟨rfl, hb1⟩
    go_wp2_with fail
    go_ret
    exact ⟨rfl, hb1⟩
end Go.Proofs.Ytkpdjpplcejjiaa
