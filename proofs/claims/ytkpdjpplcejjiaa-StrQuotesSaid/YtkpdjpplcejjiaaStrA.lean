/- 'StrQuotes': the walk. -/
import Derived.Test.YtkpdjpplcejjiaaUneEsc
namespace Go.Proofs.Ytkpdjpplcejjiaa
open Go.RowKit Go.ChangeShapes Go.WideShapes Go.ChangeAt

set_option maxRecDepth 100000 in
set_option maxHeartbeats 4000000 in
theorem strQuotes_near (s : ByteArray) (hs : s.size ≤ 500) (m : Int) (w : World) (hm : w.cell? ⟨0, 0, none⟩ = some (.int .i64 m)) :
    Calls Try.prog 3 #[.string s] w fun e w' => e = .returned (.bool true) ∧ Below w.heap.size w w' := by
  have HT := Lib.hid (texts_any m w hm)
  clear hm
  obtain ⟨I, hI⟩ : ∃ I : ByteArray, I = ⟨(escs s.data.toList).toArray⟩ := ⟨_, rfl⟩
  have hIl : I.data.toList = escs s.data.toList := by rw [hI]
  have hIs : I.size ≤ 2000 := by
    have := escs_le s.data.toList
    rw [← hIl, size_list, size_list] at this
    omega
  have hU := une_back s I hIl
  have HU := Lib.hid fun w => unescape_any I (by omega) w
  rw [hU, show uneV (s.data.toList, -1) = .tuple #[.string s, .agg #[.int .i64 0, .int .i64 0]] by rw [uneV, list_bytes]; rfl] at HU
  have hCk : chk false (I.data.toList.drop 0) = true := by rw [List.drop_zero, hIl]; exact chk_escs _
  obtain ⟨q, hq⟩ : ∃ q : ByteArray, q = ⟨(34 :: (escs s.data.toList ++ [34])).toArray⟩ := ⟨_, rfl⟩
  have HQ := Lib.hid fun w => quote_any s (by omega) w
  rw [← hq] at HQ
  have hql : q.data.toList = 34 :: (I.data.toList ++ [34]) := by rw [hq, hIl]
  have hqs : q.size = I.size + 2 := by rw [← size_list q, hql, ← size_list I]; simp
  have hq0 : ∀ h : 0 < q.size, q[0].toNat = 34 := fun h => by
    have := drop_byte q 0 h
    rw [List.drop_zero, hql] at this
    rw [← (List.cons.inj this).1]; rfl
  have hq1 : ∀ h : I.size + 1 < q.size, q[I.size + 1].toNat = 34 := fun h => by
    have h1 := drop_byte q (I.size + 1) h
    rw [hql, List.drop_succ_cons, List.drop_append_of_le_length (by simp), List.drop_of_length_le (by simp)] at h1
    rw [← (List.cons.inj h1).1]; rfl
  have hqx : q.extract 1 (I.size + 1) = I := by
    apply bytes_ext
    simp only [ByteArray.data_extract, Array.toList_extract]
    rw [List.extract_eq_take_drop, hql, List.drop_succ_cons, List.drop_zero, show I.size + 1 - 1 = I.data.toList.length by rw [size_list]; omega, List.take_left]
  have hqx2 : q.extract 1 (I.size + 2 - 1) = I := hqx
  have HIl := Lib.hid hIl
  have g0 : 0 < q.size := by omega
  have g1 : I.size + 1 < q.size := by omega
  have k0 := hq0 g0
  have k1 := hq1 g1
  clear hI hIl hU hq hql hq0 hq1
  go_enter Try.func3, Try.ntmps3
  go_wp2_with fail
  refine HT.out.mono ?_
  rintro e w1 ⟨rfl, hb1⟩
  go_wp2_with fail
  refine (HQ.out _).mono ?_
  rintro e w2 ⟨rfl, hb2⟩
  have hb : Below w.heap.size w w2 := hb1.trans (hb2.mono hb1.size)
  clear hb1 hb2
  go_wp2_with fail
  simp only [hqx2]
  go_loopw [40] (fun i wr => ∃ (k : Nat) (b : Bool), k ≤ I.size ∧ i = .int .i64 (k : Int) ∧ Hid (chk b (I.data.toList.drop k) = true) ∧ (b = true → ∃ j, k = j + 1 ∧ ∃ h : j < I.size, I[j].toNat = 92) ∧ Below w.heap.size w wr) (fun i _ => I.size - (intOf i).toNat)
  case atStart => exact ⟨0, false, by omega, rfl, hCk, fun h => by simp at h, hb⟩
  case round =>
    obtain ⟨k, b, hk, rfl, HC, hprev, hb⟩ := hrel
    by_cases hlt : k < I.size
    · have hc := byte_lt I k hlt
      have hck := HC.out
      rw [drop_byte I k hlt] at hck
      simp only [chk, Bool.and_eq_true, Bool.or_eq_true, decide_eq_true_eq] at hck
      obtain ⟨⟨⟨h1, h2⟩, h3⟩, h4⟩ := hck
      have HC2 := Lib.hid h4
      clear h4 HC
      by_cases h34 : I[k].toNat = 34
      · obtain ⟨j, rfl, hj, hj2⟩ := hprev (h3.elim (fun h => by simp [h34] at h) id)
        have e1 : ((I[j + 1].toNat : Int) == 34) = true := beq_yes h34
        have e2 : ((I[j].toNat : Int) == 92) = true := beq_yes hj2
        have e3 : ((j : Int) + 1 == 0) = false := by rw [beq_eq_false_iff_ne]; omega
        have hc2 := byte_lt I j hj
        clear h34 h3 hprev
        go_wp2_with fail
        go_roundw
        case rel => exact ⟨j + 1 + 1, _, by omega, by go_num, HC2, fun h => ⟨j + 1, rfl, hlt, by simpa using h⟩, hb⟩
        case measure => simp [intOf]; omega
      · have e1 : ((I[k].toNat : Int) == 34) = false := beq_no h34
        clear h34 h3 hprev
        go_wp2_with fail
        go_roundw
        case rel => exact ⟨k + 1, _, by omega, by go_num, HC2, fun h => ⟨k, rfl, hlt, by simpa using h⟩, hb⟩
        case measure => simp [intOf]; omega
    · clear hprev HC
      obtain ⟨wa, rfl⟩ : ∃ x, x = wr := ⟨wr, rfl⟩
      go_wp2_with fail
      refine (HU.out _).mono ?_
      rintro e w3 ⟨rfl, hb3⟩
      have hs3 := hb3.size
      have hsa := hb.size
      have hbz : Below w.heap.size w w3 := hb.trans (hb3.mono hsa)
      clear hb hb3
      go_wp2_with fail
      go_loopw [8, 78] (fun o i wr => ∃ (k : Nat) (W : List UInt8), k ≤ s.size ∧ i = .int .i64 (k : Int) ∧ o = .string ⟨W.toArray⟩ ∧ Hid (W = escs (s.data.toList.take k)) ∧ Below (w3.heap.size + 1) (w3.alloc (.cells #[.int .i64 0, .int .i64 0] 26)) wr) (fun _ i _ => s.size - (intOf i).toNat)
      case atStart => exact ⟨0, [], by omega, rfl, rfl, rfl, Below.refl _ _⟩
      case round =>
        obtain ⟨k, W, hk, rfl, rfl, HW, hb⟩ := hrel
        have hWl : W.length ≤ 2000 := by
          rw [HW.out]
          have h1 := escs_le (s.data.toList.take k)
          have h2 : (s.data.toList.take k).length ≤ k := List.length_take_le _ _
          omega
        by_cases hlt : k < s.size
        · have hc := byte_lt s k hlt
          have ht := Lib.hid (take_byte s k hlt)
          have he4 := esc_le (s[k]).toNat
          have HE := Lib.hid fun w => escape_any _ hc w
          have HW2 : Hid (W ++ esc (s[k]).toNat = escs (s.data.toList.take (k + 1))) := by
            show _ = _
            rw [HW.out, ht.out, escs_append]; simp [escs]
          generalize esc (s[k]).toNat = E at *
          have hsz := hb.size
          simp at hsz
          go_wp2_with fail
          refine (HE.out _).mono ?_
          rintro e w4 ⟨rfl, hb4⟩
          go_wp2_with fail
          go_roundw
          case rel => exact ⟨k + 1, _, by omega, by go_num, str_eq (cat_list _ _), HW2, hb.trans (hb4.mono (by omega))⟩
          case measure => simp [intOf]; omega
        · have hWI : (⟨W.toArray⟩ : ByteArray) = I := by
            apply bytes_ext
            rw [HIl.out, HW.out, List.take_of_length_le (by rw [size_list]; omega)]
          have hq : wr.heap[w3.heap.size]? = some (.cells #[.int .i64 0, .int .i64 0] 26 (0, 0)) := (hb.block _ (by omega)).trans (heap_alloc_new w3 _)
          obtain ⟨c1, c2, _, _⟩ := fault_facts hq
          have hbw : Below w.heap.size w wr := (hbz.alloc (by omega) _).trans (hb.mono (by omega))
          clear hq hb
          rw [hWI]
          go_wp2_with fail
          go_ret
          exact ⟨rfl, hbw⟩

set_option maxRecDepth 100000 in
theorem strQuotes_walk (s : ByteArray) (_ : s.size ≤ maxLen) (m : Int) (w : World) (hm : w.cell? ⟨0, 0, none⟩ = some (.int .i64 m)) :
    Calls Try.prog 3 #[.string s] w fun e w' => e = .returned (.bool true) ∧ Below w.heap.size w w' := by
  by_cases hs : s.size ≤ 500
  · exact strQuotes_near s hs m w hm
  · have HT := Lib.hid (texts_any m w hm)
    clear hm
    go_enter Try.func3, Try.ntmps3
    go_wp2_with fail
    refine HT.out.mono ?_
    rintro e w1 ⟨rfl, hb1⟩
    go_wp2_with fail
    go_ret
    exact ⟨rfl, hb1⟩
end Go.Proofs.Ytkpdjpplcejjiaa
