/- TableRoom is true: the walk. -/
import Derived.Test.YtipdjjgpcmbpdaaTab16
set_option linter.unusedVariables false
namespace Go.Proofs.Ytipdjjgpcmbpdaa.Ta
open Go.RowKit Go.ChangeShapes Go.WideShapes Go.ChangeAt Go.Proofs.Ytipdjjgpcmbpdaa.Va

/-- The keys that are there: so many, from one on. -/
def rowK (i : Nat) : Vl × Vl × Int := ((2, (i : Int), ⟨#[]⟩), (0, 0, ⟨#[]⟩), ((i + 1 : Nat) : Int))
def rowsK (lo n : Nat) : List (Vl × Vl × Int) := (List.range n).map fun j => rowK (lo + j)
theorem rowsK_len (lo n : Nat) : (rowsK lo n).length = n := by unfold rowsK; simp
theorem rowsK_at (lo n j : Nat) (h : j < n) : (rowsK lo n)[j]? = some (rowK (lo + j)) := by
  unfold rowsK
  rw [List.getElem?_map, List.getElem?_range h]; rfl
theorem rowsK_snoc (lo n : Nat) : rowsK lo n ++ [rowK (lo + n)] = rowsK lo (n + 1) := by
  unfold rowsK
  rw [List.range_succ, List.map_append]; rfl
theorem rowsK_tail (lo n : Nat) : (rowsK lo (n + 1)).eraseIdx 0 = rowsK (lo + 1) n := by
  unfold rowsK
  rw [List.range_succ_eq_map, List.map_cons, List.eraseIdx_cons_zero, List.map_map]
  congr 1
  funext j
  show rowK (lo + (j + 1)) = rowK (lo + 1 + j)
  congr 1; omega
theorem rowsK_no (lo n i : Nat) (h : lo + n ≤ i) : NoKey (rowsK lo n) (2, (i : Int), ⟨#[]⟩) := .inr fun j v c hj => by
  have hlt : j < n := by
    rcases Nat.lt_or_ge j n with h1 | h1
    · exact h1
    · rw [List.getElem?_eq_none (by rw [rowsK_len]; exact h1)] at hj; cases hj
  rw [rowsK_at lo n j hlt] at hj
  have h1 := congrArg (fun e : Vl => e.2.1) (Prod.mk.inj (Option.some.inj hj)).1
  have h2 : ((lo + j : Nat) : Int) = (i : Int) := h1
  omega
theorem key_ok (n : Int) : okK (2, n, ⟨#[]⟩) := ⟨show (0 : Int) ≤ 2 by decide, show (2 : Int) ≤ 4 by decide, show (0 : Nat) ≤ 1048576 by decide⟩
theorem key_ne (n : Int) : ((2, n, ⟨#[]⟩) : Vl) ≠ nul := fun h => absurd (Prod.mk.inj h).1 (by decide)
theorem isTab_room {B b sz us : Nat} {w : World} {E : List (Vl × Vl × Int)} {last : Int} (h : IsTab B b w E last sz us) : us ≤ sz := by
  obtain ⟨ar, cr, ap, cp, R, P, n, hT, _, rfl, rfl⟩ := h
  have := hT.g.full
  omega
set_option maxRecDepth 100000 in
set_option maxHeartbeats 4000000 in
theorem room_in (w : World) (r m : Nat) (hr : r ≤ 300) (hm1 : 1 ≤ m) (hm2 : m ≤ 20) : Calls Try.prog 6 #[.int .i64 (r : Int), .int .i64 (m : Int)] w fun e w' => e = .returned (.bool true) ∧ Below w.heap.size w w' := by
  go_enter Try.func6, Try.ntmps6
  go_wp2_with fail
  refine (keeps_any _).mono ?_
  rintro e w1 ⟨rfl, hb1⟩
  go_wp2_with fail
  refine (tnew_any _).mono ?_
  rintro e w2 ⟨b, rfl, hT, hb2⟩
  have HZ := Lib.hid (hb1.trans (hb2.mono hb1.size))
  have HT := Lib.hid hT
  have HL0 := Lib.hid hb2.size
  have HW := Lib.hid hb1.size
  clear hb1 hb2 hT
  go_wp2_with fail
  go_loopw [6, 7, 8, 9, 10, 29] (fun _ _ _ _ _ i wr => ∃ k sz us : Nat, k ≤ r ∧ i = .int .i64 (k : Int) ∧ sz ≤ 8 * (m + 3) ∧ Hid (IsTab w1.heap.size b wr (rowsK (k - m) (min k m)) (k : Int) sz us) ∧ Hid (Below w.heap.size w wr) ∧ Hid (w1.heap.size ≤ wr.heap.size)) (fun _ _ _ _ _ i _ => r - (intOf i).toNat)
  case atStart => exact ⟨0, 0, 0, by omega, rfl, by omega, HT.out, HZ.out, HL0.out⟩
  case round =>
    obtain ⟨k, sz, us, hk, rfl, hsz, HT, HZ, HL⟩ := hrel
    by_cases hlt : k < r
    · have hk300 : (k : Int) ≤ 300 := by omega
      go_wp2_with fail
      refine (int_any (k : Int) _).mono ?_
      rintro e w3 ⟨rfl, hb⟩
      have hT := isTab_below HT.out hb
      have hz := HZ.out.trans (hb.mono HZ.out.size)
      have hl := Nat.le_trans HL.out hb.size
      clear HT HZ HL
      have HT := Lib.hid hT
      have HZ := Lib.hid hz
      have HL := Lib.hid hl
      clear hT hz hl hb
      go_wp2_with fail
      refine (null_any _).mono ?_
      rintro e w4 ⟨rfl, hb⟩
      have hT := isTab_below HT.out hb
      have hz := HZ.out.trans (hb.mono HZ.out.size)
      have hl := Nat.le_trans HL.out hb.size
      clear HT HZ HL
      have HT := Lib.hid hT
      have HZ := Lib.hid hz
      have HL := Lib.hid hl
      clear hT hz hl hb
      go_wp2_with fail
      refine (put_new (2, (k : Int), ⟨#[]⟩) (0, 0, ⟨#[]⟩) (key_ok _) (key_ne _) (rowsK_no _ _ _ (by omega)) (by rw [rowsK_len]; omega) (by omega) _ HL.out HT.out).mono ?_
      rintro e w5 ⟨rfl, sz2, us2, hT, hsz', hst⟩
      have hsz2 : sz2 ≤ 8 * (m + 3) := by rw [rowsK_len] at hsz'; omega
      have hT : IsTab w1.heap.size b w5 (rowsK (k - m) (min k m + 1)) ((k : Int) + 1) sz2 us2 := by
        rw [← rowsK_snoc, show k - m + min k m = k by omega]; exact hT
      have hz := HZ.out.trans (hst.b.mono HW.out)
      have hl := Nat.le_trans HL.out hst.b.size
      clear HT HZ HL hst hsz'
      have HT := Lib.hid hT
      have HZ := Lib.hid hz
      have HL := Lib.hid hl
      clear hT hz hl
      by_cases hge : m ≤ k
      · have hge' : (m : Int) ≤ (k : Int) := by omega
        go_wp2_with fail
        refine (int_any ((k : Int) - (m : Int)) _).mono ?_
        rintro e w6 ⟨rfl, hb⟩
        have hT := isTab_below HT.out hb
        have hz := HZ.out.trans (hb.mono HZ.out.size)
        have hl := Nat.le_trans HL.out hb.size
        clear HT HZ HL
        have HT := Lib.hid hT
        have HZ := Lib.hid hz
        have HL := Lib.hid hl
        clear hT hz hl hb
        go_wp2_with fail
        have hj : (rowsK (k - m) (min k m + 1))[0]? = some ((2, (k : Int) - (m : Int), ⟨#[]⟩), (0, 0, ⟨#[]⟩), ((k - m + 0 + 1 : Nat) : Int)) := by
          rw [rowsK_at _ _ _ (by omega)]
          unfold rowK
          rw [show ((k - m + 0 : Nat) : Int) = (k : Int) - (m : Int) by omega]
        refine (delete_yes (j := 0) hj _ HL.out HT.out).mono ?_
        rintro e w7 ⟨rfl, hT, hst⟩
        rw [rowsK_tail] at hT
        have hb := (Below.refl w7.heap.size w7).alloc (Nat.le_refl _) (.cells #[.int .i64 0, .int .i64 0, .string ⟨#[]⟩] 30)
        have hz := HZ.out.trans (hst.b.mono HW.out)
        have hl := Nat.le_trans HL.out hst.b.size
        have hT := isTab_below hT hb
        have hz := hz.trans (hb.mono hz.size)
        have hl := Nat.le_trans hl hb.size
        rw [show k - m + 1 = k + 1 - m by omega, show min k m = min (k + 1) m by omega] at hT
        clear HT HZ HL hst hb hj
        have HT := Lib.hid hT
        have HZ := Lib.hid hz
        have HL := Lib.hid hl
        clear hT hz hl
        go_wp2_with fail
        refine (room_any _ HT.out).mono ?_
        rintro e w8 ⟨rfl, hb⟩
        have hT := isTab_below HT.out hb
        have hz := HZ.out.trans (hb.mono HZ.out.size)
        have hl := Nat.le_trans HL.out hb.size
        have hus := isTab_room HT.out
        clear HT HZ HL
        have HT := Lib.hid hT
        have HZ := Lib.hid hz
        have HL := Lib.hid hl
        have hsz3 : (sz2 : Int) ≤ 8 * ((m : Int) + 3) := by omega
        clear hT hz hl hb
        have HLEN := Lib.hid (tlen_any _ HT.out)
        rw [rowsK_len] at HLEN
        rw [show min (k + 1) m = m by omega] at HLEN
        have hmn : ((m : Int) != min ((k : Int) + 1) (m : Int)) = false := by rw [bne_eq_false_iff_eq]; omega
        go_wp2_with fail
        refine HLEN.out.mono ?_
        rintro e w9 ⟨rfl, rfl⟩
        go_wp2_with fail
        go_roundw
        case rel => exact ⟨k + 1, sz2, us2, by omega, by go_num, hsz2, HT.out, HZ.out, HL.out⟩
        case measure => simp [intOf]; omega
      · have hge' : (k : Int) < (m : Int) := by omega
        have hT := HT.out
        rw [show k - m = k + 1 - m by omega, show min k m + 1 = min (k + 1) m by omega] at hT
        clear HT
        have HT := Lib.hid hT
        clear hT
        go_wp2_with fail
        refine (room_any _ HT.out).mono ?_
        rintro e w8 ⟨rfl, hb⟩
        have hT := isTab_below HT.out hb
        have hz := HZ.out.trans (hb.mono HZ.out.size)
        have hl := Nat.le_trans HL.out hb.size
        have hus := isTab_room HT.out
        clear HT HZ HL
        have HT := Lib.hid hT
        have HZ := Lib.hid hz
        have HL := Lib.hid hl
        have hsz3 : (sz2 : Int) ≤ 8 * ((m : Int) + 3) := by omega
        clear hT hz hl hb
        have HLEN := Lib.hid (tlen_any _ HT.out)
        rw [rowsK_len] at HLEN
        rw [show min (k + 1) m = k + 1 by omega] at HLEN
        have hmn : ((k : Int) + 1 != min ((k : Int) + 1) (m : Int)) = false := by rw [bne_eq_false_iff_eq]; omega
        go_wp2_with fail
        refine HLEN.out.mono ?_
        rintro e w9 ⟨rfl, rfl⟩
        go_wp2_with fail
        go_roundw
        case rel => exact ⟨k + 1, sz2, us2, by omega, by go_num, hsz2, HT.out, HZ.out, HL.out⟩
        case measure => simp [intOf]; omega
    · go_wp2_with fail
      go_ret
      exact ⟨rfl, HZ.out⟩
theorem tableRoom_walk (rounds : Int) (_ : (Lit.int .i64 rounds).wf = true) (many : Int) (_ : (Lit.int .i64 many).wf = true) (w : World) : Calls Try.prog 6 #[.int .i64 rounds, .int .i64 many] w fun e w' => e = .returned (.bool true) ∧ Below w.heap.size w w' := by
  by_cases h : (0 ≤ rounds ∧ rounds ≤ 300) ∧ 1 ≤ many ∧ many ≤ 20
  · obtain ⟨⟨h1, h2⟩, h3, h4⟩ := h
    obtain ⟨r, rfl⟩ := Int.eq_ofNat_of_zero_le h1
    obtain ⟨m, rfl⟩ := Int.eq_ofNat_of_zero_le (show 0 ≤ many by omega)
    exact room_in w r m (by omega) (by omega) (by omega)
  · go_enter Try.func6, Try.ntmps6
    go_wp2_with fail
    refine (keeps_any _).mono ?_
    rintro e w1 ⟨rfl, hb1⟩
    have hc : rounds < 0 ∨ (¬ rounds < 0 ∧ 300 < rounds) ∨ (¬ rounds < 0 ∧ ¬ 300 < rounds ∧ many < 1) ∨ (¬ rounds < 0 ∧ ¬ 300 < rounds ∧ ¬ many < 1 ∧ 20 < many) := by omega
    clear h
    rcases hc with h1 | ⟨h1, h2⟩ | ⟨h1, h2, h3⟩ | ⟨h1, h2, h3, h4⟩
    all_goals
      go_wp2_with fail
      go_ret
      exact ⟨rfl, hb1⟩
end Go.Proofs.Ytipdjjgpcmbpdaa.Ta
