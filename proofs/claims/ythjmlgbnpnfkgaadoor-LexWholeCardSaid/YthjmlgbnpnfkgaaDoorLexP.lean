/- LexPairs is true: the walk where one of the sources is wrong, and the whole. -/
import Derived.Test.YthjmlgbnpnfkgaaDoorLexR
set_option linter.unusedVariables false
namespace Go.Proofs.YthjmlgbnpnfkgaaDoor.Lx
open Go.RowKit Go.ChangeShapes Go.WideShapes Go.ChangeAt Go.Proofs.YthjmlgbnpnfkgaaDoor.Nu

set_option maxRecDepth 100000 in
set_option maxHeartbeats 4000000 in
theorem pairs_wrong (w : World) (s t : ByteArray) (hs : s.size ≤ 1000) (ht : t.size ≤ 1000) (R1 R2 R3 : List Tk × Int × Int) (h1 : scan s.data.toList = R1) (h2 : scan t.data.toList = R2) (h3 : scan (s.data.toList ++ 10 :: t.data.toList) = R3)
    (hn2 : 0 ≤ R2.2.2 ∧ R2.2.2 ≤ 1000) (m : Int) (hm : w.cell? ⟨0, 0, none⟩ = some (.int .i64 m))
    (hcase : R1.2.1 ≠ 0 ∨ (R1.2.1 = 0 ∧ R2.2.1 ≠ 0 ∧ R3.2 = (R2.2.1, R2.2.2 + (s.size : Int) + 1))) :
    Calls Tryd.prog 5 #[.string s, .string t] w fun e w' => e = .returned (.bool true) ∧ Below w.heap.size w w' := by
  have h0 := pos_of hm
  have HM := Lib.hid hm
  obtain ⟨x, hx⟩ : ∃ x : ByteArray, x = s ++ ⟨#[10]⟩ ++ t := ⟨_, rfl⟩
  have hxl : x.data.toList = s.data.toList ++ 10 :: t.data.toList := by rw [hx]; simp
  have hxz : x.size ≤ 3000 := by rw [← size_list, hxl]; simp; omega
  have HS1 := Lib.hid fun w hm => scan_any s m w hm (by omega)
  have HS2 := Lib.hid fun w hm => scan_any t m w hm (by omega)
  have HS3 := Lib.hid fun w hm => scan_any x m w hm (by omega)
  rw [hxl] at HS3
  rw [h1] at HS1
  rw [h2] at HS2
  rw [h3] at HS3
  clear h1 h2 h3
  obtain ⟨L1, c1, a1⟩ := R1
  obtain ⟨L2, c2, a2⟩ := R2
  obtain ⟨L3, c3, a3⟩ := R3
  dsimp only at hn2 hcase
  have HX := Lib.hid hx.symm
  have hz1 : ¬ 9223372036854775807 < s.size + (⟨#[10]⟩ : ByteArray).size := by rw [show (⟨#[10]⟩ : ByteArray).size = 1 from rfl]; omega
  have hz2 : ¬ 9223372036854775807 < (s ++ ⟨#[10]⟩).size + t.size := by rw [ByteArray.size_append, show (⟨#[10]⟩ : ByteArray).size = 1 from rfl]; omega
  clear hx hxl hxz
  go_enter Tryd.func5, Tryd.ntmps5
  go_wp2_with fail
  refine (cuts_any m _ hm).mono ?_
  rintro e w1 ⟨rfl, hb1⟩
  clear hm
  have HB1 := Lib.hid hb1
  clear hb1
  go_wp2_with fail
  refine (HS1.out _ (cell_below HB1.out h0 HM.out)).mono ?_
  rintro e w2 ⟨v1, rfl, ho1, hb2⟩
  have hq := (Below.refl w2.heap.size w2).alloc (Nat.le_refl _) (.cells #[.int .i64 c1, .int .i64 a1] 26)
  have HO3 := Lib.hid (row_below ho1 hq)
  have HA3 := Lib.hid (heap_alloc_new w2 (.cells #[.int .i64 c1, .int .i64 a1] 26))
  have HB3 := Lib.hid (HB1.out.trans ((hb2.trans (hq.mono hb2.size)).mono HB1.out.size))
  have HZ3 := Lib.hid (show w1.heap.size ≤ w2.heap.size from hb2.size)
  have HL1 := Lib.hid (fun (k : Nat) (hk : v1.ownBlock = some k) => (ho1.lt k hk).2)
  clear ho1 hb2 hq
  go_wp2_with fail
  refine (HS2.out _ (cell_below HB3.out h0 HM.out)).mono ?_
  rintro e w4 ⟨v2, rfl, ho2, hb4⟩
  have hq := (Below.refl w4.heap.size w4).alloc (Nat.le_refl _) (.cells #[.int .i64 c2, .int .i64 a2] 26)
  have hb5 := hb4.trans (hq.mono hb4.size)
  have HO5 := Lib.hid (row_below HO3.out hb5)
  have HP5 := Lib.hid (row_below ho2 hq)
  have HA5 := Lib.hid (keep HA3.out hb5)
  have HC5 := Lib.hid (heap_alloc_new w4 (.cells #[.int .i64 c2, .int .i64 a2] 26))
  have HB5 := Lib.hid (HB3.out.trans (hb5.mono HB3.out.size))
  have HL2 := Lib.hid (fun (k : Nat) (hk : v2.ownBlock = some k) => (ho2.lt k hk).2)
  have HZ5 := Lib.hid (show w2.heap.size < w4.heap.size by have := hb4.size; simp at this; omega)
  clear ho2 hb4 hq hb5 HO3 HA3 HB3
  go_wp2_with fail
  rw [HX.out]
  refine (HS3.out _ (cell_below HB5.out h0 HM.out)).mono ?_
  rintro e w6 ⟨v3, rfl, ho3, hb6⟩
  have hq := (Below.refl w6.heap.size w6).alloc (Nat.le_refl _) (.cells #[.int .i64 c3, .int .i64 a3] 26)
  have hb7 := hb6.trans (hq.mono hb6.size)
  have HO7 := Lib.hid (row_below HO5.out hb7)
  have HP7 := Lib.hid (row_below HP5.out hb7)
  have HQ7 := Lib.hid (row_below ho3 hq)
  have HA7 := Lib.hid (keep HA5.out hb7)
  have HC7 := Lib.hid (keep HC5.out hb7)
  have HD7 := Lib.hid (heap_alloc_new w6 (.cells #[.int .i64 c3, .int .i64 a3] 26))
  have HB7 := Lib.hid (HB5.out.trans (hb7.mono HB5.out.size))
  have HZ7 := Lib.hid (show w4.heap.size < w6.heap.size by have := hb6.size; simp at this; omega)
  clear ho3 hb6 hq hb7 HO5 HA5 HB5 HP5 HC5 HS1 HS2 HS3 hz1 hz2 HX
  obtain ⟨e0, e1, _, _⟩ := fault_facts HA7.out
  obtain ⟨f0, f1, _, _⟩ := fault_facts HC7.out
  obtain ⟨k0, k1, _, _⟩ := fault_facts HD7.out
  rcases hcase with hc | ⟨hc1, hc2, hr⟩
  · have hcn : (c1 != 0) = true := by rw [bne_iff_ne]; exact hc
    go_wp2_with fail
    go_ret
    exact ⟨rfl, HB7.out⟩
  · subst hc1
    obtain ⟨rfl, rfl⟩ := Prod.mk.inj hr
    have hcn : (c3 != 0) = true := by rw [bne_iff_ne]; exact hc2
    have hw1 : wrap64 (a2 + (s.size : Int)) = a2 + (s.size : Int) := by unfold wrap64; omega
    have hw2 : wrap64 (a2 + (s.size : Int) + 1) = a2 + (s.size : Int) + 1 := by unfold wrap64; omega
    have hq1 := hn2.1
    have hq2 := hn2.2
    clear hr hn2
    go_wp2_with fail
    go_ret
    exact ⟨rfl, HB7.out⟩
theorem scanF_zero : ∀ (f : Nat) (l : List UInt8) (e : Nat) (acc : List Tk), (scanF f l e acc).2.1 = 0 → (scanF f l e acc).2.2 = 0
  | 0, l, e, acc => fun _ => by rw [scanF]
  | f + 1, l, e, acc => by
    rw [scanF_succ]
    generalize gap l e = G at *
    obtain ⟨n, ln, ok⟩ := G
    unfold stp
    dsimp only
    split
    · exact fun h => by simp at h
    · split
      · exact fun _ => rfl
      · split
        · exact fun h => by simp at h
        · split
          · exact scanF_zero f l _ _
          · rename_i hc; exact fun h => absurd h hc
theorem scan_zero {l : List UInt8} (h : (scan l).2.1 = 0) : scan l = ((scan l).1, 0, 0) := by
  have h2 : (scan l).2.2 = 0 := by
    revert h
    unfold scan
    split
    · exact fun h => absurd h (by decide)
    · exact scanF_zero _ _ _ _
  exact Prod.ext rfl (Prod.ext h h2)
set_option maxRecDepth 100000 in
set_option maxHeartbeats 4000000 in
theorem lexPairs_walk (w : World) (s : ByteArray) (_ : s.size ≤ maxLen) (t : ByteArray) (_ : t.size ≤ maxLen) (m : Int) (hm : w.cell? ⟨0, 0, none⟩ = some (.int .i64 m)) :
    Calls Tryd.prog 5 #[.string s, .string t] w fun e w' => e = .returned (.bool true) ∧ Below w.heap.size w w' := by
  by_cases hbig : s.size ≤ 1000 ∧ t.size ≤ 1000
  · obtain ⟨hs, ht⟩ := hbig
    have hsl : s.data.toList.length ≤ 1000 := by rw [size_list]; exact hs
    have htl : t.data.toList.length ≤ 1000 := by rw [size_list]; exact ht
    have hb2 := scan_at t.data.toList
    have hn2 : 0 ≤ (scan t.data.toList).2.2 ∧ (scan t.data.toList).2.2 ≤ 1000 := ⟨hb2.1, by omega⟩
    by_cases h1 : (scan s.data.toList).2.1 = 0
    · have h1' := scan_zero h1
      obtain ⟨acc, t0, e1, e2, t1, T, c, a, e3, e4⟩ := scan_two_of _ t.data.toList hsl htl _ h1'
      rw [size_list] at e4
      by_cases hc : c = 0
      · rw [if_pos hc] at e3 e4
        obtain ⟨acc2, t2, f1, f2, _⟩ := scan_two_of _ [] htl (by simp) _ e3
        have hT : T.length ≤ 100000 := by have := congrArg List.length f1; simp at this; omega
        exact pairs_right w s t hs ht _ _ _ _ _ acc T t0 t1 h1' e3 e4 m hm e2 hT e1 rfl
      · rw [if_neg hc] at e3 e4
        refine pairs_wrong w s t hs ht _ _ _ rfl rfl rfl hn2 m hm (.inr ⟨h1, ?_, ?_⟩)
        · rw [e3]; exact hc
        · rw [e3, e4]; simp; omega
    · exact pairs_wrong w s t hs ht _ _ _ rfl rfl rfl hn2 m hm (.inl h1)
  · have h0 := pos_of hm
    have hq : ¬ (s.size ≤ 1000) ∨ ¬ (t.size ≤ 1000) := by omega
    clear hbig
    go_enter Tryd.func5, Tryd.ntmps5
    go_wp2_with fail
    refine (cuts_any m _ hm).mono ?_
    rintro e w1 ⟨rfl, hb1⟩
    clear hm
    by_cases hs1 : s.size ≤ 1000
    · have ht1 : ¬ t.size ≤ 1000 := by omega
      go_wp2_with fail
      go_ret
      exact ⟨rfl, hb1⟩
    · go_wp2_with fail
      go_ret
      exact ⟨rfl, hb1⟩
end Go.Proofs.YthjmlgbnpnfkgaaDoor.Lx
