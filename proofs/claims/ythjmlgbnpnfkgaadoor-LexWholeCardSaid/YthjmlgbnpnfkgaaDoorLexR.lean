/- LexPairs is true: the walk where both sources are right. -/
import Derived.Test.YthjmlgbnpnfkgaaDoorLexM
set_option linter.unusedVariables false
namespace Go.Proofs.YthjmlgbnpnfkgaaDoor.Lx
open Go.RowKit Go.ChangeShapes Go.WideShapes Go.ChangeAt Go.Proofs.YthjmlgbnpnfkgaaDoor.Nu

set_option maxRecDepth 100000 in
set_option maxHeartbeats 4000000 in
theorem pairs_right (w : World) (s t : ByteArray) (hs : s.size ≤ 1000) (ht : t.size ≤ 1000) (a1 a2 a3 : Int) (L1 L3 acc T : List Tk) (t0 t1 : Tk) (h1 : scan s.data.toList = (L1, 0, a1)) (h2 : scan t.data.toList = (t1 :: T, 0, a2)) (h3 : scan (s.data.toList ++ 10 :: t.data.toList) = (L3, 0, a3))
    (m : Int) (hm : w.cell? ⟨0, 0, none⟩ = some (.int .i64 m)) (ha : acc.length ≤ 1000) (hT : T.length ≤ 100000) (e1 : L1 = acc ++ [t0]) (e3 : L3 = acc ++ (sh (s.size + 1) { t1 with b := true }) :: T.map (sh (s.size + 1))) :
    Calls Tryd.prog 5 #[.string s, .string t] w fun e w' => e = .returned (.bool true) ∧ Below w.heap.size w w' := by
  have E1 := Lib.hid e1
  have E3 := Lib.hid e3
  have HN1 := Lib.hid (show L1.length = acc.length + 1 by rw [e1]; simp)
  have HN3 := Lib.hid (show L3.length = acc.length + (T.length + 1) by rw [e3]; simp)
  clear e1 e3
  have h0 := pos_of hm
  have HM := Lib.hid hm
  obtain ⟨x, hx⟩ : ∃ x : ByteArray, x = s ++ ⟨#[10]⟩ ++ t := ⟨_, rfl⟩
  have hxl : x.data.toList = s.data.toList ++ 10 :: t.data.toList := by rw [hx]; simp
  have hxz : x.size ≤ 3000 := by rw [← size_list, hxl]; simp; omega
  have HS1 := Lib.hid fun w hm => scan_any s m w hm (by omega)
  have HS2 := Lib.hid fun w hm => scan_any t m w hm (by omega)
  have HS3 := Lib.hid fun w hm => scan_any x m w hm (by omega)
  rw [hxl] at HS3
  rw [h1] at HS1
  rw [h2] at HS2
  rw [h3] at HS3
  clear h1 h2 h3
  have HX := Lib.hid hx.symm
  have hz1 : ¬ 9223372036854775807 < s.size + (⟨#[10]⟩ : ByteArray).size := by rw [show (⟨#[10]⟩ : ByteArray).size = 1 from rfl]; omega
  have hz2 : ¬ 9223372036854775807 < (s ++ ⟨#[10]⟩).size + t.size := by rw [ByteArray.size_append, show (⟨#[10]⟩ : ByteArray).size = 1 from rfl]; omega
  clear hx hxl hxz
  go_enter Tryd.func5, Tryd.ntmps5
  go_wp2_with fail
  refine (cuts_any m _ hm).mono ?_
  rintro e w1 ⟨rfl, hb1⟩
  clear hm
  have HB1 := Lib.hid hb1
  clear hb1
  go_wp2_with fail
  refine (HS1.out _ (cell_below HB1.out h0 HM.out)).mono ?_
  rintro e w2 ⟨v1, rfl, ho1, hb2⟩
  have hq := (Below.refl w2.heap.size w2).alloc (Nat.le_refl _) (.cells #[.int .i64 0, .int .i64 a1] 26)
  have HO3 := Lib.hid (row_below ho1 hq)
  have HA3 := Lib.hid (heap_alloc_new w2 (.cells #[.int .i64 0, .int .i64 a1] 26))
  have HB3 := Lib.hid (HB1.out.trans ((hb2.trans (hq.mono hb2.size)).mono HB1.out.size))
  have HZ3 := Lib.hid (show w1.heap.size ≤ w2.heap.size from hb2.size)
  have HL1 := Lib.hid (fun (k : Nat) (hk : v1.ownBlock = some k) => (ho1.lt k hk).2)
  clear ho1 hb2 hq
  go_wp2_with fail
  refine (HS2.out _ (cell_below HB3.out h0 HM.out)).mono ?_
  rintro e w4 ⟨v2, rfl, ho2, hb4⟩
  have hq := (Below.refl w4.heap.size w4).alloc (Nat.le_refl _) (.cells #[.int .i64 0, .int .i64 a2] 26)
  have hb5 := hb4.trans (hq.mono hb4.size)
  have HO5 := Lib.hid (row_below HO3.out hb5)
  have HP5 := Lib.hid (row_below ho2 hq)
  have HA5 := Lib.hid (keep HA3.out hb5)
  have HC5 := Lib.hid (heap_alloc_new w4 (.cells #[.int .i64 0, .int .i64 a2] 26))
  have HB5 := Lib.hid (HB3.out.trans (hb5.mono HB3.out.size))
  have HL2 := Lib.hid (fun (k : Nat) (hk : v2.ownBlock = some k) => (ho2.lt k hk).2)
  have HZ5 := Lib.hid (show w2.heap.size < w4.heap.size by have := hb4.size; simp at this; omega)
  clear ho2 hb4 hq hb5 HO3 HA3 HB3
  go_wp2_with fail
  rw [HX.out]
  refine (HS3.out _ (cell_below HB5.out h0 HM.out)).mono ?_
  rintro e w6 ⟨v3, rfl, ho3, hb6⟩
  have hq := (Below.refl w6.heap.size w6).alloc (Nat.le_refl _) (.cells #[.int .i64 0, .int .i64 a3] 26)
  have hb7 := hb6.trans (hq.mono hb6.size)
  have HO7 := Lib.hid (row_below HO5.out hb7)
  have HP7 := Lib.hid (row_below HP5.out hb7)
  have HQ7 := Lib.hid (row_below ho3 hq)
  have HA7 := Lib.hid (keep HA5.out hb7)
  have HC7 := Lib.hid (keep HC5.out hb7)
  have HD7 := Lib.hid (heap_alloc_new w6 (.cells #[.int .i64 0, .int .i64 a3] 26))
  have HB7 := Lib.hid (HB5.out.trans (hb7.mono HB5.out.size))
  have HZ7 := Lib.hid (show w4.heap.size < w6.heap.size by have := hb6.size; simp at this; omega)
  clear ho3 hb6 hq hb7 HO5 HA5 HB5 HP5 HC5 HS1 HS2 HS3 hz1 hz2 HX
  obtain ⟨e0, e1, _, _⟩ := fault_facts HA7.out
  obtain ⟨f0, f1, _, _⟩ := fault_facts HC7.out
  obtain ⟨k0, k1, _, _⟩ := fault_facts HD7.out
  have Hb1 := Lib.hid (show w.heap.size ≤ w1.heap.size from HB1.out.size)
  have HW := Lib.hid (pairs_mem (B1 := w1.heap.size) (B2 := w2.heap.size + 1) (B3 := w4.heap.size + 1) HO7.out (by have h := HP7.out; rw [World.size_alloc] at h; exact h) (by have h := HQ7.out; rw [World.size_alloc] at h; exact h) (by rw [HN1.out]; omega) (by rw [HN3.out]; omega) (fun k hk => Nat.lt_succ_of_lt (HL1.out k hk)) (fun k hk => Nat.lt_succ_of_lt (HL2.out k hk)))
  clear HO7 HP7 HQ7 HL1 HL2 HA7 HC7 HD7 HZ3 HZ5 HZ7 HB1
  obtain ⟨g1, p1, g2, p2, g3, p3, rfl, rfl, rfl, i1, i2, i3, i4, m1, n1, m2, hfz, q4, r1, r2, r3⟩ := HW.out
  clear HW
  have HR1 := Lib.hid r1
  have HR2 := Lib.hid r2
  have HR3 := Lib.hid r3
  have hb8 : Below w.heap.size w (World.setCell _ ⟨g2, 4, none⟩ (.bool true)) := HB7.out.setCell (by have := Hb1.out; show w.heap.size ≤ g2; omega) _
  have HB8 := Lib.hid hb8
  clear hb8
  clear r1 r2 r3 HB7
  have HI := Lib.hid (And.intro i1 (And.intro i2 (And.intro i3 i4)))
  clear i1 i2 i3 i4
  have x1 := HN1.out
  have x3 := HN3.out
  have hp1 : (acc.length : Int) ≤ (p1 : Int) := by omega
  have hN2 : (0 : Int) < (T.length : Int) + 1 := by omega
  have hw1 : wrap64 ((L1.length : Int) + ((T.length : Int) + 1)) = ((L1.length : Int) + ((T.length : Int) + 1)) := wrap_small _ (by omega) (by omega)
  have hw2 : wrap64 ((L1.length : Int) + ((T.length : Int) + 1) - 1) = ((L1.length : Int) + ((T.length : Int) + 1) - 1) := wrap_small _ (by omega) (by omega)
  have hne : ((L3.length : Int) != ((L1.length : Int) + ((T.length : Int) + 1) - 1)) = false := by rw [bne_eq_false_iff_eq]; omega
  have hw3 : wrap64 ((L1.length : Int) - 1) = (L1.length : Int) - 1 := wrap_small _ (by omega) (by omega)
  have hb1 : 1 ≤ (L1.length : Int) := by omega
  have hb2 : (L1.length : Int) - 1 ≤ (p1 : Int) := by omega
  clear x1 x3
  obtain ⟨i0, hi, hz0, hz1, hz2⟩ := info_parts A.infoTT
  go_wp2_with (at_builtin; refine wpList_append_own _ rfl _ _ 23 rfl (w6.heap.size + 1) 33 i0 (.agg #[.int .i64 0, .int .i64 0, .string ⟨#[]⟩, .int .i64 0, .bool false]) 5 48 Tryd.underlying23 hi hz0 hz1 hz2 rfl (by decide) (.slice (some ⟨w6.heap.size + 1, 0, none⟩) 0 0) 0 [] ?c10 ?c1 ⟨g1, 0, none⟩ (L1.length - 1) p1 (flatT acc) ?c9 ?c4 ?c5 (flatT_oneCell acc) ?c6 ?c7 ?c8 ?_)
  case c10 => rfl
  case c9 => rfl
  case c1 =>
    have h := World.ownsRow_made (base := w6.heap.size + 1) (e := 33) (size := 5) ((w6.alloc (.cells #[.int .i64 0, .int .i64 a3] 26)).setCell ⟨g2, 4, none⟩ (.bool true)) #[] 0 (by simp) (by decide) rfl
    rw [World.size_setCell, World.size_alloc] at h
    exact h
  case c4 => rw [flatT_len, HN1.out]; rfl
  case c5 => exact row_src (row_init (T := [t0]) (by rw [← E1.out]; exact row_keep HR1.out (by have := HI.out; simp at this ⊢; omega) ((Below.refl _ _).alloc (Nat.le_refl _) _)))
  case c6 => unfold maxLen; omega
  case c7 => have := HN1.out; omega
  case c8 => simp
  intro v9 w9 hown9 hgr9 _
  have hk9 : ∀ k, (Value.slice (some (⟨w6.heap.size + 1, 0, none⟩ : Addr)) 0 0).ownBlock = some k → w6.heap.size + 1 ≤ k := fun k hk => by cases hk; exact Nat.le_refl _
  have HR19 := Lib.hid (row_grown (row_keep HR2.out (by have := HI.out; simp at this ⊢; omega) ((Below.refl _ _).alloc (Nat.le_refl _) (.cells #[] 33))) hgr9 hk9 (by have := HI.out; simp at this; omega))
  have HR39 := Lib.hid (row_grown (row_keep HR3.out (by have := HI.out; simp at this ⊢; omega) ((Below.refl _ _).alloc (Nat.le_refl _) (.cells #[] 33))) hgr9 hk9 (by have := HI.out; simp at this; omega))
  have HB9 := Lib.hid (Below.grown (HB8.out.alloc HB8.out.size (.cells #[] 33)) hgr9 (by have := HB8.out.size; simp at this ⊢; omega) (fun k hk => by have := hk9 k hk; have := HB8.out.size; simp at this; omega))
  have hz9 : w6.heap.size + 2 ≤ w9.heap.size := by have := hgr9.size; simp at this; omega
  have HO9 := Lib.hid hown9
  clear hgr9 hown9 HR1 HR2 HR3 HB8 hfz q4
  go_wp2_with (at_builtin; refine wpList_append_own _ rfl _ _ 23 rfl (w6.heap.size + 1) 33 i0 (.agg #[.int .i64 0, .int .i64 0, .string ⟨#[]⟩, .int .i64 0, .bool false]) 5 48 Tryd.underlying23 hi hz0 hz1 hz2 rfl (by decide) v9 (L1.length - 1) (flatT acc) rfl HO9.out ⟨g2, 0, none⟩ (T.length + 1) p2 (flatT ({ t1 with b := true } :: T)) rfl ?c4 ?c5 (flatT_oneCell _) ?c6 ?c7 ?c8 ?_)
  case c4 => rw [flatT_len]; rfl
  case c5 => exact row_src HR19.out
  case c6 => unfold maxLen; have := HN1.out; omega
  case c7 => have := HN1.out; omega
  case c8 => omega
  intro v10 w10 hown10 hgr10 _
  have hk10 : ∀ k, v9.ownBlock = some k → w6.heap.size + 1 ≤ k := fun k hk => (HO9.out.lt k hk).1
  have HR310 := Lib.hid (row_grown HR39.out hgr10 hk10 (by have := HI.out; simp at this; omega))
  have HB10 := Lib.hid (Below.grown HB9.out hgr10 (by have := HB9.out.size; omega) (fun k hk => by have := hk10 k hk; have := HB9.out.size; have h5 := HI.out; have := Hb1.out; simp at h5; omega))
  have hz10 : w6.heap.size + 2 ≤ w10.heap.size := by have := hgr10.size; omega
  rw [← flatT_append, show L1.length - 1 + (T.length + 1) = (acc ++ { t1 with b := true } :: T).length by rw [HN1.out]; simp] at hown10
  obtain ⟨g4, p4, rfl, i5, i6, _, _, r4⟩ := own_open hown10 (by simp; omega)
  have HR4 := Lib.hid r4
  have hgl3 : g3 < w10.heap.size := by have := HI.out; simp at this; omega
  have HG := Lib.hid (And.intro hgl3 i6)
  have he : (acc ++ { t1 with b := true } :: T).length = L3.length := by rw [HN3.out]; simp
  rw [he]
  clear r4 i5 i6 hgl3 hown10 hgr10 hk10 hk9 HR39 HR19 HO9 HB9
  go_wp2_with fail
  refine (same_yes L3 (acc ++ { t1 with b := true } :: T) g3 g4 p3 p4 _ HG.out.1 HG.out.2 ?_ he HR310.out HR4.out ?_).mono ?_
  · rw [HN3.out]; omega
  · rw [E3.out]; exact same_sh acc ({ t1 with b := true } :: T) (s.size + 1)
  rintro e w11 ⟨rfl, hb11⟩
  go_wp2_with fail
  go_ret
  exact ⟨rfl, HB10.out.trans (hb11.mono HB10.out.size)⟩
end Go.Proofs.YthjmlgbnpnfkgaaDoor.Lx
