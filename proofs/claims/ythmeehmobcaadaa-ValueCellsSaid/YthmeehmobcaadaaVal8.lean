/- What dreylaw03.tells asks. -/
import Derived.Test.YthmeehmobcaadaaVal7
namespace Go.Proofs.Ythmeehmobcaadaa.Va
open Go.RowKit Go.ChangeShapes Go.WideShapes Go.ChangeAt

theorem t_text : textV 2 (-7) ⟨#[]⟩ = ⟨#[45, 55]⟩ := by kernel_rfl
theorem t_source : sourceV 3 0 ⟨#[97, 10]⟩ = ⟨#[34, 97, 92, 110, 34]⟩ := by kernel_rfl
theorem t_num : numV 3 0 ⟨#[49, 50]⟩ = 12 ∧ numE 3 ⟨#[49, 50]⟩ = 0 := ⟨by kernel_rfl, by kernel_rfl⟩
theorem t_cmp : cmpV 0 0 2 0 ⟨#[]⟩ ⟨#[]⟩ = -1 ∧ cmpE 0 0 2 0 ⟨#[]⟩ ⟨#[]⟩ = 0 := ⟨by simp [cmpV, alike], by simp [cmpE]⟩
theorem t_cat : cat (textV 3 0 ⟨#[97]⟩) (textV 2 1 ⟨#[]⟩) = ⟨#[97, 49]⟩ := by kernel_rfl
theorem t_catsz : (textV 3 0 ⟨#[97]⟩).size + (textV 2 1 ⟨#[]⟩).size ≤ 1048576 := by
  have h1 : (textV 3 0 ⟨#[97]⟩).size = 1 := by kernel_rfl
  have h2 : (textV 2 1 ⟨#[]⟩).size = 1 := by kernel_rfl
  omega
theorem t_op : opN 1 3 4 = 12 ∧ opE 1 4 = 0 := ⟨by kernel_rfl, by simp [opE]⟩
theorem t_Text' (w : World) : Calls Try.prog 17 #[.agg #[.int .i64 2, .int .i64 (-7), .string ⟨#[]⟩]] w fun e w' => e = .returned (.tuple #[.string ⟨#[45, 55]⟩, .int .i64 0]) ∧ Below w.heap.size w w' := by have h := text_any 2 (-7) ⟨#[]⟩ (by omega) (by omega) (by omega) (by omega) w; rw [t_text] at h; exact h
theorem t_Source' (w : World) : Calls Try.prog 18 #[.agg #[.int .i64 3, .int .i64 0, .string ⟨#[97, 10]⟩]] w fun e w' => e = .returned (.tuple #[.string ⟨#[34, 97, 92, 110, 34]⟩, .int .i64 0]) ∧ Below w.heap.size w w' := by have h := source_any 3 0 ⟨#[97, 10]⟩ (by omega) (by omega) (by omega) (by omega) (by decide) w; rw [t_source] at h; exact h
theorem t_Number' (w : World) : Calls Try.prog 21 #[.agg #[.int .i64 3, .int .i64 0, .string ⟨#[49, 50]⟩]] w fun e w' => e = .returned (.tuple #[.int .i64 12, .int .i64 0]) ∧ Below w.heap.size w w' := by have h := number_any 3 0 ⟨#[49, 50]⟩ (by omega) (by omega) (by decide) w; rw [t_num.1, t_num.2] at h; exact h
theorem t_Compare' (w : World) : Calls Try.prog 24 #[.agg #[.int .i64 0, .int .i64 0, .string ⟨#[]⟩], .agg #[.int .i64 2, .int .i64 0, .string ⟨#[]⟩]] w fun e w' => e = .returned (.tuple #[.int .i64 (-1), .int .i64 0]) ∧ Below w.heap.size w w' := by have h := compare_any 0 0 2 0 ⟨#[]⟩ ⟨#[]⟩ w; rw [t_cmp.1, t_cmp.2] at h; exact h
theorem t_Add' (w : World) : Calls Try.prog 27 #[.agg #[.int .i64 3, .int .i64 0, .string ⟨#[97]⟩], .agg #[.int .i64 2, .int .i64 1, .string ⟨#[]⟩]] w fun e w' => e = .returned (.tuple #[.agg #[.int .i64 3, .int .i64 0, .string ⟨#[97, 49]⟩], .int .i64 0]) ∧ Below w.heap.size w w' := add_text 3 0 2 1 ⟨#[97]⟩ ⟨#[]⟩ ⟨#[97, 49]⟩ (Or.inl rfl) (fun w => by have h := join_ok 3 0 2 1 ⟨#[97]⟩ ⟨#[]⟩ (by omega) (by omega) (by omega) (by omega) (by omega) (by omega) (by omega) (by omega) (by omega) (by omega) t_catsz w; rw [t_cat] at h; exact h) w
theorem t_Reckon' (w : World) : Calls Try.prog 30 #[.int .i64 1, .agg #[.int .i64 2, .int .i64 3, .string ⟨#[]⟩], .agg #[.int .i64 2, .int .i64 4, .string ⟨#[]⟩]] w fun e w' => e = .returned (.tuple #[.agg #[.int .i64 2, .int .i64 12, .string ⟨#[]⟩], .int .i64 0]) ∧ Below w.heap.size w w' := by have h := rec_ok 1 3 4 ⟨#[]⟩ ⟨#[]⟩ (by omega) (by omega) t_op.2 w; rw [t_op.1] at h; exact h
theorem t_True' (w : World) : Calls Try.prog 13 #[.agg #[.int .i64 3, .int .i64 0, .string ⟨#[]⟩]] w fun e w' => e = .returned (.bool true) ∧ Below w.heap.size w w' := true_any 3 0 ⟨#[]⟩ w
theorem t_True0' (w : World) : Calls Try.prog 13 #[.agg #[.int .i64 2, .int .i64 0, .string ⟨#[]⟩]] w fun e w' => e = .returned (.bool false) ∧ Below w.heap.size w w' := true_any 2 0 ⟨#[]⟩ w
theorem t_Type' (w : World) : Calls Try.prog 12 #[.agg #[.int .i64 1, .int .i64 1, .string ⟨#[]⟩]] w fun e w' => e = .returned (.string ⟨#[98, 111, 111, 108]⟩) ∧ Below w.heap.size w w' := type_any 1 1 ⟨#[]⟩ w
theorem t_Check' (w : World) : Calls Try.prog 11 #[.agg #[.int .i64 0, .int .i64 0, .string ⟨#[]⟩]] w fun e w' => e = .returned (.int .i64 0) ∧ Below w.heap.size w w' := check_any 0 0 ⟨#[]⟩ w
theorem t_cells {G : Nat} {t : TypeId} {w : World} (hw : w.heap[G]? = some (.cells #[.int .i64 4, .int .i64 3, .string ⟨#[]⟩, .int .i64 0, .int .i64 0, .string ⟨#[]⟩] t (0, 0))) :
    Calls Try.prog 41 #[.slice (some ⟨G, 0, none⟩) 2 2] w fun e w' => ∃ ad cap, e = .returned (.slice ad 1 cap) ∧ Below w.heap.size w w' := by
  refine (cells_any G 0 2 2 (fun i => if i = 0 then 4 else 0) (fun i => if i = 0 then 3 else 0) (fun _ => ⟨#[]⟩) w (lt_of_block hw) (by omega) ?_).mono ?_
  · intro i hi
    match i, hi with
    | 0, _ => exact ⟨by rw [cell_of_row _ _ _ _ _ _ hw]; rfl, by rw [cell_of_row _ _ _ _ _ _ hw]; rfl, by rw [cell_of_row _ _ _ _ _ _ hw]; rfl⟩
    | 1, _ => exact ⟨by rw [cell_of_row _ _ _ _ _ _ hw]; rfl, by rw [cell_of_row _ _ _ _ _ _ hw]; rfl, by rw [cell_of_row _ _ _ _ _ _ hw]; rfl⟩
  · rintro e w' ⟨v, n, rfl, rfl, ⟨_, ho⟩, hb⟩
    rcases ho with ⟨_, e⟩ | ⟨g, cap, cur, hv, _⟩
    · exact absurd e (by decide)
    · exact ⟨_, cap, by rw [hv]; rfl, hb⟩

set_option maxRecDepth 100000 in
set_option maxHeartbeats 4000000 in
theorem tells_any (w : World) : Calls Try.prog 10 #[] w fun e w' => e = .returned (.bool true) ∧ Below w.heap.size w w' := by
  go_enter Try.func10, Try.ntmps10
  go_wp2_with fail
  refine (int_any (-7) _).mono ?_
  rintro e w1 ⟨rfl, hb⟩
  have hbz := hb
  have HZ := Lib.hid hbz
  clear hb hbz
  go_wp2_with fail
  refine (t_Text' _).mono ?_
  rintro e w2 ⟨rfl, hb⟩
  have hbz := HZ.out.trans (hb.mono HZ.out.size)
  clear HZ
  have HZ := Lib.hid hbz
  clear hb hbz
  go_wp2_with fail
  refine (str_any _ _).mono ?_
  rintro e w3 ⟨rfl, hb⟩
  have hbz := HZ.out.trans (hb.mono HZ.out.size)
  clear HZ
  have HZ := Lib.hid hbz
  clear hb hbz
  go_wp2_with fail
  refine (t_Source' _).mono ?_
  rintro e w4 ⟨rfl, hb⟩
  have hbz := HZ.out.trans (hb.mono HZ.out.size)
  clear HZ
  have HZ := Lib.hid hbz
  clear hb hbz
  go_wp2_with fail
  refine (str_any _ _).mono ?_
  rintro e w5 ⟨rfl, hb⟩
  have hbz := HZ.out.trans (hb.mono HZ.out.size)
  clear HZ
  have HZ := Lib.hid hbz
  clear hb hbz
  go_wp2_with fail
  refine (t_Number' _).mono ?_
  rintro e w6 ⟨rfl, hb⟩
  have hbz := HZ.out.trans (hb.mono HZ.out.size)
  clear HZ
  have HZ := Lib.hid hbz
  clear hb hbz
  go_wp2_with fail
  refine (null_any _).mono ?_
  rintro e w7 ⟨rfl, hb⟩
  have hbz := HZ.out.trans (hb.mono HZ.out.size)
  clear HZ
  have HZ := Lib.hid hbz
  clear hb hbz
  go_wp2_with fail
  refine (int_any 0 _).mono ?_
  rintro e w8 ⟨rfl, hb⟩
  have hbz := HZ.out.trans (hb.mono HZ.out.size)
  clear HZ
  have HZ := Lib.hid hbz
  clear hb hbz
  go_wp2_with fail
  refine (t_Compare' _).mono ?_
  rintro e w9 ⟨rfl, hb⟩
  have hbz := HZ.out.trans (hb.mono HZ.out.size)
  clear HZ
  have HZ := Lib.hid hbz
  clear hb hbz
  go_wp2_with fail
  refine (str_any _ _).mono ?_
  rintro e w10 ⟨rfl, hb⟩
  have hbz := HZ.out.trans (hb.mono HZ.out.size)
  clear HZ
  have HZ := Lib.hid hbz
  clear hb hbz
  go_wp2_with fail
  refine (int_any 1 _).mono ?_
  rintro e w11 ⟨rfl, hb⟩
  have hbz := HZ.out.trans (hb.mono HZ.out.size)
  clear HZ
  have HZ := Lib.hid hbz
  clear hb hbz
  go_wp2_with fail
  refine (t_Add' _).mono ?_
  rintro e w12 ⟨rfl, hb⟩
  have hbz := HZ.out.trans (hb.mono HZ.out.size)
  clear HZ
  have HZ := Lib.hid hbz
  clear hb hbz
  go_wp2_with fail
  refine (int_any 3 _).mono ?_
  rintro e w13 ⟨rfl, hb⟩
  obtain ⟨hX, hb⟩ := box1 hb
  have hbz := HZ.out.trans (hb.mono HZ.out.size)
  clear HZ
  have HZ := Lib.hid hbz
  obtain ⟨c0X, c1X, c2X, z0X, z1X, z2X⟩ := three_facts hX
  have HX := Lib.hid hX
  clear hb hbz hX
  go_wp2_with fail
  refine (int_any 4 _).mono ?_
  rintro e w14 ⟨rfl, hb⟩
  have hbz := HZ.out.trans (hb.mono HZ.out.size)
  have hX := keep HX.out hb
  clear HZ HX
  have HZ := Lib.hid hbz
  obtain ⟨c0X, c1X, c2X, z0X, z1X, z2X⟩ := three_facts hX
  have HX := Lib.hid hX
  clear hb hbz hX
  go_wp2_with fail
  refine (t_Reckon' _).mono ?_
  rintro e w15 ⟨rfl, hb⟩
  have hbz := HZ.out.trans (hb.mono HZ.out.size)
  have hX := keep HX.out hb
  clear HZ HX
  have HZ := Lib.hid hbz
  obtain ⟨c0X, c1X, c2X, z0X, z1X, z2X⟩ := three_facts hX
  have HX := Lib.hid hX
  clear hb hbz hX
  have hX' := keep HX.out ((Below.refl w15.heap.size w15).alloc (Nat.le_refl _) (.cells #[.int .i64 2, .int .i64 12, .string ⟨#[]⟩] 23))
  obtain ⟨d0, d1, d2, y0, y1, y2⟩ := three_facts hX'
  clear hX'
  go_wp2_with fail
  refine (str_any _ _).mono ?_
  rintro e w16 ⟨rfl, hb⟩
  obtain ⟨hY, hb⟩ := box1 hb
  have hbz := HZ.out.trans (hb.mono HZ.out.size)
  have hX := keep HX.out hb
  clear HZ HX
  have HZ := Lib.hid hbz
  obtain ⟨c0X, c1X, c2X, z0X, z1X, z2X⟩ := three_facts hX
  have HX := Lib.hid hX
  obtain ⟨c0Y, c1Y, c2Y, z0Y, z1Y, z2Y⟩ := three_facts hY
  have HY := Lib.hid hY
  clear hb hbz hX hY
  go_wp2_with fail
  refine (t_True' _).mono ?_
  rintro e w17 ⟨rfl, hb⟩
  have hbz := HZ.out.trans (hb.mono HZ.out.size)
  have hX := keep HX.out hb
  have hY := keep HY.out hb
  clear HZ HX HY
  have HZ := Lib.hid hbz
  obtain ⟨c0X, c1X, c2X, z0X, z1X, z2X⟩ := three_facts hX
  have HX := Lib.hid hX
  obtain ⟨c0Y, c1Y, c2Y, z0Y, z1Y, z2Y⟩ := three_facts hY
  have HY := Lib.hid hY
  clear hb hbz hX hY
  go_wp2_with fail
  refine (int_any 0 _).mono ?_
  rintro e w18 ⟨rfl, hb⟩
  have hbz := HZ.out.trans (hb.mono HZ.out.size)
  have hX := keep HX.out hb
  have hY := keep HY.out hb
  clear HZ HX HY
  have HZ := Lib.hid hbz
  obtain ⟨c0X, c1X, c2X, z0X, z1X, z2X⟩ := three_facts hX
  have HX := Lib.hid hX
  obtain ⟨c0Y, c1Y, c2Y, z0Y, z1Y, z2Y⟩ := three_facts hY
  have HY := Lib.hid hY
  clear hb hbz hX hY
  go_wp2_with fail
  refine (t_True0' _).mono ?_
  rintro e w19 ⟨rfl, hb⟩
  have hbz := HZ.out.trans (hb.mono HZ.out.size)
  have hX := keep HX.out hb
  have hY := keep HY.out hb
  clear HZ HX HY
  have HZ := Lib.hid hbz
  obtain ⟨c0X, c1X, c2X, z0X, z1X, z2X⟩ := three_facts hX
  have HX := Lib.hid hX
  obtain ⟨c0Y, c1Y, c2Y, z0Y, z1Y, z2Y⟩ := three_facts hY
  have HY := Lib.hid hY
  clear hb hbz hX hY
  go_wp2_with fail
  refine (bool_true _).mono ?_
  rintro e w20 ⟨rfl, hb⟩
  have hbz := HZ.out.trans (hb.mono HZ.out.size)
  have hX := keep HX.out hb
  have hY := keep HY.out hb
  clear HZ HX HY
  have HZ := Lib.hid hbz
  obtain ⟨c0X, c1X, c2X, z0X, z1X, z2X⟩ := three_facts hX
  have HX := Lib.hid hX
  obtain ⟨c0Y, c1Y, c2Y, z0Y, z1Y, z2Y⟩ := three_facts hY
  have HY := Lib.hid hY
  clear hb hbz hX hY
  go_wp2_with fail
  refine (t_Type' _).mono ?_
  rintro e w21 ⟨rfl, hb⟩
  have hbz := HZ.out.trans (hb.mono HZ.out.size)
  have hX := keep HX.out hb
  have hY := keep HY.out hb
  clear HZ HX HY
  have HZ := Lib.hid hbz
  obtain ⟨c0X, c1X, c2X, z0X, z1X, z2X⟩ := three_facts hX
  have HX := Lib.hid hX
  obtain ⟨c0Y, c1Y, c2Y, z0Y, z1Y, z2Y⟩ := three_facts hY
  have HY := Lib.hid hY
  clear hb hbz hX hY
  go_wp2_with fail
  refine (ref_any 3 _).mono ?_
  rintro e w22 ⟨rfl, hb⟩
  have hbz := HZ.out.trans (hb.mono HZ.out.size)
  have hX := keep HX.out hb
  have hY := keep HY.out hb
  clear HZ HX HY
  have HZ := Lib.hid hbz
  obtain ⟨c0X, c1X, c2X, z0X, z1X, z2X⟩ := three_facts hX
  have HX := Lib.hid hX
  obtain ⟨c0Y, c1Y, c2Y, z0Y, z1Y, z2Y⟩ := three_facts hY
  have HY := Lib.hid hY
  clear hb hbz hX hY
  go_wp2_with fail
  refine (null_any _).mono ?_
  rintro e w23 ⟨rfl, hb⟩
  have hbz := HZ.out.trans (hb.mono HZ.out.size)
  have hX := keep HX.out hb
  have hY := keep HY.out hb
  clear HZ HX HY
  have HZ := Lib.hid hbz
  obtain ⟨c0X, c1X, c2X, z0X, z1X, z2X⟩ := three_facts hX
  have HX := Lib.hid hX
  obtain ⟨c0Y, c1Y, c2Y, z0Y, z1Y, z2Y⟩ := three_facts hY
  have HY := Lib.hid hY
  clear hb hbz hX hY
  go_wp2_with fail
  refine (t_cells (heap_alloc_new w23 _)).mono ?_
  rintro e w24 ⟨ad, cap, rfl, hb⟩
  have hb := (box1 hb).2
  have hbz := HZ.out.trans (hb.mono HZ.out.size)
  have hX := keep HX.out hb
  have hY := keep HY.out hb
  clear HZ HX HY
  have HZ := Lib.hid hbz
  obtain ⟨c0X, c1X, c2X, z0X, z1X, z2X⟩ := three_facts hX
  have HX := Lib.hid hX
  obtain ⟨c0Y, c1Y, c2Y, z0Y, z1Y, z2Y⟩ := three_facts hY
  have HY := Lib.hid hY
  clear hb hbz hX hY
  go_wp2_with fail
  refine (null_any _).mono ?_
  rintro e w25 ⟨rfl, hb⟩
  have hbz := HZ.out.trans (hb.mono HZ.out.size)
  have hX := keep HX.out hb
  have hY := keep HY.out hb
  clear HZ HX HY
  have HZ := Lib.hid hbz
  obtain ⟨c0X, c1X, c2X, z0X, z1X, z2X⟩ := three_facts hX
  have HX := Lib.hid hX
  obtain ⟨c0Y, c1Y, c2Y, z0Y, z1Y, z2Y⟩ := three_facts hY
  have HY := Lib.hid hY
  clear hb hbz hX hY
  go_wp2_with fail
  refine (t_Check' _).mono ?_
  rintro e w26 ⟨rfl, hb⟩
  have hbz := HZ.out.trans (hb.mono HZ.out.size)
  have hX := keep HX.out hb
  have hY := keep HY.out hb
  clear HZ HX HY
  have HZ := Lib.hid hbz
  obtain ⟨c0X, c1X, c2X, z0X, z1X, z2X⟩ := three_facts hX
  have HX := Lib.hid hX
  obtain ⟨c0Y, c1Y, c2Y, z0Y, z1Y, z2Y⟩ := three_facts hY
  have HY := Lib.hid hY
  clear hb hbz hX hY
  go_wp2_with fail
  go_ret
  exact ⟨rfl, HZ.out⟩
end Go.Proofs.Ythmeehmobcaadaa.Va
