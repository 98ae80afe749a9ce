/- Contracts of package value: sums and operators. -/
import Derived.Test.YthmeehmobcaadaaVal4
namespace Go.Proofs.Ythmeehmobcaadaa.Va
open Go.RowKit Go.ChangeShapes Go.WideShapes Go.ChangeAt

theorem nadd_any (a b : Int) (w : World) : Calls Try.prog 29 #[.int .i64 a, .int .i64 b] w fun e w' => e = .returned (.int .i64 (wrap64 (a + b))) ∧ w = w' := by
  go_enter Try.func29, Try.ntmps29
  go_wp2
  go_ret
  exact ⟨rfl, rfl⟩
theorem nsub_any (a b : Int) (w : World) : Calls Try.prog 33 #[.int .i64 a, .int .i64 b] w fun e w' => e = .returned (.int .i64 (wrap64 (a - b))) ∧ w = w' := by
  go_enter Try.func33, Try.ntmps33
  go_wp2
  go_ret
  exact ⟨rfl, rfl⟩
theorem nmul_any (a b : Int) (w : World) : Calls Try.prog 34 #[.int .i64 a, .int .i64 b] w fun e w' => e = .returned (.int .i64 (wrap64 (a * b))) ∧ w = w' := by
  go_enter Try.func34, Try.ntmps34
  go_wp2
  go_ret
  exact ⟨rfl, rfl⟩
theorem nand_any (a b : Int) (w : World) : Calls Try.prog 35 #[.int .i64 a, .int .i64 b] w fun e w' => e = .returned (.int .i64 (bits .and .i64 a b)) ∧ w = w' := by
  go_enter Try.func35, Try.ntmps35
  go_wp2
  go_ret
  exact ⟨rfl, rfl⟩
theorem nor_any (a b : Int) (w : World) : Calls Try.prog 36 #[.int .i64 a, .int .i64 b] w fun e w' => e = .returned (.int .i64 (bits .or .i64 a b)) ∧ w = w' := by
  go_enter Try.func36, Try.ntmps36
  go_wp2
  go_ret
  exact ⟨rfl, rfl⟩
theorem nxor_any (a b : Int) (w : World) : Calls Try.prog 37 #[.int .i64 a, .int .i64 b] w fun e w' => e = .returned (.int .i64 (bits .xor .i64 a b)) ∧ w = w' := by
  go_enter Try.func37, Try.ntmps37
  go_wp2
  go_ret
  exact ⟨rfl, rfl⟩
def dvN (a b : Int) : Int := if b = 0 then 0 else wrap64 (a.tdiv b)
def mdN (a b : Int) : Int := if b = 0 then 0 else a.tmod b
def dvE (b : Int) : Int := if b = 0 then 10 else 0
theorem ndiv_any (a b : Int) (w : World) : Calls Try.prog 31 #[.int .i64 a, .int .i64 b] w fun e w' => e = .returned (.tuple #[.int .i64 (dvN a b), .int .i64 (dvE b)]) ∧ w = w' := by
  unfold dvN dvE
  by_cases h : b = 0
  · subst h; exact Nu.div_none a w
  · rw [if_neg h, if_neg h]; exact Nu.div_some a b h w
theorem nmod_any (a b : Int) (w : World) : Calls Try.prog 32 #[.int .i64 a, .int .i64 b] w fun e w' => e = .returned (.tuple #[.int .i64 (mdN a b), .int .i64 (dvE b)]) ∧ w = w' := by
  unfold mdN dvE
  by_cases h : b = 0
  · subst h; exact Nu.mod_none a w
  · rw [if_neg h, if_neg h]; exact Nu.mod_some a b h w
def opN (op a b : Int) : Int := if op = 0 then wrap64 (a - b) else if op = 1 then wrap64 (a * b) else if op = 2 then dvN a b else if op = 3 then mdN a b else if op = 4 then bits .and .i64 a b else if op = 5 then bits .or .i64 a b else if op = 6 then bits .xor .i64 a b else if op = 7 then wrap64 (a * 2 ^ Nu.far b) else if op = 8 then a / 2 ^ Nu.far b else if op = 9 then wrap64 (((Nu.U a / 2 ^ Nu.far b : Nat)) : Int) else 0
def opE (op b : Int) : Int := if op = 2 ∨ op = 3 then dvE b else 0
theorem ops10 {op : Int} (h0 : 0 ≤ op) (h9 : op < 10) : op = 0 ∨ op = 1 ∨ op = 2 ∨ op = 3 ∨ op = 4 ∨ op = 5 ∨ op = 6 ∨ op = 7 ∨ op = 8 ∨ op = 9 := by omega
set_option maxRecDepth 100000 in
set_option maxHeartbeats 1000000 in
theorem reckon_any (op a b : Int) (h0 : 0 ≤ op) (h9 : op < 10) (w : World) : Calls Try.prog 58 #[.int .i64 op, .int .i64 a, .int .i64 b] w fun e w' => e = .returned (.tuple #[.int .i64 (opN op a b), .int .i64 (opE op b)]) ∧ w = w' := by
  rcases ops10 h0 h9 with rfl | rfl | rfl | rfl | rfl | rfl | rfl | rfl | rfl | rfl
  · have HN := Lib.hid fun w => nsub_any a b w
    rw [show opN 0 a b = wrap64 (a - b) by simp [opN], show opE 0 b = 0 by simp [opE]]
    generalize wrap64 (a - b) = z at *
    go_enter Try.func58, Try.ntmps58
    go_wp2_with fail
    refine (HN.out _).mono ?_
    rintro e _ ⟨rfl, rfl⟩
    go_wp2_with fail
    go_ret2
    exact ⟨rfl, rfl⟩
  · have HN := Lib.hid fun w => nmul_any a b w
    rw [show opN 1 a b = wrap64 (a * b) by simp [opN], show opE 1 b = 0 by simp [opE]]
    generalize wrap64 (a * b) = z at *
    go_enter Try.func58, Try.ntmps58
    go_wp2_with fail
    refine (HN.out _).mono ?_
    rintro e _ ⟨rfl, rfl⟩
    go_wp2_with fail
    go_ret2
    exact ⟨rfl, rfl⟩
  · have HN := Lib.hid fun w => ndiv_any a b w
    rw [show opN 2 a b = dvN a b by simp [opN], show opE 2 b = dvE b by simp [opE]]
    generalize dvE b = de at *
    generalize dvN a b = z at *
    go_enter Try.func58, Try.ntmps58
    go_wp2_with fail
    refine (HN.out _).mono ?_
    rintro e _ ⟨rfl, rfl⟩
    go_wp2_with fail
    go_ret2
    exact ⟨rfl, rfl⟩
  · have HN := Lib.hid fun w => nmod_any a b w
    rw [show opN 3 a b = mdN a b by simp [opN], show opE 3 b = dvE b by simp [opE]]
    generalize dvE b = de at *
    generalize mdN a b = z at *
    go_enter Try.func58, Try.ntmps58
    go_wp2_with fail
    refine (HN.out _).mono ?_
    rintro e _ ⟨rfl, rfl⟩
    go_wp2_with fail
    go_ret2
    exact ⟨rfl, rfl⟩
  · have HN := Lib.hid fun w => nand_any a b w
    rw [show opN 4 a b = bits .and .i64 a b by simp [opN], show opE 4 b = 0 by simp [opE]]
    generalize bits .and .i64 a b = z at *
    go_enter Try.func58, Try.ntmps58
    go_wp2_with fail
    refine (HN.out _).mono ?_
    rintro e _ ⟨rfl, rfl⟩
    go_wp2_with fail
    go_ret2
    exact ⟨rfl, rfl⟩
  · have HN := Lib.hid fun w => nor_any a b w
    rw [show opN 5 a b = bits .or .i64 a b by simp [opN], show opE 5 b = 0 by simp [opE]]
    generalize bits .or .i64 a b = z at *
    go_enter Try.func58, Try.ntmps58
    go_wp2_with fail
    refine (HN.out _).mono ?_
    rintro e _ ⟨rfl, rfl⟩
    go_wp2_with fail
    go_ret2
    exact ⟨rfl, rfl⟩
  · have HN := Lib.hid fun w => nxor_any a b w
    rw [show opN 6 a b = bits .xor .i64 a b by simp [opN], show opE 6 b = 0 by simp [opE]]
    generalize bits .xor .i64 a b = z at *
    go_enter Try.func58, Try.ntmps58
    go_wp2_with fail
    refine (HN.out _).mono ?_
    rintro e _ ⟨rfl, rfl⟩
    go_wp2_with fail
    go_ret2
    exact ⟨rfl, rfl⟩
  · have HN := Lib.hid fun w => Nu.left_any a b w
    rw [show opN 7 a b = wrap64 (a * 2 ^ Nu.far b) by simp [opN], show opE 7 b = 0 by simp [opE]]
    generalize wrap64 (a * 2 ^ Nu.far b) = z at *
    go_enter Try.func58, Try.ntmps58
    go_wp2_with fail
    refine (HN.out _).mono ?_
    rintro e _ ⟨rfl, rfl⟩
    go_wp2_with fail
    go_ret2
    exact ⟨rfl, rfl⟩
  · have HN := Lib.hid fun w => Nu.right_any a b w
    rw [show opN 8 a b = a / 2 ^ Nu.far b by simp [opN], show opE 8 b = 0 by simp [opE]]
    generalize a / 2 ^ Nu.far b = z at *
    go_enter Try.func58, Try.ntmps58
    go_wp2_with fail
    refine (HN.out _).mono ?_
    rintro e _ ⟨rfl, rfl⟩
    go_wp2_with fail
    go_ret2
    exact ⟨rfl, rfl⟩
  · have HN := Lib.hid fun w => Nu.logical_any a b w
    rw [show opN 9 a b = wrap64 (((Nu.U a / 2 ^ Nu.far b : Nat)) : Int) by simp [opN], show opE 9 b = 0 by simp [opE]]
    generalize wrap64 (((Nu.U a / 2 ^ Nu.far b : Nat)) : Int) = z at *
    go_enter Try.func58, Try.ntmps58
    go_wp2_with fail
    refine (HN.out _).mono ?_
    rintro e _ ⟨rfl, rfl⟩
    go_wp2_with fail
    go_ret2
    exact ⟨rfl, rfl⟩
set_option maxRecDepth 100000 in
theorem rec_range (op k n k' n' : Int) (s s' : ByteArray) (h : op < 0 ∨ 9 < op) (w : World) : Calls Try.prog 30 #[.int .i64 op, .agg #[.int .i64 k, .int .i64 n, .string s], .agg #[.int .i64 k', .int .i64 n', .string s']] w fun e w' => e = .returned (.tuple #[.agg #[.int .i64 0, .int .i64 0, .string ⟨#[]⟩], .int .i64 1]) ∧ Below w.heap.size w w' := by
  have HN := Lib.hid null_any
  rcases h with h | h
  · go_enter Try.func30, Try.ntmps30
    go_wp2_with fail
    refine (HN.out _).mono ?_
    rintro e w1 ⟨rfl, hb⟩
    obtain ⟨hA, hB, hC, hbz⟩ := box3 hb
    obtain ⟨c0A, c1A, c2A, z0A, z1A, z2A⟩ := three_facts hA
    have HA := Lib.hid hA
    obtain ⟨c0B, c1B, c2B, z0B, z1B, z2B⟩ := three_facts hB
    have HB := Lib.hid hB
    obtain ⟨c0C, c1C, c2C, z0C, z1C, z2C⟩ := three_facts hC
    have HC := Lib.hid hC
    have HZ := Lib.hid hbz
    clear hb hbz hA hB hC
    go_wp2_with fail
    (try simp only [Exit.inBlock, Exit.then])
    refine bodyPost_ret (results_cell_tmp rfl _ _ (w.heap.size + 1 + 1) 23 #[.int .i64 0, .int .i64 0, .string ⟨#[]⟩] (0, 0) _ rfl (heap_three HC.out _ _ _) Try.underlying23 rfl A.infoV) ?_ ?_
    · rfl
    · exact ⟨rfl, ((HZ.out.setCell (by simp; omega) _).setCell (by simp; omega) _).setCell (by simp; omega) _⟩
  · have h' : ¬ op < 0 := by omega
    go_enter Try.func30, Try.ntmps30
    go_wp2_with fail
    refine (HN.out _).mono ?_
    rintro e w1 ⟨rfl, hb⟩
    obtain ⟨hA, hB, hC, hbz⟩ := box3 hb
    obtain ⟨c0A, c1A, c2A, z0A, z1A, z2A⟩ := three_facts hA
    have HA := Lib.hid hA
    obtain ⟨c0B, c1B, c2B, z0B, z1B, z2B⟩ := three_facts hB
    have HB := Lib.hid hB
    obtain ⟨c0C, c1C, c2C, z0C, z1C, z2C⟩ := three_facts hC
    have HC := Lib.hid hC
    have HZ := Lib.hid hbz
    clear hb hbz hA hB hC
    go_wp2_with fail
    (try simp only [Exit.inBlock, Exit.then])
    refine bodyPost_ret (results_cell_tmp rfl _ _ (w.heap.size + 1 + 1) 23 #[.int .i64 0, .int .i64 0, .string ⟨#[]⟩] (0, 0) _ rfl (heap_three HC.out _ _ _) Try.underlying23 rfl A.infoV) ?_ ?_
    · rfl
    · exact ⟨rfl, ((HZ.out.setCell (by simp; omega) _).setCell (by simp; omega) _).setCell (by simp; omega) _⟩
set_option maxRecDepth 100000 in
theorem rec_type (op k n k' n' : Int) (s s' : ByteArray) (h0 : 0 ≤ op) (h9 : op < 10) (hk : two 2 k k' = false) (w : World) : Calls Try.prog 30 #[.int .i64 op, .agg #[.int .i64 k, .int .i64 n, .string s], .agg #[.int .i64 k', .int .i64 n', .string s']] w fun e w' => e = .returned (.tuple #[.agg #[.int .i64 0, .int .i64 0, .string ⟨#[]⟩], .int .i64 30]) ∧ Below w.heap.size w w' := by
  have HN := Lib.hid null_any
  have H2 := Lib.hid fun w => both_any 2 k n k' n' s s' w
  rw [hk] at H2
  clear hk
  go_enter Try.func30, Try.ntmps30
  go_wp2_with fail
  refine (H2.out _).mono ?_
  rintro e w1 ⟨rfl, hb⟩
  obtain ⟨hA, hB, hC, hbz⟩ := box3 hb
  obtain ⟨c0A, c1A, c2A, z0A, z1A, z2A⟩ := three_facts hA
  have HA := Lib.hid hA
  obtain ⟨c0B, c1B, c2B, z0B, z1B, z2B⟩ := three_facts hB
  have HB := Lib.hid hB
  obtain ⟨c0C, c1C, c2C, z0C, z1C, z2C⟩ := three_facts hC
  have HC := Lib.hid hC
  have HZ := Lib.hid hbz
  clear hb hbz hA hB hC
  go_wp2_with fail
  refine (HN.out _).mono ?_
  rintro e w2 ⟨rfl, hb⟩
  have hA := keep HA.out hb
  have hB := keep HB.out hb
  have hC := keep HC.out hb
  have hbz := HZ.out.trans (hb.mono HZ.out.size)
  clear HA HB HC HZ
  obtain ⟨c0A, c1A, c2A, z0A, z1A, z2A⟩ := three_facts hA
  have HA := Lib.hid hA
  obtain ⟨c0B, c1B, c2B, z0B, z1B, z2B⟩ := three_facts hB
  have HB := Lib.hid hB
  obtain ⟨c0C, c1C, c2C, z0C, z1C, z2C⟩ := three_facts hC
  have HC := Lib.hid hC
  have HZ := Lib.hid hbz
  clear hb hbz hA hB hC
  go_wp2_with fail
  (try simp only [Exit.inBlock, Exit.then])
  refine bodyPost_ret (results_cell_tmp rfl _ _ (w.heap.size + 1 + 1) 23 #[.int .i64 0, .int .i64 0, .string ⟨#[]⟩] (0, 0) _ rfl (heap_three HC.out _ _ _) Try.underlying23 rfl A.infoV) ?_ ?_
  · rfl
  · exact ⟨rfl, ((HZ.out.setCell (by simp; omega) _).setCell (by simp; omega) _).setCell (by simp; omega) _⟩
set_option maxRecDepth 100000 in
theorem rec_err (op n n' : Int) (s s' : ByteArray) (h0 : 0 ≤ op) (h9 : op < 10) (he : ¬ opE op n' = 0) (w : World) : Calls Try.prog 30 #[.int .i64 op, .agg #[.int .i64 2, .int .i64 n, .string s], .agg #[.int .i64 2, .int .i64 n', .string s']] w fun e w' => e = .returned (.tuple #[.agg #[.int .i64 0, .int .i64 0, .string ⟨#[]⟩], .int .i64 (opE op n')]) ∧ Below w.heap.size w w' := by
  have H2 := Lib.hid fun w => both_any 2 2 n 2 n' s s' w
  rw [show two 2 2 2 = true from rfl] at H2
  have HR := Lib.hid fun w => reckon_any op n n' h0 h9 w
  have HN := Lib.hid null_any
  generalize opE op n' = er at *
  generalize opN op n n' = z at *
  go_enter Try.func30, Try.ntmps30
  go_wp2_with fail
  refine (H2.out _).mono ?_
  rintro e w1 ⟨rfl, hb⟩
  obtain ⟨hA, hB, hC, hbz⟩ := box3 hb
  obtain ⟨c0A, c1A, c2A, z0A, z1A, z2A⟩ := three_facts hA
  have HA := Lib.hid hA
  obtain ⟨c0B, c1B, c2B, z0B, z1B, z2B⟩ := three_facts hB
  have HB := Lib.hid hB
  obtain ⟨c0C, c1C, c2C, z0C, z1C, z2C⟩ := three_facts hC
  have HC := Lib.hid hC
  have HZ := Lib.hid hbz
  clear hb hbz hA hB hC
  go_wp2_with fail
  refine (HR.out _).mono ?_
  rintro e _ ⟨rfl, rfl⟩
  go_wp2_with fail
  refine (HN.out _).mono ?_
  rintro e w2 ⟨rfl, hb⟩
  have hA := keep HA.out hb
  have hB := keep HB.out hb
  have hC := keep HC.out hb
  have hbz := HZ.out.trans (hb.mono HZ.out.size)
  clear HA HB HC HZ
  obtain ⟨c0A, c1A, c2A, z0A, z1A, z2A⟩ := three_facts hA
  have HA := Lib.hid hA
  obtain ⟨c0B, c1B, c2B, z0B, z1B, z2B⟩ := three_facts hB
  have HB := Lib.hid hB
  obtain ⟨c0C, c1C, c2C, z0C, z1C, z2C⟩ := three_facts hC
  have HC := Lib.hid hC
  have HZ := Lib.hid hbz
  clear hb hbz hA hB hC
  go_wp2_with fail
  (try simp only [Exit.inBlock, Exit.then])
  refine bodyPost_ret (results_cell_tmp rfl _ _ (w.heap.size + 1 + 1) 23 #[.int .i64 0, .int .i64 0, .string ⟨#[]⟩] (0, 0) _ rfl (heap_three HC.out _ _ _) Try.underlying23 rfl A.infoV) ?_ ?_
  · rfl
  · exact ⟨rfl, ((HZ.out.setCell (by simp; omega) _).setCell (by simp; omega) _).setCell (by simp; omega) _⟩
set_option maxRecDepth 100000 in
theorem rec_ok (op n n' : Int) (s s' : ByteArray) (h0 : 0 ≤ op) (h9 : op < 10) (he : opE op n' = 0) (w : World) : Calls Try.prog 30 #[.int .i64 op, .agg #[.int .i64 2, .int .i64 n, .string s], .agg #[.int .i64 2, .int .i64 n', .string s']] w fun e w' => e = .returned (.tuple #[.agg #[.int .i64 2, .int .i64 (opN op n n'), .string ⟨#[]⟩], .int .i64 0]) ∧ Below w.heap.size w w' := by
  have H2 := Lib.hid fun w => both_any 2 2 n 2 n' s s' w
  rw [show two 2 2 2 = true from rfl] at H2
  have HR := Lib.hid fun w => reckon_any op n n' h0 h9 w
  rw [he] at HR
  have HN := Lib.hid fun w => int_any (opN op n n') w
  generalize opN op n n' = z at *
  clear he
  go_enter Try.func30, Try.ntmps30
  go_wp2_with fail
  refine (H2.out _).mono ?_
  rintro e w1 ⟨rfl, hb⟩
  obtain ⟨hA, hB, hC, hbz⟩ := box3 hb
  obtain ⟨c0A, c1A, c2A, z0A, z1A, z2A⟩ := three_facts hA
  have HA := Lib.hid hA
  obtain ⟨c0B, c1B, c2B, z0B, z1B, z2B⟩ := three_facts hB
  have HB := Lib.hid hB
  obtain ⟨c0C, c1C, c2C, z0C, z1C, z2C⟩ := three_facts hC
  have HC := Lib.hid hC
  have HZ := Lib.hid hbz
  clear hb hbz hA hB hC
  go_wp2_with fail
  refine (HR.out _).mono ?_
  rintro e _ ⟨rfl, rfl⟩
  go_wp2_with fail
  refine (HN.out _).mono ?_
  rintro e w2 ⟨rfl, hb⟩
  have hA := keep HA.out hb
  have hB := keep HB.out hb
  have hC := keep HC.out hb
  have hbz := HZ.out.trans (hb.mono HZ.out.size)
  clear HA HB HC HZ
  obtain ⟨c0A, c1A, c2A, z0A, z1A, z2A⟩ := three_facts hA
  have HA := Lib.hid hA
  obtain ⟨c0B, c1B, c2B, z0B, z1B, z2B⟩ := three_facts hB
  have HB := Lib.hid hB
  obtain ⟨c0C, c1C, c2C, z0C, z1C, z2C⟩ := three_facts hC
  have HC := Lib.hid hC
  have HZ := Lib.hid hbz
  clear hb hbz hA hB hC
  go_wp2_with fail
  (try simp only [Exit.inBlock, Exit.then])
  refine bodyPost_ret (results_cell_tmp rfl _ _ (w.heap.size + 1 + 1) 23 #[.int .i64 2, .int .i64 z, .string ⟨#[]⟩] (0, 0) _ rfl (heap_three HC.out _ _ _) Try.underlying23 rfl A.infoV) ?_ ?_
  · rfl
  · exact ⟨rfl, ((HZ.out.setCell (by simp; omega) _).setCell (by simp; omega) _).setCell (by simp; omega) _⟩
end Go.Proofs.Ythmeehmobcaadaa.Va
