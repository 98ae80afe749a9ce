/- 'ValueTexts': the walk. -/
import Derived.Test.YthmeehmobcaadaaVal9
import Derived.Test.YthmeehmobcaadaaTxt
namespace Go.Proofs.Ythmeehmobcaadaa.Va
open Go.RowKit Go.ChangeShapes Go.WideShapes Go.ChangeAt

theorem A.ix2_0 (w : World) : (Instr.index 36 (.agg #[.string ⟨#[102, 97, 108, 115, 101]⟩, .string ⟨#[116, 114, 117, 101]⟩]) (.int .i64 0)).run Try.prog w = .ok (.string ⟨#[102, 97, 108, 115, 101]⟩) w := by
  simp [Instr.index, run_underlying Try.underlying36, asIntOf, go_sem]
theorem A.ix2_1 (w : World) : (Instr.index 36 (.agg #[.string ⟨#[102, 97, 108, 115, 101]⟩, .string ⟨#[116, 114, 117, 101]⟩]) (.int .i64 1)).run Try.prog w = .ok (.string ⟨#[116, 114, 117, 101]⟩) w := by
  simp [Instr.index, run_underlying Try.underlying36, asIntOf, go_sem]
set_option maxRecDepth 100000 in
set_option maxHeartbeats 1000000 in
theorem vt_off (k n : Int) (s : ByteArray) (hok : okB k n s = false) (w : World) : Calls Try.prog 5 #[.agg #[.int .i64 k, .int .i64 n, .string s]] w fun e w' => e = .returned (.bool true) ∧ Below w.heap.size w w' := by
  have HR : Hid (∀ w, Calls Try.prog 14 #[.slice (some ⟨w.heap.size, 0, none⟩) 1 1] (w.alloc (.cells #[.int .i64 k, .int .i64 n, .string s] 23)) fun e w' => e = .returned (.bool false) ∧ Below w.heap.size w w') := fun w => by have h := right_one k n s 23 w; rw [hok] at h; exact h
  clear hok
  go_enter Try.func5, Try.ntmps5
  go_wp2_with fail
  refine (tells_any _).mono ?_
  rintro e w1 ⟨rfl, hb⟩
  obtain ⟨hA, hbz⟩ := box1 hb
  obtain ⟨c0A, c1A, c2A, z0A, z1A, z2A⟩ := three_facts hA
  have HA := Lib.hid hA
  have HZ := Lib.hid hbz
  clear hb hbz hA
  go_wp2_with fail
  refine (HR.out _).mono ?_
  rintro e w2 ⟨rfl, hb⟩
  have hA := keep HA.out hb
  have hbz := HZ.out.trans (hb.mono HZ.out.size)
  clear HZ HA
  clear c0A c1A c2A z0A z1A z2A
  obtain ⟨c0A, c1A, c2A, z0A, z1A, z2A⟩ := three_facts hA
  have HA := Lib.hid hA
  have HZ := Lib.hid hbz
  clear hb hbz hA
  go_wp2_with fail
  go_ret
  exact ⟨rfl, HZ.out⟩
set_option maxRecDepth 100000 in
set_option maxHeartbeats 1000000 in
theorem vt_null (hok : okB 0 0 ⟨#[]⟩ = true) (w : World) : Calls Try.prog 5 #[.agg #[.int .i64 0, .int .i64 0, .string ⟨#[]⟩]] w fun e w' => e = .returned (.bool true) ∧ Below w.heap.size w w' := by
  have HR : Hid (∀ w, Calls Try.prog 14 #[.slice (some ⟨w.heap.size, 0, none⟩) 1 1] (w.alloc (.cells #[.int .i64 0, .int .i64 0, .string ⟨#[]⟩] 23)) fun e w' => e = .returned (.bool true) ∧ Below w.heap.size w w') := fun w => by have h := right_one 0 0 ⟨#[]⟩ 23 w; rw [hok] at h; exact h
  clear hok
  have HT : Hid (∀ w, Calls Try.prog 17 #[.agg #[.int .i64 0, .int .i64 0, .string ⟨#[]⟩]] w fun e w' => e = .returned (.tuple #[.string ⟨#[110, 117, 108, 108]⟩, .int .i64 0]) ∧ Below w.heap.size w w') := fun w => text_any 0 0 ⟨#[]⟩ (by omega) (by omega) (by omega) (by omega) w
  have HQ : Hid (∀ w, Calls Try.prog 18 #[.agg #[.int .i64 0, .int .i64 0, .string ⟨#[]⟩]] w fun e w' => e = .returned (.tuple #[.string ⟨#[110, 117, 108, 108]⟩, .int .i64 0]) ∧ Below w.heap.size w w') := fun w => source_any 0 0 ⟨#[]⟩ (by omega) (by omega) (by omega) (by omega) (by decide) w
  have HN : Hid (∀ w, Calls Try.prog 21 #[.agg #[.int .i64 0, .int .i64 0, .string ⟨#[]⟩]] w fun e w' => e = .returned (.tuple #[.int .i64 0, .int .i64 30]) ∧ Below w.heap.size w w') := fun w => number_any 0 0 ⟨#[]⟩ (by omega) (by omega) (by decide) w
  go_enter Try.func5, Try.ntmps5
  go_wp2_with fail
  refine (tells_any _).mono ?_
  rintro e w1 ⟨rfl, hb⟩
  obtain ⟨hA, hbz⟩ := box1 hb
  obtain ⟨c0A, c1A, c2A, z0A, z1A, z2A⟩ := three_facts hA
  have HA := Lib.hid hA
  have HZ := Lib.hid hbz
  clear hb hbz hA
  go_wp2_with fail
  refine (HR.out _).mono ?_
  rintro e w2 ⟨rfl, hb⟩
  have hA := keep HA.out hb
  have hbz := HZ.out.trans (hb.mono HZ.out.size)
  clear HZ HA
  clear c0A c1A c2A z0A z1A z2A
  obtain ⟨c0A, c1A, c2A, z0A, z1A, z2A⟩ := three_facts hA
  have HA := Lib.hid hA
  have HZ := Lib.hid hbz
  clear hb hbz hA
  go_wp2_with fail
  refine (HT.out _).mono ?_
  rintro e w3 ⟨rfl, hb⟩
  have hA := keep HA.out hb
  have hbz := HZ.out.trans (hb.mono HZ.out.size)
  clear HZ HA
  clear c0A c1A c2A z0A z1A z2A
  obtain ⟨c0A, c1A, c2A, z0A, z1A, z2A⟩ := three_facts hA
  have HA := Lib.hid hA
  have HZ := Lib.hid hbz
  clear hb hbz hA
  go_wp2_with fail
  refine (HQ.out _).mono ?_
  rintro e w4 ⟨rfl, hb⟩
  have hA := keep HA.out hb
  have hbz := HZ.out.trans (hb.mono HZ.out.size)
  clear HZ HA
  clear c0A c1A c2A z0A z1A z2A
  obtain ⟨c0A, c1A, c2A, z0A, z1A, z2A⟩ := three_facts hA
  have HA := Lib.hid hA
  have HZ := Lib.hid hbz
  clear hb hbz hA
  go_wp2_with fail
  refine (HN.out _).mono ?_
  rintro e w5 ⟨rfl, hb⟩
  have hA := keep HA.out hb
  have hbz := HZ.out.trans (hb.mono HZ.out.size)
  clear HZ HA
  clear c0A c1A c2A z0A z1A z2A
  obtain ⟨c0A, c1A, c2A, z0A, z1A, z2A⟩ := three_facts hA
  have HA := Lib.hid hA
  have HZ := Lib.hid hbz
  clear hb hbz hA
  go_wp2_with fail
  go_ret
  exact ⟨rfl, HZ.out⟩
set_option maxRecDepth 100000 in
set_option maxHeartbeats 1000000 in
theorem vt_false (hok : okB 1 0 ⟨#[]⟩ = true) (w : World) : Calls Try.prog 5 #[.agg #[.int .i64 1, .int .i64 0, .string ⟨#[]⟩]] w fun e w' => e = .returned (.bool true) ∧ Below w.heap.size w w' := by
  have HR : Hid (∀ w, Calls Try.prog 14 #[.slice (some ⟨w.heap.size, 0, none⟩) 1 1] (w.alloc (.cells #[.int .i64 1, .int .i64 0, .string ⟨#[]⟩] 23)) fun e w' => e = .returned (.bool true) ∧ Below w.heap.size w w') := fun w => by have h := right_one 1 0 ⟨#[]⟩ 23 w; rw [hok] at h; exact h
  clear hok
  have HT : Hid (∀ w, Calls Try.prog 17 #[.agg #[.int .i64 1, .int .i64 0, .string ⟨#[]⟩]] w fun e w' => e = .returned (.tuple #[.string ⟨#[102, 97, 108, 115, 101]⟩, .int .i64 0]) ∧ Below w.heap.size w w') := fun w => text_any 1 0 ⟨#[]⟩ (by omega) (by omega) (by omega) (by omega) w
  have HQ : Hid (∀ w, Calls Try.prog 18 #[.agg #[.int .i64 1, .int .i64 0, .string ⟨#[]⟩]] w fun e w' => e = .returned (.tuple #[.string ⟨#[102, 97, 108, 115, 101]⟩, .int .i64 0]) ∧ Below w.heap.size w w') := fun w => source_any 1 0 ⟨#[]⟩ (by omega) (by omega) (by omega) (by omega) (by decide) w
  have HN : Hid (∀ w, Calls Try.prog 21 #[.agg #[.int .i64 1, .int .i64 0, .string ⟨#[]⟩]] w fun e w' => e = .returned (.tuple #[.int .i64 0, .int .i64 0]) ∧ Below w.heap.size w w') := fun w => number_any 1 0 ⟨#[]⟩ (by omega) (by omega) (by decide) w
  have hix := A.ix2_0
  go_enter Try.func5, Try.ntmps5
  go_wp2_with fail
  refine (tells_any _).mono ?_
  rintro e w1 ⟨rfl, hb⟩
  obtain ⟨hA, hbz⟩ := box1 hb
  obtain ⟨c0A, c1A, c2A, z0A, z1A, z2A⟩ := three_facts hA
  have HA := Lib.hid hA
  have HZ := Lib.hid hbz
  clear hb hbz hA
  go_wp2_with fail
  refine (HR.out _).mono ?_
  rintro e w2 ⟨rfl, hb⟩
  have hA := keep HA.out hb
  have hbz := HZ.out.trans (hb.mono HZ.out.size)
  clear HZ HA
  clear c0A c1A c2A z0A z1A z2A
  obtain ⟨c0A, c1A, c2A, z0A, z1A, z2A⟩ := three_facts hA
  have HA := Lib.hid hA
  have HZ := Lib.hid hbz
  clear hb hbz hA
  go_wp2_with fail
  refine (HT.out _).mono ?_
  rintro e w3 ⟨rfl, hb⟩
  have hA := keep HA.out hb
  have hbz := HZ.out.trans (hb.mono HZ.out.size)
  clear HZ HA
  clear c0A c1A c2A z0A z1A z2A
  obtain ⟨c0A, c1A, c2A, z0A, z1A, z2A⟩ := three_facts hA
  have HA := Lib.hid hA
  have HZ := Lib.hid hbz
  clear hb hbz hA
  go_wp2_with fail
  refine (HQ.out _).mono ?_
  rintro e w4 ⟨rfl, hb⟩
  have hA := keep HA.out hb
  have hbz := HZ.out.trans (hb.mono HZ.out.size)
  clear HZ HA
  clear c0A c1A c2A z0A z1A z2A
  obtain ⟨c0A, c1A, c2A, z0A, z1A, z2A⟩ := three_facts hA
  have HA := Lib.hid hA
  have HZ := Lib.hid hbz
  clear hb hbz hA
  go_wp2_with fail
  refine (HN.out _).mono ?_
  rintro e w5 ⟨rfl, hb⟩
  have hA := keep HA.out hb
  have hbz := HZ.out.trans (hb.mono HZ.out.size)
  clear HZ HA
  clear c0A c1A c2A z0A z1A z2A
  obtain ⟨c0A, c1A, c2A, z0A, z1A, z2A⟩ := three_facts hA
  have HA := Lib.hid hA
  have HZ := Lib.hid hbz
  clear hb hbz hA
  go_wp2_with fail
  go_ret
  exact ⟨rfl, HZ.out⟩
set_option maxRecDepth 100000 in
set_option maxHeartbeats 1000000 in
theorem vt_true (hok : okB 1 1 ⟨#[]⟩ = true) (w : World) : Calls Try.prog 5 #[.agg #[.int .i64 1, .int .i64 1, .string ⟨#[]⟩]] w fun e w' => e = .returned (.bool true) ∧ Below w.heap.size w w' := by
  have HR : Hid (∀ w, Calls Try.prog 14 #[.slice (some ⟨w.heap.size, 0, none⟩) 1 1] (w.alloc (.cells #[.int .i64 1, .int .i64 1, .string ⟨#[]⟩] 23)) fun e w' => e = .returned (.bool true) ∧ Below w.heap.size w w') := fun w => by have h := right_one 1 1 ⟨#[]⟩ 23 w; rw [hok] at h; exact h
  clear hok
  have HT : Hid (∀ w, Calls Try.prog 17 #[.agg #[.int .i64 1, .int .i64 1, .string ⟨#[]⟩]] w fun e w' => e = .returned (.tuple #[.string ⟨#[116, 114, 117, 101]⟩, .int .i64 0]) ∧ Below w.heap.size w w') := fun w => text_any 1 1 ⟨#[]⟩ (by omega) (by omega) (by omega) (by omega) w
  have HQ : Hid (∀ w, Calls Try.prog 18 #[.agg #[.int .i64 1, .int .i64 1, .string ⟨#[]⟩]] w fun e w' => e = .returned (.tuple #[.string ⟨#[116, 114, 117, 101]⟩, .int .i64 0]) ∧ Below w.heap.size w w') := fun w => source_any 1 1 ⟨#[]⟩ (by omega) (by omega) (by omega) (by omega) (by decide) w
  have HN : Hid (∀ w, Calls Try.prog 21 #[.agg #[.int .i64 1, .int .i64 1, .string ⟨#[]⟩]] w fun e w' => e = .returned (.tuple #[.int .i64 1, .int .i64 0]) ∧ Below w.heap.size w w') := fun w => number_any 1 1 ⟨#[]⟩ (by omega) (by omega) (by decide) w
  have hix := A.ix2_1
  go_enter Try.func5, Try.ntmps5
  go_wp2_with fail
  refine (tells_any _).mono ?_
  rintro e w1 ⟨rfl, hb⟩
  obtain ⟨hA, hbz⟩ := box1 hb
  obtain ⟨c0A, c1A, c2A, z0A, z1A, z2A⟩ := three_facts hA
  have HA := Lib.hid hA
  have HZ := Lib.hid hbz
  clear hb hbz hA
  go_wp2_with fail
  refine (HR.out _).mono ?_
  rintro e w2 ⟨rfl, hb⟩
  have hA := keep HA.out hb
  have hbz := HZ.out.trans (hb.mono HZ.out.size)
  clear HZ HA
  clear c0A c1A c2A z0A z1A z2A
  obtain ⟨c0A, c1A, c2A, z0A, z1A, z2A⟩ := three_facts hA
  have HA := Lib.hid hA
  have HZ := Lib.hid hbz
  clear hb hbz hA
  go_wp2_with fail
  refine (HT.out _).mono ?_
  rintro e w3 ⟨rfl, hb⟩
  have hA := keep HA.out hb
  have hbz := HZ.out.trans (hb.mono HZ.out.size)
  clear HZ HA
  clear c0A c1A c2A z0A z1A z2A
  obtain ⟨c0A, c1A, c2A, z0A, z1A, z2A⟩ := three_facts hA
  have HA := Lib.hid hA
  have HZ := Lib.hid hbz
  clear hb hbz hA
  go_wp2_with fail
  refine (HQ.out _).mono ?_
  rintro e w4 ⟨rfl, hb⟩
  have hA := keep HA.out hb
  have hbz := HZ.out.trans (hb.mono HZ.out.size)
  clear HZ HA
  clear c0A c1A c2A z0A z1A z2A
  obtain ⟨c0A, c1A, c2A, z0A, z1A, z2A⟩ := three_facts hA
  have HA := Lib.hid hA
  have HZ := Lib.hid hbz
  clear hb hbz hA
  go_wp2_with fail
  refine (HN.out _).mono ?_
  rintro e w5 ⟨rfl, hb⟩
  have hA := keep HA.out hb
  have hbz := HZ.out.trans (hb.mono HZ.out.size)
  clear HZ HA
  clear c0A c1A c2A z0A z1A z2A
  obtain ⟨c0A, c1A, c2A, z0A, z1A, z2A⟩ := three_facts hA
  have HA := Lib.hid hA
  have HZ := Lib.hid hbz
  clear hb hbz hA
  go_wp2_with fail
  go_ret
  exact ⟨rfl, HZ.out⟩
set_option maxRecDepth 100000 in
set_option maxHeartbeats 1000000 in
theorem vt_ref (n : Int) (s : ByteArray) (hok : okB 4 n s = true) (HT : ∀ w, Calls Try.prog 17 #[.agg #[.int .i64 4, .int .i64 n, .string s]] w fun e w' => e = .returned (.tuple #[.string ⟨#[]⟩, .int .i64 30]) ∧ Below w.heap.size w w') (HQ : ∀ w, Calls Try.prog 18 #[.agg #[.int .i64 4, .int .i64 n, .string s]] w fun e w' => e = .returned (.tuple #[.string ⟨#[]⟩, .int .i64 30]) ∧ Below w.heap.size w w') (w : World) : Calls Try.prog 5 #[.agg #[.int .i64 4, .int .i64 n, .string s]] w fun e w' => e = .returned (.bool true) ∧ Below w.heap.size w w' := by
  have HR : Hid (∀ w, Calls Try.prog 14 #[.slice (some ⟨w.heap.size, 0, none⟩) 1 1] (w.alloc (.cells #[.int .i64 4, .int .i64 n, .string s] 23)) fun e w' => e = .returned (.bool true) ∧ Below w.heap.size w w') := fun w => by have h := right_one 4 n s 23 w; rw [hok] at h; exact h
  clear hok
  have HT := Lib.hid HT
  have HQ := Lib.hid HQ
  go_enter Try.func5, Try.ntmps5
  go_wp2_with fail
  refine (tells_any _).mono ?_
  rintro e w1 ⟨rfl, hb⟩
  obtain ⟨hA, hbz⟩ := box1 hb
  obtain ⟨c0A, c1A, c2A, z0A, z1A, z2A⟩ := three_facts hA
  have HA := Lib.hid hA
  have HZ := Lib.hid hbz
  clear hb hbz hA
  go_wp2_with fail
  refine (HR.out _).mono ?_
  rintro e w2 ⟨rfl, hb⟩
  have hA := keep HA.out hb
  have hbz := HZ.out.trans (hb.mono HZ.out.size)
  clear HZ HA
  clear c0A c1A c2A z0A z1A z2A
  obtain ⟨c0A, c1A, c2A, z0A, z1A, z2A⟩ := three_facts hA
  have HA := Lib.hid hA
  have HZ := Lib.hid hbz
  clear hb hbz hA
  go_wp2_with fail
  refine (HT.out _).mono ?_
  rintro e w3 ⟨rfl, hb⟩
  have hA := keep HA.out hb
  have hbz := HZ.out.trans (hb.mono HZ.out.size)
  clear HZ HA
  clear c0A c1A c2A z0A z1A z2A
  obtain ⟨c0A, c1A, c2A, z0A, z1A, z2A⟩ := three_facts hA
  have HA := Lib.hid hA
  have HZ := Lib.hid hbz
  clear hb hbz hA
  go_wp2_with fail
  refine (HQ.out _).mono ?_
  rintro e w4 ⟨rfl, hb⟩
  have hA := keep HA.out hb
  have hbz := HZ.out.trans (hb.mono HZ.out.size)
  clear HZ HA
  clear c0A c1A c2A z0A z1A z2A
  obtain ⟨c0A, c1A, c2A, z0A, z1A, z2A⟩ := three_facts hA
  have HA := Lib.hid hA
  have HZ := Lib.hid hbz
  clear hb hbz hA
  go_wp2_with fail
  go_ret
  exact ⟨rfl, HZ.out⟩
set_option maxRecDepth 100000 in
set_option maxHeartbeats 1000000 in
theorem vt_num (n : Int) (s x : ByteArray) (hok : okB 2 n s = true) (HT : ∀ w, Calls Try.prog 17 #[.agg #[.int .i64 2, .int .i64 n, .string s]] w fun e w' => e = .returned (.tuple #[.string x, .int .i64 0]) ∧ Below w.heap.size w w') (HQ : ∀ w, Calls Try.prog 18 #[.agg #[.int .i64 2, .int .i64 n, .string s]] w fun e w' => e = .returned (.tuple #[.string x, .int .i64 0]) ∧ Below w.heap.size w w') (HX : ∀ w, Calls Try.prog 19 #[.int .i64 n] w fun e w' => e = .returned (.string x) ∧ Below w.heap.size w w') (HN : ∀ w, Calls Try.prog 21 #[.agg #[.int .i64 2, .int .i64 n, .string s]] w fun e w' => e = .returned (.tuple #[.int .i64 n, .int .i64 0]) ∧ Below w.heap.size w w') (HM : ∀ w, Calls Try.prog 21 #[.agg #[.int .i64 3, .int .i64 0, .string x]] w fun e w' => e = .returned (.tuple #[.int .i64 n, .int .i64 0]) ∧ Below w.heap.size w w') (w : World) : Calls Try.prog 5 #[.agg #[.int .i64 2, .int .i64 n, .string s]] w fun e w' => e = .returned (.bool true) ∧ Below w.heap.size w w' := by
  have HR : Hid (∀ w, Calls Try.prog 14 #[.slice (some ⟨w.heap.size, 0, none⟩) 1 1] (w.alloc (.cells #[.int .i64 2, .int .i64 n, .string s] 23)) fun e w' => e = .returned (.bool true) ∧ Below w.heap.size w w') := fun w => by have h := right_one 2 n s 23 w; rw [hok] at h; exact h
  clear hok
  have HT := Lib.hid HT
  have HQ := Lib.hid HQ
  have HX := Lib.hid HX
  have HN := Lib.hid HN
  have HM := Lib.hid HM
  go_enter Try.func5, Try.ntmps5
  go_wp2_with fail
  refine (tells_any _).mono ?_
  rintro e w1 ⟨rfl, hb⟩
  obtain ⟨hA, hbz⟩ := box1 hb
  obtain ⟨c0A, c1A, c2A, z0A, z1A, z2A⟩ := three_facts hA
  have HA := Lib.hid hA
  have HZ := Lib.hid hbz
  clear hb hbz hA
  go_wp2_with fail
  refine (HR.out _).mono ?_
  rintro e w2 ⟨rfl, hb⟩
  have hA := keep HA.out hb
  have hbz := HZ.out.trans (hb.mono HZ.out.size)
  clear HZ HA
  clear c0A c1A c2A z0A z1A z2A
  obtain ⟨c0A, c1A, c2A, z0A, z1A, z2A⟩ := three_facts hA
  have HA := Lib.hid hA
  have HZ := Lib.hid hbz
  clear hb hbz hA
  go_wp2_with fail
  refine (HT.out _).mono ?_
  rintro e w3 ⟨rfl, hb⟩
  have hA := keep HA.out hb
  have hbz := HZ.out.trans (hb.mono HZ.out.size)
  clear HZ HA
  clear c0A c1A c2A z0A z1A z2A
  obtain ⟨c0A, c1A, c2A, z0A, z1A, z2A⟩ := three_facts hA
  have HA := Lib.hid hA
  have HZ := Lib.hid hbz
  clear hb hbz hA
  go_wp2_with fail
  refine (HQ.out _).mono ?_
  rintro e w4 ⟨rfl, hb⟩
  have hA := keep HA.out hb
  have hbz := HZ.out.trans (hb.mono HZ.out.size)
  clear HZ HA
  clear c0A c1A c2A z0A z1A z2A
  obtain ⟨c0A, c1A, c2A, z0A, z1A, z2A⟩ := three_facts hA
  have HA := Lib.hid hA
  have HZ := Lib.hid hbz
  clear hb hbz hA
  go_wp2_with fail
  refine (HX.out _).mono ?_
  rintro e w5 ⟨rfl, hb⟩
  have hA := keep HA.out hb
  have hbz := HZ.out.trans (hb.mono HZ.out.size)
  clear HZ HA
  clear c0A c1A c2A z0A z1A z2A
  obtain ⟨c0A, c1A, c2A, z0A, z1A, z2A⟩ := three_facts hA
  have HA := Lib.hid hA
  have HZ := Lib.hid hbz
  clear hb hbz hA
  go_wp2_with fail
  refine (HN.out _).mono ?_
  rintro e w6 ⟨rfl, hb⟩
  have hA := keep HA.out hb
  have hbz := HZ.out.trans (hb.mono HZ.out.size)
  clear HZ HA
  clear c0A c1A c2A z0A z1A z2A
  obtain ⟨c0A, c1A, c2A, z0A, z1A, z2A⟩ := three_facts hA
  have HA := Lib.hid hA
  have HZ := Lib.hid hbz
  clear hb hbz hA
  go_wp2_with fail
  refine (str_any _ _).mono ?_
  rintro e w7 ⟨rfl, hb⟩
  have hA := keep HA.out hb
  have hbz := HZ.out.trans (hb.mono HZ.out.size)
  clear HZ HA
  clear c0A c1A c2A z0A z1A z2A
  obtain ⟨c0A, c1A, c2A, z0A, z1A, z2A⟩ := three_facts hA
  have HA := Lib.hid hA
  have HZ := Lib.hid hbz
  clear hb hbz hA
  go_wp2_with fail
  refine (HM.out _).mono ?_
  rintro e w8 ⟨rfl, hb⟩
  have hA := keep HA.out hb
  have hbz := HZ.out.trans (hb.mono HZ.out.size)
  clear HZ HA
  clear c0A c1A c2A z0A z1A z2A
  obtain ⟨c0A, c1A, c2A, z0A, z1A, z2A⟩ := three_facts hA
  have HA := Lib.hid hA
  have HZ := Lib.hid hbz
  clear hb hbz hA
  go_wp2_with fail
  go_ret
  exact ⟨rfl, HZ.out⟩
set_option maxRecDepth 100000 in
set_option maxHeartbeats 1000000 in
theorem vt_text_empty (s q : ByteArray) (hok : okB 3 0 s = true) (HT : ∀ w, Calls Try.prog 17 #[.agg #[.int .i64 3, .int .i64 0, .string s]] w fun e w' => e = .returned (.tuple #[.string s, .int .i64 0]) ∧ Below w.heap.size w w') (HQ : ∀ w, Calls Try.prog 18 #[.agg #[.int .i64 3, .int .i64 0, .string s]] w fun e w' => e = .returned (.tuple #[.string q, .int .i64 0]) ∧ Below w.heap.size w w') (HX : ∀ w, Calls Try.prog 20 #[.string s] w fun e w' => e = .returned (.string q) ∧ Below w.heap.size w w') (m z : Int) (HL : ∀ w, Calls Try.prog 23 #[.string s] w fun e w' => e = .returned (.tuple #[.int .i64 m, .int .i64 z]) ∧ w = w') (HN : ∀ w, Calls Try.prog 21 #[.agg #[.int .i64 3, .int .i64 0, .string s]] w fun e w' => e = .returned (.tuple #[.int .i64 0, .int .i64 5]) ∧ Below w.heap.size w w') (hs : s.toList = []) (w : World) : Calls Try.prog 5 #[.agg #[.int .i64 3, .int .i64 0, .string s]] w fun e w' => e = .returned (.bool true) ∧ Below w.heap.size w w' := by
  have HR : Hid (∀ w, Calls Try.prog 14 #[.slice (some ⟨w.heap.size, 0, none⟩) 1 1] (w.alloc (.cells #[.int .i64 3, .int .i64 0, .string s] 23)) fun e w' => e = .returned (.bool true) ∧ Below w.heap.size w w') := fun w => by have h := right_one 3 0 s 23 w; rw [hok] at h; exact h
  clear hok
  have HT := Lib.hid HT
  have HQ := Lib.hid HQ
  have HX := Lib.hid HX
  have HN := Lib.hid HN
  have HL := Lib.hid HL
  have hs2 : s.toList.isEmpty = true := by simp [hs]
  go_enter Try.func5, Try.ntmps5
  go_wp2_with fail
  refine (tells_any _).mono ?_
  rintro e w1 ⟨rfl, hb⟩
  obtain ⟨hA, hbz⟩ := box1 hb
  obtain ⟨c0A, c1A, c2A, z0A, z1A, z2A⟩ := three_facts hA
  have HA := Lib.hid hA
  have HZ := Lib.hid hbz
  clear hb hbz hA
  go_wp2_with fail
  refine (HR.out _).mono ?_
  rintro e w2 ⟨rfl, hb⟩
  have hA := keep HA.out hb
  have hbz := HZ.out.trans (hb.mono HZ.out.size)
  clear HZ HA
  clear c0A c1A c2A z0A z1A z2A
  obtain ⟨c0A, c1A, c2A, z0A, z1A, z2A⟩ := three_facts hA
  have HA := Lib.hid hA
  have HZ := Lib.hid hbz
  clear hb hbz hA
  go_wp2_with fail
  refine (HT.out _).mono ?_
  rintro e w3 ⟨rfl, hb⟩
  have hA := keep HA.out hb
  have hbz := HZ.out.trans (hb.mono HZ.out.size)
  clear HZ HA
  clear c0A c1A c2A z0A z1A z2A
  obtain ⟨c0A, c1A, c2A, z0A, z1A, z2A⟩ := three_facts hA
  have HA := Lib.hid hA
  have HZ := Lib.hid hbz
  clear hb hbz hA
  go_wp2_with fail
  refine (HQ.out _).mono ?_
  rintro e w4 ⟨rfl, hb⟩
  have hA := keep HA.out hb
  have hbz := HZ.out.trans (hb.mono HZ.out.size)
  clear HZ HA
  clear c0A c1A c2A z0A z1A z2A
  obtain ⟨c0A, c1A, c2A, z0A, z1A, z2A⟩ := three_facts hA
  have HA := Lib.hid hA
  have HZ := Lib.hid hbz
  clear hb hbz hA
  go_wp2_with fail
  refine (HX.out _).mono ?_
  rintro e w5 ⟨rfl, hb⟩
  have hA := keep HA.out hb
  have hbz := HZ.out.trans (hb.mono HZ.out.size)
  clear HZ HA
  clear c0A c1A c2A z0A z1A z2A
  obtain ⟨c0A, c1A, c2A, z0A, z1A, z2A⟩ := three_facts hA
  have HA := Lib.hid hA
  have HZ := Lib.hid hbz
  clear hb hbz hA
  go_wp2_with fail
  refine (HN.out _).mono ?_
  rintro e w6 ⟨rfl, hb⟩
  have hA := keep HA.out hb
  have hbz := HZ.out.trans (hb.mono HZ.out.size)
  clear HZ HA
  clear c0A c1A c2A z0A z1A z2A
  obtain ⟨c0A, c1A, c2A, z0A, z1A, z2A⟩ := three_facts hA
  have HA := Lib.hid hA
  have HZ := Lib.hid hbz
  clear hb hbz hA
  go_wp2_with fail
  refine (HL.out _).mono ?_
  rintro e _ ⟨rfl, rfl⟩
  go_wp2_with fail
  go_ret
  exact ⟨rfl, HZ.out⟩
set_option maxRecDepth 100000 in
set_option maxHeartbeats 1000000 in
theorem vt_text_short (s q : ByteArray) (hok : okB 3 0 s = true) (HT : ∀ w, Calls Try.prog 17 #[.agg #[.int .i64 3, .int .i64 0, .string s]] w fun e w' => e = .returned (.tuple #[.string s, .int .i64 0]) ∧ Below w.heap.size w w') (HQ : ∀ w, Calls Try.prog 18 #[.agg #[.int .i64 3, .int .i64 0, .string s]] w fun e w' => e = .returned (.tuple #[.string q, .int .i64 0]) ∧ Below w.heap.size w w') (HX : ∀ w, Calls Try.prog 20 #[.string s] w fun e w' => e = .returned (.string q) ∧ Below w.heap.size w w') (m z : Int) (HL : ∀ w, Calls Try.prog 23 #[.string s] w fun e w' => e = .returned (.tuple #[.int .i64 m, .int .i64 z]) ∧ w = w') (HN : ∀ w, Calls Try.prog 21 #[.agg #[.int .i64 3, .int .i64 0, .string s]] w fun e w' => e = .returned (.tuple #[.int .i64 0, .int .i64 5]) ∧ Below w.heap.size w w') (hs : ¬ s.toList = []) (hz : ¬ z = (s.size : Int)) (w : World) : Calls Try.prog 5 #[.agg #[.int .i64 3, .int .i64 0, .string s]] w fun e w' => e = .returned (.bool true) ∧ Below w.heap.size w w' := by
  have HR : Hid (∀ w, Calls Try.prog 14 #[.slice (some ⟨w.heap.size, 0, none⟩) 1 1] (w.alloc (.cells #[.int .i64 3, .int .i64 0, .string s] 23)) fun e w' => e = .returned (.bool true) ∧ Below w.heap.size w w') := fun w => by have h := right_one 3 0 s 23 w; rw [hok] at h; exact h
  clear hok
  have HT := Lib.hid HT
  have HQ := Lib.hid HQ
  have HX := Lib.hid HX
  have HN := Lib.hid HN
  have HL := Lib.hid HL
  have hs2 : s.toList.isEmpty = false := by simp [hs]
  have hz2 := bne_yes hz
  go_enter Try.func5, Try.ntmps5
  go_wp2_with fail
  refine (tells_any _).mono ?_
  rintro e w1 ⟨rfl, hb⟩
  obtain ⟨hA, hbz⟩ := box1 hb
  obtain ⟨c0A, c1A, c2A, z0A, z1A, z2A⟩ := three_facts hA
  have HA := Lib.hid hA
  have HZ := Lib.hid hbz
  clear hb hbz hA
  go_wp2_with fail
  refine (HR.out _).mono ?_
  rintro e w2 ⟨rfl, hb⟩
  have hA := keep HA.out hb
  have hbz := HZ.out.trans (hb.mono HZ.out.size)
  clear HZ HA
  clear c0A c1A c2A z0A z1A z2A
  obtain ⟨c0A, c1A, c2A, z0A, z1A, z2A⟩ := three_facts hA
  have HA := Lib.hid hA
  have HZ := Lib.hid hbz
  clear hb hbz hA
  go_wp2_with fail
  refine (HT.out _).mono ?_
  rintro e w3 ⟨rfl, hb⟩
  have hA := keep HA.out hb
  have hbz := HZ.out.trans (hb.mono HZ.out.size)
  clear HZ HA
  clear c0A c1A c2A z0A z1A z2A
  obtain ⟨c0A, c1A, c2A, z0A, z1A, z2A⟩ := three_facts hA
  have HA := Lib.hid hA
  have HZ := Lib.hid hbz
  clear hb hbz hA
  go_wp2_with fail
  refine (HQ.out _).mono ?_
  rintro e w4 ⟨rfl, hb⟩
  have hA := keep HA.out hb
  have hbz := HZ.out.trans (hb.mono HZ.out.size)
  clear HZ HA
  clear c0A c1A c2A z0A z1A z2A
  obtain ⟨c0A, c1A, c2A, z0A, z1A, z2A⟩ := three_facts hA
  have HA := Lib.hid hA
  have HZ := Lib.hid hbz
  clear hb hbz hA
  go_wp2_with fail
  refine (HX.out _).mono ?_
  rintro e w5 ⟨rfl, hb⟩
  have hA := keep HA.out hb
  have hbz := HZ.out.trans (hb.mono HZ.out.size)
  clear HZ HA
  clear c0A c1A c2A z0A z1A z2A
  obtain ⟨c0A, c1A, c2A, z0A, z1A, z2A⟩ := three_facts hA
  have HA := Lib.hid hA
  have HZ := Lib.hid hbz
  clear hb hbz hA
  go_wp2_with fail
  refine (HN.out _).mono ?_
  rintro e w6 ⟨rfl, hb⟩
  have hA := keep HA.out hb
  have hbz := HZ.out.trans (hb.mono HZ.out.size)
  clear HZ HA
  clear c0A c1A c2A z0A z1A z2A
  obtain ⟨c0A, c1A, c2A, z0A, z1A, z2A⟩ := three_facts hA
  have HA := Lib.hid hA
  have HZ := Lib.hid hbz
  clear hb hbz hA
  go_wp2_with fail
  refine (HL.out _).mono ?_
  rintro e _ ⟨rfl, rfl⟩
  go_wp2_with fail
  go_ret
  exact ⟨rfl, HZ.out⟩
set_option maxRecDepth 100000 in
set_option maxHeartbeats 1000000 in
theorem vt_text_whole (s q : ByteArray) (hok : okB 3 0 s = true) (HT : ∀ w, Calls Try.prog 17 #[.agg #[.int .i64 3, .int .i64 0, .string s]] w fun e w' => e = .returned (.tuple #[.string s, .int .i64 0]) ∧ Below w.heap.size w w') (HQ : ∀ w, Calls Try.prog 18 #[.agg #[.int .i64 3, .int .i64 0, .string s]] w fun e w' => e = .returned (.tuple #[.string q, .int .i64 0]) ∧ Below w.heap.size w w') (HX : ∀ w, Calls Try.prog 20 #[.string s] w fun e w' => e = .returned (.string q) ∧ Below w.heap.size w w') (m z : Int) (HL : ∀ w, Calls Try.prog 23 #[.string s] w fun e w' => e = .returned (.tuple #[.int .i64 m, .int .i64 z]) ∧ w = w') (HN : ∀ w, Calls Try.prog 21 #[.agg #[.int .i64 3, .int .i64 0, .string s]] w fun e w' => e = .returned (.tuple #[.int .i64 m, .int .i64 0]) ∧ Below w.heap.size w w') (hs : ¬ s.toList = []) (hz : z = (s.size : Int)) (w : World) : Calls Try.prog 5 #[.agg #[.int .i64 3, .int .i64 0, .string s]] w fun e w' => e = .returned (.bool true) ∧ Below w.heap.size w w' := by
  have HR : Hid (∀ w, Calls Try.prog 14 #[.slice (some ⟨w.heap.size, 0, none⟩) 1 1] (w.alloc (.cells #[.int .i64 3, .int .i64 0, .string s] 23)) fun e w' => e = .returned (.bool true) ∧ Below w.heap.size w w') := fun w => by have h := right_one 3 0 s 23 w; rw [hok] at h; exact h
  clear hok
  have HT := Lib.hid HT
  have HQ := Lib.hid HQ
  have HX := Lib.hid HX
  have HN := Lib.hid HN
  have HL := Lib.hid HL
  have hs2 : s.toList.isEmpty = false := by simp [hs]
  subst hz
  go_enter Try.func5, Try.ntmps5
  go_wp2_with fail
  refine (tells_any _).mono ?_
  rintro e w1 ⟨rfl, hb⟩
  obtain ⟨hA, hbz⟩ := box1 hb
  obtain ⟨c0A, c1A, c2A, z0A, z1A, z2A⟩ := three_facts hA
  have HA := Lib.hid hA
  have HZ := Lib.hid hbz
  clear hb hbz hA
  go_wp2_with fail
  refine (HR.out _).mono ?_
  rintro e w2 ⟨rfl, hb⟩
  have hA := keep HA.out hb
  have hbz := HZ.out.trans (hb.mono HZ.out.size)
  clear HZ HA
  clear c0A c1A c2A z0A z1A z2A
  obtain ⟨c0A, c1A, c2A, z0A, z1A, z2A⟩ := three_facts hA
  have HA := Lib.hid hA
  have HZ := Lib.hid hbz
  clear hb hbz hA
  go_wp2_with fail
  refine (HT.out _).mono ?_
  rintro e w3 ⟨rfl, hb⟩
  have hA := keep HA.out hb
  have hbz := HZ.out.trans (hb.mono HZ.out.size)
  clear HZ HA
  clear c0A c1A c2A z0A z1A z2A
  obtain ⟨c0A, c1A, c2A, z0A, z1A, z2A⟩ := three_facts hA
  have HA := Lib.hid hA
  have HZ := Lib.hid hbz
  clear hb hbz hA
  go_wp2_with fail
  refine (HQ.out _).mono ?_
  rintro e w4 ⟨rfl, hb⟩
  have hA := keep HA.out hb
  have hbz := HZ.out.trans (hb.mono HZ.out.size)
  clear HZ HA
  clear c0A c1A c2A z0A z1A z2A
  obtain ⟨c0A, c1A, c2A, z0A, z1A, z2A⟩ := three_facts hA
  have HA := Lib.hid hA
  have HZ := Lib.hid hbz
  clear hb hbz hA
  go_wp2_with fail
  refine (HX.out _).mono ?_
  rintro e w5 ⟨rfl, hb⟩
  have hA := keep HA.out hb
  have hbz := HZ.out.trans (hb.mono HZ.out.size)
  clear HZ HA
  clear c0A c1A c2A z0A z1A z2A
  obtain ⟨c0A, c1A, c2A, z0A, z1A, z2A⟩ := three_facts hA
  have HA := Lib.hid hA
  have HZ := Lib.hid hbz
  clear hb hbz hA
  go_wp2_with fail
  refine (HN.out _).mono ?_
  rintro e w6 ⟨rfl, hb⟩
  have hA := keep HA.out hb
  have hbz := HZ.out.trans (hb.mono HZ.out.size)
  clear HZ HA
  clear c0A c1A c2A z0A z1A z2A
  obtain ⟨c0A, c1A, c2A, z0A, z1A, z2A⟩ := three_facts hA
  have HA := Lib.hid hA
  have HZ := Lib.hid hbz
  clear hb hbz hA
  go_wp2_with fail
  refine (HL.out _).mono ?_
  rintro e _ ⟨rfl, rfl⟩
  go_wp2_with fail
  go_ret
  exact ⟨rfl, HZ.out⟩

theorem run_ds : ∀ (f m : Nat), m < 10 ^ (f + 1) → ∀ (k : Nat) (l : List UInt8), Nu.leadRun (Nu.ds 10 f m ++ l) 0 k = Nu.leadRun l (wrap64 (m : Int)) (k + (Nu.ds 10 f m).length)
  | f, m, hm, k, l => by
    by_cases h : m < 10
    · rw [Nu.ds_last 10 m h f, List.singleton_append, Nu.leadRun_yes _ _ _ _ (by rw [Nu.dv_dig m (by omega)]; exact h), Nu.dv_dig m (by omega)]
      congr 1
      unfold wrap64; omega
    · match f, hm with
      | 0, hm => exact absurd hm (by omega)
      | f + 1, hm =>
        have hq : m / 10 < 10 ^ (f + 1) := by
          have e : 10 ^ (f + 1 + 1) = 10 ^ (f + 1) * 10 := Nat.pow_succ ..
          omega
        rw [Nu.ds_step 10 f m (by omega), List.append_assoc, run_ds f (m / 10) hq k, List.singleton_append, Nu.leadRun_yes _ _ _ _ (by rw [Nu.dv_dig _ (by omega)]; omega), Nu.dv_dig _ (by omega), List.length_append]
        congr 1
        unfold wrap64; omega
theorem lead_txt (n : Int) (h1 : -9223372036854775808 ≤ n) (h2 : n ≤ 9223372036854775807) : Nu.lead (Nu.txt n 10) = (n, (Nu.txt n 10).length) := by
  have hp := Nu.pow64 10 (by omega)
  have hr := fun k => run_ds 63 n.natAbs (by omega) k []
  simp only [List.append_nil, Nu.leadRun] at hr
  have hl : 0 < (Nu.ds 10 63 n.natAbs).length := List.length_pos_iff.2 (Nu.ds_ne 10 63 n.natAbs)
  by_cases hn : n < 0
  · have e : Nu.txt n 10 = 45 :: Nu.ds 10 63 n.natAbs := by unfold Nu.txt; rw [if_pos hn]; rfl
    rw [e]
    have hs : Nu.sgn (45 :: Nu.ds 10 63 n.natAbs) = 1 := by simp [Nu.sgn]
    rw [Nu.lead_minus _ 1 hs rfl _ _ (hr 1) (by omega)]
    refine Prod.ext ?_ ?_
    · show wrap64 (-(wrap64 (n.natAbs : Int))) = n
      unfold wrap64; omega
    · simp; omega
  · have e : Nu.txt n 10 = Nu.ds 10 63 n.natAbs := by unfold Nu.txt; rw [if_neg hn]; rfl
    rw [e]
    have hh : ∀ c : Nat, c < 48 → (Nu.ds 10 63 n.natAbs).head? ≠ some (UInt8.ofNat c) := by
      intro c hc he
      have hm := List.mem_of_head? he
      obtain ⟨d, hd, e2⟩ := Nu.ds_all 10 (by omega) (by omega) 63 n.natAbs (by omega) _ hm
      have e3 := congrArg UInt8.toNat e2
      rw [Nu.dig_nat d (by omega), if_pos hd, UInt8.toNat_ofNat'] at e3
      omega
    have hs : Nu.sgn (Nu.ds 10 63 n.natAbs) = 0 := by
      unfold Nu.sgn
      rw [if_neg]
      exact fun h => h.elim (hh 45 (by omega)) (hh 43 (by omega))
    have h0 := hr 0
    rw [Nat.zero_add] at h0
    rw [Nu.lead_plus _ 0 hs (hh 45 (by omega)) _ _ h0 (by omega)]
    refine Prod.ext ?_ ?_
    · show wrap64 (n.natAbs : Int) = n
      unfold wrap64; omega
    · rfl
theorem run_le : ∀ (l : List UInt8) (n : Int) (k : Nat), (Nu.leadRun l n k).2 ≤ k + l.length
  | [], _, _ => by simp [Nu.leadRun]
  | c :: l, n, k => by
    unfold Nu.leadRun
    split
    · have := run_le l (wrap64 (wrap64 (n * 10) + ((Nu.dv c.toNat : Nat) : Int))) (k + 1)
      simp only [List.length_cons]; omega
    · simp
theorem lead_le (l : List UInt8) : (Nu.lead l).2 ≤ l.length := by
  have hs : Nu.sgn l ≤ l.length := by
    unfold Nu.sgn
    cases l <;> simp
    split <;> omega
  unfold Nu.lead
  split
  · exact Nat.zero_le _
  · have := run_le (l.drop (Nu.sgn l)) 0 (Nu.sgn l)
    rw [List.length_drop] at this
    show (Nu.leadRun (l.drop (Nu.sgn l)) 0 (Nu.sgn l)).2 ≤ _
    omega
theorem valueTexts_walk (k n : Int) (s : ByteArray) (_ : (Lit.int .i64 k).wf = true) (wn : (Lit.int .i64 n).wf = true) (_ : s.size ≤ maxLen) (w : World) :
    Calls Try.prog 5 #[.agg #[.int .i64 k, .int .i64 n, .string s]] w fun e w' => e = .returned (.bool true) ∧ Below w.heap.size w w' := by
  obtain ⟨r1, r2⟩ := i64_range wn
  cases hok : okB k n s
  · exact vt_off k n s hok w
  · have R := ok_right hok
    have hsz := R.sz
    have HT := fun w => text_any k n s R.k0 R.k4 r1 r2 w
    have HQ := fun w => source_any k n s R.k0 R.k4 r1 r2 (by omega) w
    have HN := fun w => number_any k n s R.k0 R.k4 (by omega) w
    rcases right_kinds R.k0 R.k4 with rfl | rfl | rfl | rfl | rfl
    · have e := R.f0 rfl
      have e' := R.em (by omega)
      subst e; subst e'
      exact vt_null hok w
    · have e' := R.em (by omega)
      subst e'
      rcases R.f1 rfl with rfl | rfl
      · exact vt_false hok w
      · exact vt_true hok w
    · have HX := fun w => Nu.text_any n r1 r2 w
      have hl := lead_txt n r1 r2
      have hlen : (Nu.txt n 10).length ≤ 1048576 := by
        have := Nu.ds_len 10 63 n.natAbs
        unfold Nu.txt
        rw [List.length_append]
        split <;> simp <;> omega
      have hne : ¬ (Nu.txt n 10).length = 0 := by
        have := Nu.ds_ne 10 63 n.natAbs
        unfold Nu.txt
        rw [List.length_append]
        cases h : Nu.ds 10 63 n.natAbs
        · exact absurd h this
        · simp
      refine vt_num n s _ hok HT HQ HX HN (fun w => ?_) w
      have h := number_any 3 0 ⟨(Nu.txt n 10).toArray⟩ (by omega) (by omega) (by rw [size_mk]; exact hlen) w
      rw [show numV 3 0 ⟨(Nu.txt n 10).toArray⟩ = n by
        simp only [numV, hl, size_mk]
        rw [if_neg (by omega), if_pos ⟨trivial, by omega⟩], show numE 3 ⟨(Nu.txt n 10).toArray⟩ = 0 by
        simp only [numE, hl, size_mk]
        rw [if_neg (by omega), if_pos trivial, if_neg (by omega)]] at h
      exact h
    · have e := R.f3 rfl
      subst e
      have HX : ∀ w, Calls Try.prog 20 #[.string s] w fun e w' => e = .returned (.string (quo s)) ∧ Below w.heap.size w w' := fun w => quote_any s (by omega) w
      have HL := fun w => Nu.leading_any s (by unfold maxLen; omega) w
      have hle := lead_le s.data.toList
      rw [size_list] at hle
      by_cases hs : s.size = 0
      · have hp : (Nu.lead s.data.toList).2 = 0 := by omega
        rw [show numV 3 0 s = 0 by simp [numV, hp], show numE 3 s = 5 by simp [numE, hp]] at HN
        exact vt_text_empty s _ hok HT HQ HX _ _ HL HN (none_list s hs) w
      · have hs' := some_list s hs
        by_cases hz : (Nu.lead s.data.toList).2 = s.size
        · have hc : ¬ ((Nu.lead s.data.toList).2 = 0 ∨ (Nu.lead s.data.toList).2 < s.size) := by omega
          rw [show numV 3 0 s = (Nu.lead s.data.toList).1 by simp only [numV]; rw [if_neg (by omega), if_pos ⟨trivial, hc⟩], show numE 3 s = 0 by simp only [numE]; rw [if_neg (by omega), if_pos trivial, if_neg hc]] at HN
          exact vt_text_whole s _ hok HT HQ HX _ _ HL HN hs' (by rw [hz]) w
        · have hc : (Nu.lead s.data.toList).2 = 0 ∨ (Nu.lead s.data.toList).2 < s.size := by omega
          rw [show numV 3 0 s = 0 by simp only [numV]; rw [if_neg (by omega), if_neg (fun h => h.2 hc)], show numE 3 s = 5 by simp only [numE]; rw [if_neg (by omega), if_pos trivial, if_pos hc]] at HN
          exact vt_text_short s _ hok HT HQ HX _ _ HL HN hs' (by omega) w
    · exact vt_ref n s hok HT HQ w
end Go.Proofs.Ythmeehmobcaadaa.Va
