/- 'ValueChecks': the walk. -/
import Derived.Test.YthmeehmobcaadaaVal8
namespace Go.Proofs.Ythmeehmobcaadaa.Va
open Go.RowKit Go.ChangeShapes Go.WideShapes Go.ChangeAt

theorem A.ix5_0 (w : World) : (Instr.index 27 (.agg #[.string ⟨#[110, 117, 108, 108]⟩, .string ⟨#[98, 111, 111, 108]⟩, .string ⟨#[105, 110, 116, 101, 103, 101, 114]⟩, .string ⟨#[115, 116, 114, 105, 110, 103]⟩, .string ⟨#[114, 101, 102]⟩]) (.int .i64 0)).run Try.prog w = .ok (.string ⟨#[110, 117, 108, 108]⟩) w := by
  simp [Instr.index, run_underlying Try.underlying27, asIntOf, go_sem]
theorem A.ix5_1 (w : World) : (Instr.index 27 (.agg #[.string ⟨#[110, 117, 108, 108]⟩, .string ⟨#[98, 111, 111, 108]⟩, .string ⟨#[105, 110, 116, 101, 103, 101, 114]⟩, .string ⟨#[115, 116, 114, 105, 110, 103]⟩, .string ⟨#[114, 101, 102]⟩]) (.int .i64 1)).run Try.prog w = .ok (.string ⟨#[98, 111, 111, 108]⟩) w := by
  simp [Instr.index, run_underlying Try.underlying27, asIntOf, go_sem]
theorem A.ix5_2 (w : World) : (Instr.index 27 (.agg #[.string ⟨#[110, 117, 108, 108]⟩, .string ⟨#[98, 111, 111, 108]⟩, .string ⟨#[105, 110, 116, 101, 103, 101, 114]⟩, .string ⟨#[115, 116, 114, 105, 110, 103]⟩, .string ⟨#[114, 101, 102]⟩]) (.int .i64 2)).run Try.prog w = .ok (.string ⟨#[105, 110, 116, 101, 103, 101, 114]⟩) w := by
  simp [Instr.index, run_underlying Try.underlying27, asIntOf, go_sem]
theorem A.ix5_3 (w : World) : (Instr.index 27 (.agg #[.string ⟨#[110, 117, 108, 108]⟩, .string ⟨#[98, 111, 111, 108]⟩, .string ⟨#[105, 110, 116, 101, 103, 101, 114]⟩, .string ⟨#[115, 116, 114, 105, 110, 103]⟩, .string ⟨#[114, 101, 102]⟩]) (.int .i64 3)).run Try.prog w = .ok (.string ⟨#[115, 116, 114, 105, 110, 103]⟩) w := by
  simp [Instr.index, run_underlying Try.underlying27, asIntOf, go_sem]
theorem A.ix5_4 (w : World) : (Instr.index 27 (.agg #[.string ⟨#[110, 117, 108, 108]⟩, .string ⟨#[98, 111, 111, 108]⟩, .string ⟨#[105, 110, 116, 101, 103, 101, 114]⟩, .string ⟨#[115, 116, 114, 105, 110, 103]⟩, .string ⟨#[114, 101, 102]⟩]) (.int .i64 4)).run Try.prog w = .ok (.string ⟨#[114, 101, 102]⟩) w := by
  simp [Instr.index, run_underlying Try.underlying27, asIntOf, go_sem]
set_option maxRecDepth 100000 in
theorem checks_0a (n : Int) (s : ByteArray) (hn : ¬ n = 0) (HC : ∀ w, Calls Try.prog 11 #[.agg #[.int .i64 0, .int .i64 n, .string s]] w fun e w' => e = .returned (.int .i64 5) ∧ Below w.heap.size w w') (w : World) :
    Calls Try.prog 3 #[.agg #[.int .i64 0, .int .i64 n, .string s]] w fun e w' => e = .returned (.bool true) ∧ Below w.heap.size w w' := by
  have HC := Lib.hid HC
  have hn' := bne_yes hn
  go_enter Try.func3, Try.ntmps3
  go_wp2_with fail
  refine (tells_any _).mono ?_
  rintro e w1 ⟨rfl, hb⟩
  obtain ⟨hA, hbz⟩ := box1 hb
  obtain ⟨c0, c1, c2, z0, z1, z2⟩ := three_facts hA
  have HA := Lib.hid hA
  have HZ := Lib.hid hbz
  clear hA hb hbz
  go_wp2_with fail
  refine (HC.out _).mono ?_
  rintro e w2 ⟨rfl, hb⟩
  have hA := keep HA.out hb
  have hbz := HZ.out.trans (hb.mono HZ.out.size)
  clear HA HZ
  obtain ⟨c0, c1, c2, z0, z1, z2⟩ := three_facts hA
  have HA := Lib.hid hA
  have HZ := Lib.hid hbz
  clear hA hb hbz
  go_wp2_with fail
  go_ret
  exact ⟨rfl, HZ.out⟩
set_option maxRecDepth 100000 in
theorem checks_0b (s : ByteArray) (hs : ¬ s.toList = []) (HC : ∀ w, Calls Try.prog 11 #[.agg #[.int .i64 0, .int .i64 0, .string s]] w fun e w' => e = .returned (.int .i64 5) ∧ Below w.heap.size w w') (w : World) :
    Calls Try.prog 3 #[.agg #[.int .i64 0, .int .i64 0, .string s]] w fun e w' => e = .returned (.bool true) ∧ Below w.heap.size w w' := by
  have HC := Lib.hid HC
  have hs2 : (!s.toList.isEmpty) = true := by simp [hs]
  go_enter Try.func3, Try.ntmps3
  go_wp2_with fail
  refine (tells_any _).mono ?_
  rintro e w1 ⟨rfl, hb⟩
  obtain ⟨hA, hbz⟩ := box1 hb
  obtain ⟨c0, c1, c2, z0, z1, z2⟩ := three_facts hA
  have HA := Lib.hid hA
  have HZ := Lib.hid hbz
  clear hA hb hbz
  go_wp2_with fail
  refine (HC.out _).mono ?_
  rintro e w2 ⟨rfl, hb⟩
  have hA := keep HA.out hb
  have hbz := HZ.out.trans (hb.mono HZ.out.size)
  clear HA HZ
  obtain ⟨c0, c1, c2, z0, z1, z2⟩ := three_facts hA
  have HA := Lib.hid hA
  have HZ := Lib.hid hbz
  clear hA hb hbz
  go_wp2_with fail
  go_ret
  exact ⟨rfl, HZ.out⟩
set_option maxRecDepth 100000 in
theorem checks_0c (s : ByteArray) (hs : s.toList = []) (HC : ∀ w, Calls Try.prog 11 #[.agg #[.int .i64 0, .int .i64 0, .string s]] w fun e w' => e = .returned (.int .i64 0) ∧ Below w.heap.size w w') (HU : ∀ w, Calls Try.prog 13 #[.agg #[.int .i64 0, .int .i64 0, .string s]] w fun e w' => e = .returned (.bool false) ∧ Below w.heap.size w w') (w : World) :
    Calls Try.prog 3 #[.agg #[.int .i64 0, .int .i64 0, .string s]] w fun e w' => e = .returned (.bool true) ∧ Below w.heap.size w w' := by
  have HC := Lib.hid HC
  have HU := Lib.hid HU
  have HY : Hid (∀ w, Calls Try.prog 12 #[.agg #[.int .i64 0, .int .i64 0, .string s]] w fun e w' => e = .returned (.string ⟨#[110, 117, 108, 108]⟩) ∧ Below w.heap.size w w') := fun w => type_any 0 0 s w
  have hix := A.ix5_0
  go_enter Try.func3, Try.ntmps3
  go_wp2_with fail
  refine (tells_any _).mono ?_
  rintro e w1 ⟨rfl, hb⟩
  obtain ⟨hA, hbz⟩ := box1 hb
  obtain ⟨c0, c1, c2, z0, z1, z2⟩ := three_facts hA
  have HA := Lib.hid hA
  have HZ := Lib.hid hbz
  clear hA hb hbz
  go_wp2_with fail
  refine (HC.out _).mono ?_
  rintro e w2 ⟨rfl, hb⟩
  have hA := keep HA.out hb
  have hbz := HZ.out.trans (hb.mono HZ.out.size)
  clear HA HZ
  obtain ⟨c0, c1, c2, z0, z1, z2⟩ := three_facts hA
  have HA := Lib.hid hA
  have HZ := Lib.hid hbz
  clear hA hb hbz
  go_wp2_with fail
  refine (HY.out _).mono ?_
  rintro e w3 ⟨rfl, hb⟩
  have hA := keep HA.out hb
  have hbz := HZ.out.trans (hb.mono HZ.out.size)
  clear HA HZ
  obtain ⟨c0, c1, c2, z0, z1, z2⟩ := three_facts hA
  have HA := Lib.hid hA
  have HZ := Lib.hid hbz
  clear hA hb hbz
  go_wp2_with fail
  refine (HU.out _).mono ?_
  rintro e w4 ⟨rfl, hb⟩
  have hA := keep HA.out hb
  have hbz := HZ.out.trans (hb.mono HZ.out.size)
  clear HA HZ
  obtain ⟨c0, c1, c2, z0, z1, z2⟩ := three_facts hA
  have HA := Lib.hid hA
  have HZ := Lib.hid hbz
  clear hA hb hbz
  go_wp2_with fail
  go_ret
  exact ⟨rfl, HZ.out⟩
set_option maxRecDepth 100000 in
theorem checks_1a (n : Int) (s : ByteArray) (hn : n < 0) (HC : ∀ w, Calls Try.prog 11 #[.agg #[.int .i64 1, .int .i64 n, .string s]] w fun e w' => e = .returned (.int .i64 5) ∧ Below w.heap.size w w') (w : World) :
    Calls Try.prog 3 #[.agg #[.int .i64 1, .int .i64 n, .string s]] w fun e w' => e = .returned (.bool true) ∧ Below w.heap.size w w' := by
  have HC := Lib.hid HC
  go_enter Try.func3, Try.ntmps3
  go_wp2_with fail
  refine (tells_any _).mono ?_
  rintro e w1 ⟨rfl, hb⟩
  obtain ⟨hA, hbz⟩ := box1 hb
  obtain ⟨c0, c1, c2, z0, z1, z2⟩ := three_facts hA
  have HA := Lib.hid hA
  have HZ := Lib.hid hbz
  clear hA hb hbz
  go_wp2_with fail
  refine (HC.out _).mono ?_
  rintro e w2 ⟨rfl, hb⟩
  have hA := keep HA.out hb
  have hbz := HZ.out.trans (hb.mono HZ.out.size)
  clear HA HZ
  obtain ⟨c0, c1, c2, z0, z1, z2⟩ := three_facts hA
  have HA := Lib.hid hA
  have HZ := Lib.hid hbz
  clear hA hb hbz
  go_wp2_with fail
  go_ret
  exact ⟨rfl, HZ.out⟩
set_option maxRecDepth 100000 in
theorem checks_1b (n : Int) (s : ByteArray) (h0 : ¬ n < 0) (hn : 1 < n) (HC : ∀ w, Calls Try.prog 11 #[.agg #[.int .i64 1, .int .i64 n, .string s]] w fun e w' => e = .returned (.int .i64 5) ∧ Below w.heap.size w w') (w : World) :
    Calls Try.prog 3 #[.agg #[.int .i64 1, .int .i64 n, .string s]] w fun e w' => e = .returned (.bool true) ∧ Below w.heap.size w w' := by
  have HC := Lib.hid HC
  go_enter Try.func3, Try.ntmps3
  go_wp2_with fail
  refine (tells_any _).mono ?_
  rintro e w1 ⟨rfl, hb⟩
  obtain ⟨hA, hbz⟩ := box1 hb
  obtain ⟨c0, c1, c2, z0, z1, z2⟩ := three_facts hA
  have HA := Lib.hid hA
  have HZ := Lib.hid hbz
  clear hA hb hbz
  go_wp2_with fail
  refine (HC.out _).mono ?_
  rintro e w2 ⟨rfl, hb⟩
  have hA := keep HA.out hb
  have hbz := HZ.out.trans (hb.mono HZ.out.size)
  clear HA HZ
  obtain ⟨c0, c1, c2, z0, z1, z2⟩ := three_facts hA
  have HA := Lib.hid hA
  have HZ := Lib.hid hbz
  clear hA hb hbz
  go_wp2_with fail
  go_ret
  exact ⟨rfl, HZ.out⟩
set_option maxRecDepth 100000 in
theorem checks_1c (n : Int) (s : ByteArray) (h0 : ¬ n < 0) (hn : ¬ 1 < n) (hs : ¬ s.toList = []) (HC : ∀ w, Calls Try.prog 11 #[.agg #[.int .i64 1, .int .i64 n, .string s]] w fun e w' => e = .returned (.int .i64 5) ∧ Below w.heap.size w w') (w : World) :
    Calls Try.prog 3 #[.agg #[.int .i64 1, .int .i64 n, .string s]] w fun e w' => e = .returned (.bool true) ∧ Below w.heap.size w w' := by
  have HC := Lib.hid HC
  have hs2 : (!s.toList.isEmpty) = true := by simp [hs]
  go_enter Try.func3, Try.ntmps3
  go_wp2_with fail
  refine (tells_any _).mono ?_
  rintro e w1 ⟨rfl, hb⟩
  obtain ⟨hA, hbz⟩ := box1 hb
  obtain ⟨c0, c1, c2, z0, z1, z2⟩ := three_facts hA
  have HA := Lib.hid hA
  have HZ := Lib.hid hbz
  clear hA hb hbz
  go_wp2_with fail
  refine (HC.out _).mono ?_
  rintro e w2 ⟨rfl, hb⟩
  have hA := keep HA.out hb
  have hbz := HZ.out.trans (hb.mono HZ.out.size)
  clear HA HZ
  obtain ⟨c0, c1, c2, z0, z1, z2⟩ := three_facts hA
  have HA := Lib.hid hA
  have HZ := Lib.hid hbz
  clear hA hb hbz
  go_wp2_with fail
  go_ret
  exact ⟨rfl, HZ.out⟩
set_option maxRecDepth 100000 in
theorem checks_1d (s : ByteArray) (hs : s.toList = []) (HC : ∀ w, Calls Try.prog 11 #[.agg #[.int .i64 1, .int .i64 0, .string s]] w fun e w' => e = .returned (.int .i64 0) ∧ Below w.heap.size w w') (HU : ∀ w, Calls Try.prog 13 #[.agg #[.int .i64 1, .int .i64 0, .string s]] w fun e w' => e = .returned (.bool false) ∧ Below w.heap.size w w') (w : World) :
    Calls Try.prog 3 #[.agg #[.int .i64 1, .int .i64 0, .string s]] w fun e w' => e = .returned (.bool true) ∧ Below w.heap.size w w' := by
  have HC := Lib.hid HC
  have HU := Lib.hid HU
  have HY : Hid (∀ w, Calls Try.prog 12 #[.agg #[.int .i64 1, .int .i64 0, .string s]] w fun e w' => e = .returned (.string ⟨#[98, 111, 111, 108]⟩) ∧ Below w.heap.size w w') := fun w => type_any 1 0 s w
  have hix := A.ix5_1
  go_enter Try.func3, Try.ntmps3
  go_wp2_with fail
  refine (tells_any _).mono ?_
  rintro e w1 ⟨rfl, hb⟩
  obtain ⟨hA, hbz⟩ := box1 hb
  obtain ⟨c0, c1, c2, z0, z1, z2⟩ := three_facts hA
  have HA := Lib.hid hA
  have HZ := Lib.hid hbz
  clear hA hb hbz
  go_wp2_with fail
  refine (HC.out _).mono ?_
  rintro e w2 ⟨rfl, hb⟩
  have hA := keep HA.out hb
  have hbz := HZ.out.trans (hb.mono HZ.out.size)
  clear HA HZ
  obtain ⟨c0, c1, c2, z0, z1, z2⟩ := three_facts hA
  have HA := Lib.hid hA
  have HZ := Lib.hid hbz
  clear hA hb hbz
  go_wp2_with fail
  refine (HY.out _).mono ?_
  rintro e w3 ⟨rfl, hb⟩
  have hA := keep HA.out hb
  have hbz := HZ.out.trans (hb.mono HZ.out.size)
  clear HA HZ
  obtain ⟨c0, c1, c2, z0, z1, z2⟩ := three_facts hA
  have HA := Lib.hid hA
  have HZ := Lib.hid hbz
  clear hA hb hbz
  go_wp2_with fail
  refine (HU.out _).mono ?_
  rintro e w4 ⟨rfl, hb⟩
  have hA := keep HA.out hb
  have hbz := HZ.out.trans (hb.mono HZ.out.size)
  clear HA HZ
  obtain ⟨c0, c1, c2, z0, z1, z2⟩ := three_facts hA
  have HA := Lib.hid hA
  have HZ := Lib.hid hbz
  clear hA hb hbz
  go_wp2_with fail
  go_ret
  exact ⟨rfl, HZ.out⟩
set_option maxRecDepth 100000 in
theorem checks_1e (s : ByteArray) (hs : s.toList = []) (HC : ∀ w, Calls Try.prog 11 #[.agg #[.int .i64 1, .int .i64 1, .string s]] w fun e w' => e = .returned (.int .i64 0) ∧ Below w.heap.size w w') (HU : ∀ w, Calls Try.prog 13 #[.agg #[.int .i64 1, .int .i64 1, .string s]] w fun e w' => e = .returned (.bool true) ∧ Below w.heap.size w w') (w : World) :
    Calls Try.prog 3 #[.agg #[.int .i64 1, .int .i64 1, .string s]] w fun e w' => e = .returned (.bool true) ∧ Below w.heap.size w w' := by
  have HC := Lib.hid HC
  have HU := Lib.hid HU
  have HY : Hid (∀ w, Calls Try.prog 12 #[.agg #[.int .i64 1, .int .i64 1, .string s]] w fun e w' => e = .returned (.string ⟨#[98, 111, 111, 108]⟩) ∧ Below w.heap.size w w') := fun w => type_any 1 1 s w
  have hix := A.ix5_1
  go_enter Try.func3, Try.ntmps3
  go_wp2_with fail
  refine (tells_any _).mono ?_
  rintro e w1 ⟨rfl, hb⟩
  obtain ⟨hA, hbz⟩ := box1 hb
  obtain ⟨c0, c1, c2, z0, z1, z2⟩ := three_facts hA
  have HA := Lib.hid hA
  have HZ := Lib.hid hbz
  clear hA hb hbz
  go_wp2_with fail
  refine (HC.out _).mono ?_
  rintro e w2 ⟨rfl, hb⟩
  have hA := keep HA.out hb
  have hbz := HZ.out.trans (hb.mono HZ.out.size)
  clear HA HZ
  obtain ⟨c0, c1, c2, z0, z1, z2⟩ := three_facts hA
  have HA := Lib.hid hA
  have HZ := Lib.hid hbz
  clear hA hb hbz
  go_wp2_with fail
  refine (HY.out _).mono ?_
  rintro e w3 ⟨rfl, hb⟩
  have hA := keep HA.out hb
  have hbz := HZ.out.trans (hb.mono HZ.out.size)
  clear HA HZ
  obtain ⟨c0, c1, c2, z0, z1, z2⟩ := three_facts hA
  have HA := Lib.hid hA
  have HZ := Lib.hid hbz
  clear hA hb hbz
  go_wp2_with fail
  refine (HU.out _).mono ?_
  rintro e w4 ⟨rfl, hb⟩
  have hA := keep HA.out hb
  have hbz := HZ.out.trans (hb.mono HZ.out.size)
  clear HA HZ
  obtain ⟨c0, c1, c2, z0, z1, z2⟩ := three_facts hA
  have HA := Lib.hid hA
  have HZ := Lib.hid hbz
  clear hA hb hbz
  go_wp2_with fail
  go_ret
  exact ⟨rfl, HZ.out⟩
set_option maxRecDepth 100000 in
theorem checks_2a (n : Int) (s : ByteArray) (hs : ¬ s.toList = []) (HC : ∀ w, Calls Try.prog 11 #[.agg #[.int .i64 2, .int .i64 n, .string s]] w fun e w' => e = .returned (.int .i64 5) ∧ Below w.heap.size w w') (w : World) :
    Calls Try.prog 3 #[.agg #[.int .i64 2, .int .i64 n, .string s]] w fun e w' => e = .returned (.bool true) ∧ Below w.heap.size w w' := by
  have HC := Lib.hid HC
  have hs2 : (!s.toList.isEmpty) = true := by simp [hs]
  go_enter Try.func3, Try.ntmps3
  go_wp2_with fail
  refine (tells_any _).mono ?_
  rintro e w1 ⟨rfl, hb⟩
  obtain ⟨hA, hbz⟩ := box1 hb
  obtain ⟨c0, c1, c2, z0, z1, z2⟩ := three_facts hA
  have HA := Lib.hid hA
  have HZ := Lib.hid hbz
  clear hA hb hbz
  go_wp2_with fail
  refine (HC.out _).mono ?_
  rintro e w2 ⟨rfl, hb⟩
  have hA := keep HA.out hb
  have hbz := HZ.out.trans (hb.mono HZ.out.size)
  clear HA HZ
  obtain ⟨c0, c1, c2, z0, z1, z2⟩ := three_facts hA
  have HA := Lib.hid hA
  have HZ := Lib.hid hbz
  clear hA hb hbz
  go_wp2_with fail
  go_ret
  exact ⟨rfl, HZ.out⟩
set_option maxRecDepth 100000 in
theorem checks_2b (s : ByteArray) (hs : s.toList = []) (HC : ∀ w, Calls Try.prog 11 #[.agg #[.int .i64 2, .int .i64 0, .string s]] w fun e w' => e = .returned (.int .i64 0) ∧ Below w.heap.size w w') (HU : ∀ w, Calls Try.prog 13 #[.agg #[.int .i64 2, .int .i64 0, .string s]] w fun e w' => e = .returned (.bool false) ∧ Below w.heap.size w w') (w : World) :
    Calls Try.prog 3 #[.agg #[.int .i64 2, .int .i64 0, .string s]] w fun e w' => e = .returned (.bool true) ∧ Below w.heap.size w w' := by
  have HC := Lib.hid HC
  have HU := Lib.hid HU
  have HY : Hid (∀ w, Calls Try.prog 12 #[.agg #[.int .i64 2, .int .i64 0, .string s]] w fun e w' => e = .returned (.string ⟨#[105, 110, 116, 101, 103, 101, 114]⟩) ∧ Below w.heap.size w w') := fun w => type_any 2 0 s w
  have hix := A.ix5_2
  go_enter Try.func3, Try.ntmps3
  go_wp2_with fail
  refine (tells_any _).mono ?_
  rintro e w1 ⟨rfl, hb⟩
  obtain ⟨hA, hbz⟩ := box1 hb
  obtain ⟨c0, c1, c2, z0, z1, z2⟩ := three_facts hA
  have HA := Lib.hid hA
  have HZ := Lib.hid hbz
  clear hA hb hbz
  go_wp2_with fail
  refine (HC.out _).mono ?_
  rintro e w2 ⟨rfl, hb⟩
  have hA := keep HA.out hb
  have hbz := HZ.out.trans (hb.mono HZ.out.size)
  clear HA HZ
  obtain ⟨c0, c1, c2, z0, z1, z2⟩ := three_facts hA
  have HA := Lib.hid hA
  have HZ := Lib.hid hbz
  clear hA hb hbz
  go_wp2_with fail
  refine (HY.out _).mono ?_
  rintro e w3 ⟨rfl, hb⟩
  have hA := keep HA.out hb
  have hbz := HZ.out.trans (hb.mono HZ.out.size)
  clear HA HZ
  obtain ⟨c0, c1, c2, z0, z1, z2⟩ := three_facts hA
  have HA := Lib.hid hA
  have HZ := Lib.hid hbz
  clear hA hb hbz
  go_wp2_with fail
  refine (HU.out _).mono ?_
  rintro e w4 ⟨rfl, hb⟩
  have hA := keep HA.out hb
  have hbz := HZ.out.trans (hb.mono HZ.out.size)
  clear HA HZ
  obtain ⟨c0, c1, c2, z0, z1, z2⟩ := three_facts hA
  have HA := Lib.hid hA
  have HZ := Lib.hid hbz
  clear hA hb hbz
  go_wp2_with fail
  go_ret
  exact ⟨rfl, HZ.out⟩
set_option maxRecDepth 100000 in
theorem checks_2c (n : Int) (s : ByteArray) (hn : ¬ n = 0) (hs : s.toList = []) (HC : ∀ w, Calls Try.prog 11 #[.agg #[.int .i64 2, .int .i64 n, .string s]] w fun e w' => e = .returned (.int .i64 0) ∧ Below w.heap.size w w') (HU : ∀ w, Calls Try.prog 13 #[.agg #[.int .i64 2, .int .i64 n, .string s]] w fun e w' => e = .returned (.bool true) ∧ Below w.heap.size w w') (w : World) :
    Calls Try.prog 3 #[.agg #[.int .i64 2, .int .i64 n, .string s]] w fun e w' => e = .returned (.bool true) ∧ Below w.heap.size w w' := by
  have HC := Lib.hid HC
  have HU := Lib.hid HU
  have HY : Hid (∀ w, Calls Try.prog 12 #[.agg #[.int .i64 2, .int .i64 n, .string s]] w fun e w' => e = .returned (.string ⟨#[105, 110, 116, 101, 103, 101, 114]⟩) ∧ Below w.heap.size w w') := fun w => type_any 2 n s w
  have hn' := bne_yes hn
  have hix := A.ix5_2
  go_enter Try.func3, Try.ntmps3
  go_wp2_with fail
  refine (tells_any _).mono ?_
  rintro e w1 ⟨rfl, hb⟩
  obtain ⟨hA, hbz⟩ := box1 hb
  obtain ⟨c0, c1, c2, z0, z1, z2⟩ := three_facts hA
  have HA := Lib.hid hA
  have HZ := Lib.hid hbz
  clear hA hb hbz
  go_wp2_with fail
  refine (HC.out _).mono ?_
  rintro e w2 ⟨rfl, hb⟩
  have hA := keep HA.out hb
  have hbz := HZ.out.trans (hb.mono HZ.out.size)
  clear HA HZ
  obtain ⟨c0, c1, c2, z0, z1, z2⟩ := three_facts hA
  have HA := Lib.hid hA
  have HZ := Lib.hid hbz
  clear hA hb hbz
  go_wp2_with fail
  refine (HY.out _).mono ?_
  rintro e w3 ⟨rfl, hb⟩
  have hA := keep HA.out hb
  have hbz := HZ.out.trans (hb.mono HZ.out.size)
  clear HA HZ
  obtain ⟨c0, c1, c2, z0, z1, z2⟩ := three_facts hA
  have HA := Lib.hid hA
  have HZ := Lib.hid hbz
  clear hA hb hbz
  go_wp2_with fail
  refine (HU.out _).mono ?_
  rintro e w4 ⟨rfl, hb⟩
  have hA := keep HA.out hb
  have hbz := HZ.out.trans (hb.mono HZ.out.size)
  clear HA HZ
  obtain ⟨c0, c1, c2, z0, z1, z2⟩ := three_facts hA
  have HA := Lib.hid hA
  have HZ := Lib.hid hbz
  clear hA hb hbz
  go_wp2_with fail
  go_ret
  exact ⟨rfl, HZ.out⟩
set_option maxRecDepth 100000 in
theorem checks_3a (n : Int) (s : ByteArray) (hn : ¬ n = 0) (HC : ∀ w, Calls Try.prog 11 #[.agg #[.int .i64 3, .int .i64 n, .string s]] w fun e w' => e = .returned (.int .i64 5) ∧ Below w.heap.size w w') (w : World) :
    Calls Try.prog 3 #[.agg #[.int .i64 3, .int .i64 n, .string s]] w fun e w' => e = .returned (.bool true) ∧ Below w.heap.size w w' := by
  have HC := Lib.hid HC
  have hn' := bne_yes hn
  go_enter Try.func3, Try.ntmps3
  go_wp2_with fail
  refine (tells_any _).mono ?_
  rintro e w1 ⟨rfl, hb⟩
  obtain ⟨hA, hbz⟩ := box1 hb
  obtain ⟨c0, c1, c2, z0, z1, z2⟩ := three_facts hA
  have HA := Lib.hid hA
  have HZ := Lib.hid hbz
  clear hA hb hbz
  go_wp2_with fail
  refine (HC.out _).mono ?_
  rintro e w2 ⟨rfl, hb⟩
  have hA := keep HA.out hb
  have hbz := HZ.out.trans (hb.mono HZ.out.size)
  clear HA HZ
  obtain ⟨c0, c1, c2, z0, z1, z2⟩ := three_facts hA
  have HA := Lib.hid hA
  have HZ := Lib.hid hbz
  clear hA hb hbz
  go_wp2_with fail
  go_ret
  exact ⟨rfl, HZ.out⟩
set_option maxRecDepth 100000 in
theorem checks_3b (s : ByteArray)  (HC : ∀ w, Calls Try.prog 11 #[.agg #[.int .i64 3, .int .i64 0, .string s]] w fun e w' => e = .returned (.int .i64 0) ∧ Below w.heap.size w w') (HU : ∀ w, Calls Try.prog 13 #[.agg #[.int .i64 3, .int .i64 0, .string s]] w fun e w' => e = .returned (.bool true) ∧ Below w.heap.size w w') (w : World) :
    Calls Try.prog 3 #[.agg #[.int .i64 3, .int .i64 0, .string s]] w fun e w' => e = .returned (.bool true) ∧ Below w.heap.size w w' := by
  have HC := Lib.hid HC
  have HU := Lib.hid HU
  have HY : Hid (∀ w, Calls Try.prog 12 #[.agg #[.int .i64 3, .int .i64 0, .string s]] w fun e w' => e = .returned (.string ⟨#[115, 116, 114, 105, 110, 103]⟩) ∧ Below w.heap.size w w') := fun w => type_any 3 0 s w
  have hix := A.ix5_3
  go_enter Try.func3, Try.ntmps3
  go_wp2_with fail
  refine (tells_any _).mono ?_
  rintro e w1 ⟨rfl, hb⟩
  obtain ⟨hA, hbz⟩ := box1 hb
  obtain ⟨c0, c1, c2, z0, z1, z2⟩ := three_facts hA
  have HA := Lib.hid hA
  have HZ := Lib.hid hbz
  clear hA hb hbz
  go_wp2_with fail
  refine (HC.out _).mono ?_
  rintro e w2 ⟨rfl, hb⟩
  have hA := keep HA.out hb
  have hbz := HZ.out.trans (hb.mono HZ.out.size)
  clear HA HZ
  obtain ⟨c0, c1, c2, z0, z1, z2⟩ := three_facts hA
  have HA := Lib.hid hA
  have HZ := Lib.hid hbz
  clear hA hb hbz
  go_wp2_with fail
  refine (HY.out _).mono ?_
  rintro e w3 ⟨rfl, hb⟩
  have hA := keep HA.out hb
  have hbz := HZ.out.trans (hb.mono HZ.out.size)
  clear HA HZ
  obtain ⟨c0, c1, c2, z0, z1, z2⟩ := three_facts hA
  have HA := Lib.hid hA
  have HZ := Lib.hid hbz
  clear hA hb hbz
  go_wp2_with fail
  refine (HU.out _).mono ?_
  rintro e w4 ⟨rfl, hb⟩
  have hA := keep HA.out hb
  have hbz := HZ.out.trans (hb.mono HZ.out.size)
  clear HA HZ
  obtain ⟨c0, c1, c2, z0, z1, z2⟩ := three_facts hA
  have HA := Lib.hid hA
  have HZ := Lib.hid hbz
  clear hA hb hbz
  go_wp2_with fail
  go_ret
  exact ⟨rfl, HZ.out⟩
set_option maxRecDepth 100000 in
theorem checks_4a (n : Int) (s : ByteArray) (hn : n < 0) (HC : ∀ w, Calls Try.prog 11 #[.agg #[.int .i64 4, .int .i64 n, .string s]] w fun e w' => e = .returned (.int .i64 5) ∧ Below w.heap.size w w') (w : World) :
    Calls Try.prog 3 #[.agg #[.int .i64 4, .int .i64 n, .string s]] w fun e w' => e = .returned (.bool true) ∧ Below w.heap.size w w' := by
  have HC := Lib.hid HC
  go_enter Try.func3, Try.ntmps3
  go_wp2_with fail
  refine (tells_any _).mono ?_
  rintro e w1 ⟨rfl, hb⟩
  obtain ⟨hA, hbz⟩ := box1 hb
  obtain ⟨c0, c1, c2, z0, z1, z2⟩ := three_facts hA
  have HA := Lib.hid hA
  have HZ := Lib.hid hbz
  clear hA hb hbz
  go_wp2_with fail
  refine (HC.out _).mono ?_
  rintro e w2 ⟨rfl, hb⟩
  have hA := keep HA.out hb
  have hbz := HZ.out.trans (hb.mono HZ.out.size)
  clear HA HZ
  obtain ⟨c0, c1, c2, z0, z1, z2⟩ := three_facts hA
  have HA := Lib.hid hA
  have HZ := Lib.hid hbz
  clear hA hb hbz
  go_wp2_with fail
  go_ret
  exact ⟨rfl, HZ.out⟩
set_option maxRecDepth 100000 in
theorem checks_4b (n : Int) (s : ByteArray) (hn : ¬ n < 0) (hs : ¬ s.toList = []) (HC : ∀ w, Calls Try.prog 11 #[.agg #[.int .i64 4, .int .i64 n, .string s]] w fun e w' => e = .returned (.int .i64 5) ∧ Below w.heap.size w w') (w : World) :
    Calls Try.prog 3 #[.agg #[.int .i64 4, .int .i64 n, .string s]] w fun e w' => e = .returned (.bool true) ∧ Below w.heap.size w w' := by
  have HC := Lib.hid HC
  have hs2 : (!s.toList.isEmpty) = true := by simp [hs]
  go_enter Try.func3, Try.ntmps3
  go_wp2_with fail
  refine (tells_any _).mono ?_
  rintro e w1 ⟨rfl, hb⟩
  obtain ⟨hA, hbz⟩ := box1 hb
  obtain ⟨c0, c1, c2, z0, z1, z2⟩ := three_facts hA
  have HA := Lib.hid hA
  have HZ := Lib.hid hbz
  clear hA hb hbz
  go_wp2_with fail
  refine (HC.out _).mono ?_
  rintro e w2 ⟨rfl, hb⟩
  have hA := keep HA.out hb
  have hbz := HZ.out.trans (hb.mono HZ.out.size)
  clear HA HZ
  obtain ⟨c0, c1, c2, z0, z1, z2⟩ := three_facts hA
  have HA := Lib.hid hA
  have HZ := Lib.hid hbz
  clear hA hb hbz
  go_wp2_with fail
  go_ret
  exact ⟨rfl, HZ.out⟩
set_option maxRecDepth 100000 in
theorem checks_4c (n : Int) (s : ByteArray) (hn : ¬ n < 0) (hs : s.toList = []) (HC : ∀ w, Calls Try.prog 11 #[.agg #[.int .i64 4, .int .i64 n, .string s]] w fun e w' => e = .returned (.int .i64 0) ∧ Below w.heap.size w w') (HU : ∀ w, Calls Try.prog 13 #[.agg #[.int .i64 4, .int .i64 n, .string s]] w fun e w' => e = .returned (.bool true) ∧ Below w.heap.size w w') (w : World) :
    Calls Try.prog 3 #[.agg #[.int .i64 4, .int .i64 n, .string s]] w fun e w' => e = .returned (.bool true) ∧ Below w.heap.size w w' := by
  have HC := Lib.hid HC
  have HU := Lib.hid HU
  have HY : Hid (∀ w, Calls Try.prog 12 #[.agg #[.int .i64 4, .int .i64 n, .string s]] w fun e w' => e = .returned (.string ⟨#[114, 101, 102]⟩) ∧ Below w.heap.size w w') := fun w => type_any 4 n s w
  have hix := A.ix5_4
  go_enter Try.func3, Try.ntmps3
  go_wp2_with fail
  refine (tells_any _).mono ?_
  rintro e w1 ⟨rfl, hb⟩
  obtain ⟨hA, hbz⟩ := box1 hb
  obtain ⟨c0, c1, c2, z0, z1, z2⟩ := three_facts hA
  have HA := Lib.hid hA
  have HZ := Lib.hid hbz
  clear hA hb hbz
  go_wp2_with fail
  refine (HC.out _).mono ?_
  rintro e w2 ⟨rfl, hb⟩
  have hA := keep HA.out hb
  have hbz := HZ.out.trans (hb.mono HZ.out.size)
  clear HA HZ
  obtain ⟨c0, c1, c2, z0, z1, z2⟩ := three_facts hA
  have HA := Lib.hid hA
  have HZ := Lib.hid hbz
  clear hA hb hbz
  go_wp2_with fail
  refine (HY.out _).mono ?_
  rintro e w3 ⟨rfl, hb⟩
  have hA := keep HA.out hb
  have hbz := HZ.out.trans (hb.mono HZ.out.size)
  clear HA HZ
  obtain ⟨c0, c1, c2, z0, z1, z2⟩ := three_facts hA
  have HA := Lib.hid hA
  have HZ := Lib.hid hbz
  clear hA hb hbz
  go_wp2_with fail
  refine (HU.out _).mono ?_
  rintro e w4 ⟨rfl, hb⟩
  have hA := keep HA.out hb
  have hbz := HZ.out.trans (hb.mono HZ.out.size)
  clear HA HZ
  obtain ⟨c0, c1, c2, z0, z1, z2⟩ := three_facts hA
  have HA := Lib.hid hA
  have HZ := Lib.hid hbz
  clear hA hb hbz
  go_wp2_with fail
  go_ret
  exact ⟨rfl, HZ.out⟩
set_option maxRecDepth 100000 in
theorem checks_5 (k : Int) (n : Int) (s : ByteArray) (e0 : (k == 0) = false) (e1 : (k == 1) = false) (e2 : (k == 2) = false) (e3 : (k == 3) = false) (e4 : (k == 4) = false) (HC : ∀ w, Calls Try.prog 11 #[.agg #[.int .i64 k, .int .i64 n, .string s]] w fun e w' => e = .returned (.int .i64 30) ∧ Below w.heap.size w w') (w : World) :
    Calls Try.prog 3 #[.agg #[.int .i64 k, .int .i64 n, .string s]] w fun e w' => e = .returned (.bool true) ∧ Below w.heap.size w w' := by
  have HC := Lib.hid HC
  go_enter Try.func3, Try.ntmps3
  go_wp2_with fail
  refine (tells_any _).mono ?_
  rintro e w1 ⟨rfl, hb⟩
  obtain ⟨hA, hbz⟩ := box1 hb
  obtain ⟨c0, c1, c2, z0, z1, z2⟩ := three_facts hA
  have HA := Lib.hid hA
  have HZ := Lib.hid hbz
  clear hA hb hbz
  go_wp2_with fail
  refine (HC.out _).mono ?_
  rintro e w2 ⟨rfl, hb⟩
  have hA := keep HA.out hb
  have hbz := HZ.out.trans (hb.mono HZ.out.size)
  clear HA HZ
  obtain ⟨c0, c1, c2, z0, z1, z2⟩ := three_facts hA
  have HA := Lib.hid hA
  have HZ := Lib.hid hbz
  clear hA hb hbz
  go_wp2_with fail
  go_ret
  exact ⟨rfl, HZ.out⟩

theorem valueChecks_walk (k n : Int) (s : ByteArray) (_ : (Lit.int .i64 k).wf = true) (_ : (Lit.int .i64 n).wf = true) (_ : s.size ≤ maxLen) (w : World) : Calls Try.prog 3 #[.agg #[.int .i64 k, .int .i64 n, .string s]] w fun e w' => e = .returned (.bool true) ∧ Below w.heap.size w w' := by
  have HC := fun w => check_any k n s w
  have HU := fun w => true_any k n s w
  by_cases hs : s.size = 0
  · have hs' := none_list s hs
    rcases kinds k with rfl | rfl | rfl | rfl | rfl | h
    · by_cases hn : n = 0
      · subst hn
        rw [show chk 0 0 s = 0 by simp [chk, fit, hs]] at HC
        exact checks_0c s hs' HC HU w
      · rw [show chk 0 n s = 5 by simp [chk, fit, hn]] at HC
        exact checks_0a n s hn HC w
    · by_cases h0 : n < 0
      · rw [show chk 1 n s = 5 by simp only [chk, fit]; rw [if_neg (by omega), if_pos]; right; simp; omega] at HC
        exact checks_1a n s h0 HC w
      · by_cases h1 : 1 < n
        · rw [show chk 1 n s = 5 by simp only [chk, fit]; rw [if_neg (by omega), if_pos]; right; simp; omega] at HC
          exact checks_1b n s h0 h1 HC w
        · rcases (show n = 0 ∨ n = 1 by omega) with rfl | rfl
          · rw [show chk 1 0 s = 0 by simp [chk, fit, hs]] at HC
            exact checks_1d s hs' HC HU w
          · rw [show chk 1 1 s = 0 by simp [chk, fit, hs]] at HC
            exact checks_1e s hs' HC HU w
    · rw [show chk 2 n s = 0 by simp [chk, fit, hs]] at HC
      by_cases hn : n = 0
      · subst hn; exact checks_2b s hs' HC HU w
      · rw [show tru 2 n = true by simp [tru, hn]] at HU
        exact checks_2c n s hn hs' HC HU w
    · by_cases hn : n = 0
      · subst hn
        rw [show chk 3 0 s = 0 by simp [chk, fit]] at HC
        exact checks_3b s HC HU w
      · rw [show chk 3 n s = 5 by simp [chk, fit, hn]] at HC
        exact checks_3a n s hn HC w
    · by_cases hn : n < 0
      · rw [show chk 4 n s = 5 by simp only [chk, fit]; rw [if_neg (by omega), if_pos]; right; simp; omega] at HC
        exact checks_4a n s hn HC w
      · rw [show chk 4 n s = 0 by simp only [chk, fit]; rw [if_neg (by omega), if_neg]; simp [hs]; omega] at HC
        exact checks_4c n s hn hs' HC HU w
    · rw [show chk k n s = 30 by simp [chk, h]] at HC
      obtain ⟨e0, e1, e2, e3, e4⟩ := no_kind h
      exact checks_5 k n s e0 e1 e2 e3 e4 HC w
  · have hs' := some_list s hs
    rcases kinds k with rfl | rfl | rfl | rfl | rfl | h
    · rw [show chk 0 n s = 5 by simp [chk, hs]] at HC
      by_cases hn : n = 0
      · subst hn
        exact checks_0b s hs' HC w
      · exact checks_0a n s hn HC w
    · rw [show chk 1 n s = 5 by simp [chk, hs]] at HC
      by_cases h0 : n < 0
      · exact checks_1a n s h0 HC w
      · by_cases h1 : 1 < n
        · exact checks_1b n s h0 h1 HC w
        · exact checks_1c n s h0 h1 hs' HC w
    · rw [show chk 2 n s = 5 by simp [chk, hs]] at HC
      exact checks_2a n s hs' HC w
    · by_cases hn : n = 0
      · subst hn
        rw [show chk 3 0 s = 0 by simp [chk, fit]] at HC
        exact checks_3b s HC HU w
      · rw [show chk 3 n s = 5 by simp [chk, fit, hn]] at HC
        exact checks_3a n s hn HC w
    · rw [show chk 4 n s = 5 by simp [chk, hs]] at HC
      by_cases hn : n < 0
      · exact checks_4a n s hn HC w
      · exact checks_4b n s hn hs' HC w
    · rw [show chk k n s = 30 by simp [chk, h]] at HC
      obtain ⟨e0, e1, e2, e3, e4⟩ := no_kind h
      exact checks_5 k n s e0 e1 e2 e3 e4 HC w
end Go.Proofs.Ythmeehmobcaadaa.Va
