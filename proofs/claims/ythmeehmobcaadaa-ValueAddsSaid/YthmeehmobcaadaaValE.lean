/- 'ValueAdds': the walk. -/
import Derived.Test.YthmeehmobcaadaaVal9
namespace Go.Proofs.Ythmeehmobcaadaa.Va
open Go.RowKit Go.ChangeShapes Go.WideShapes Go.ChangeAt

set_option maxRecDepth 100000 in
set_option maxHeartbeats 1000000 in
theorem va_off (k n k' n' : Int) (s s' : ByteArray) (hok : (okB k n s && okB k' n' s') = false) (w : World) : Calls Try.prog 7 #[.agg #[.int .i64 k, .int .i64 n, .string s], .agg #[.int .i64 k', .int .i64 n', .string s']] w fun e w' => e = .returned (.bool true) ∧ Below w.heap.size w w' := by
  have HR : Hid (∀ w, Calls Try.prog 14 #[.slice (some ⟨w.heap.size, 0, none⟩) 2 2] (w.alloc (.cells #[.int .i64 k, .int .i64 n, .string s, .int .i64 k', .int .i64 n', .string s'] 23)) fun e w' => e = .returned (.bool false) ∧ Below w.heap.size w w') := fun w => by have h := right_two k n k' n' s s' 23 w; rw [hok] at h; exact h
  clear hok
  go_enter Try.func7, Try.ntmps7
  go_wp2_with fail
  refine (tells_any _).mono ?_
  rintro e w1 ⟨rfl, hb⟩
  obtain ⟨hA, hB, hbz⟩ := box2 hb
  obtain ⟨c0A, c1A, c2A, z0A, z1A, z2A⟩ := three_facts hA
  have HA := Lib.hid hA
  obtain ⟨c0B, c1B, c2B, z0B, z1B, z2B⟩ := three_facts hB
  have HB := Lib.hid hB
  have HZ := Lib.hid hbz
  clear hb hbz hA hB
  go_wp2_with fail
  refine (HR.out _).mono ?_
  rintro e w2 ⟨rfl, hb⟩
  have hA := keep HA.out hb
  have hB := keep HB.out hb
  have hbz := HZ.out.trans (hb.mono HZ.out.size)
  clear HZ HA HB
  clear c0A c1A c2A z0A z1A z2A c0B c1B c2B z0B z1B z2B
  obtain ⟨c0A, c1A, c2A, z0A, z1A, z2A⟩ := three_facts hA
  have HA := Lib.hid hA
  obtain ⟨c0B, c1B, c2B, z0B, z1B, z2B⟩ := three_facts hB
  have HB := Lib.hid hB
  have HZ := Lib.hid hbz
  clear hb hbz hA hB
  go_wp2_with fail
  go_ret
  exact ⟨rfl, HZ.out⟩
set_option maxRecDepth 100000 in
set_option maxHeartbeats 1000000 in
theorem va_ints (n n' : Int) (s s' : ByteArray) (hok : (okB 2 n s && okB 2 n' s') = true) (w : World) : Calls Try.prog 7 #[.agg #[.int .i64 2, .int .i64 n, .string s], .agg #[.int .i64 2, .int .i64 n', .string s']] w fun e w' => e = .returned (.bool true) ∧ Below w.heap.size w w' := by
  have HR : Hid (∀ w, Calls Try.prog 14 #[.slice (some ⟨w.heap.size, 0, none⟩) 2 2] (w.alloc (.cells #[.int .i64 2, .int .i64 n, .string s, .int .i64 2, .int .i64 n', .string s'] 23)) fun e w' => e = .returned (.bool true) ∧ Below w.heap.size w w') := fun w => by have h := right_two 2 n 2 n' s s' 23 w; rw [hok] at h; exact h
  clear hok
  have HD := Lib.hid fun w => add_ints n n' s s' w
  have HE : Hid (∀ w, Calls Try.prog 29 #[.int .i64 n, .int .i64 n'] w fun e w' => e = .returned (.int .i64 (wrap64 (n + n'))) ∧ Below w.heap.size w w') := fun w => (nadd_any n n' w).mono fun _ _ h => ⟨h.1, by rw [← h.2]; exact Below.refl _ _⟩
  have HI := Lib.hid fun w => int_any (wrap64 (n + n')) w
  go_enter Try.func7, Try.ntmps7
  go_wp2_with fail
  refine (tells_any _).mono ?_
  rintro e w1 ⟨rfl, hb⟩
  obtain ⟨hA, hB, hbz⟩ := box2 hb
  obtain ⟨c0A, c1A, c2A, z0A, z1A, z2A⟩ := three_facts hA
  have HA := Lib.hid hA
  obtain ⟨c0B, c1B, c2B, z0B, z1B, z2B⟩ := three_facts hB
  have HB := Lib.hid hB
  have HZ := Lib.hid hbz
  clear hb hbz hA hB
  go_wp2_with fail
  refine (HR.out _).mono ?_
  rintro e w2 ⟨rfl, hb⟩
  have hA := keep HA.out hb
  have hB := keep HB.out hb
  have hbz := HZ.out.trans (hb.mono HZ.out.size)
  clear HZ HA HB
  clear c0A c1A c2A z0A z1A z2A c0B c1B c2B z0B z1B z2B
  obtain ⟨c0A, c1A, c2A, z0A, z1A, z2A⟩ := three_facts hA
  have HA := Lib.hid hA
  obtain ⟨c0B, c1B, c2B, z0B, z1B, z2B⟩ := three_facts hB
  have HB := Lib.hid hB
  have HZ := Lib.hid hbz
  clear hb hbz hA hB
  go_wp2_with fail
  refine (HD.out _).mono ?_
  rintro e w3 ⟨rfl, hb⟩
  have hA := keep HA.out hb
  have hB := keep HB.out hb
  have hbz := HZ.out.trans (hb.mono HZ.out.size)
  clear HZ HA HB
  clear c0A c1A c2A z0A z1A z2A c0B c1B c2B z0B z1B z2B
  obtain ⟨c0A, c1A, c2A, z0A, z1A, z2A⟩ := three_facts hA
  have HA := Lib.hid hA
  obtain ⟨c0B, c1B, c2B, z0B, z1B, z2B⟩ := three_facts hB
  have HB := Lib.hid hB
  have HZ := Lib.hid hbz
  clear hb hbz hA hB
  have hE := (Below.refl w3.heap.size w3).alloc (Nat.le_refl _) (.cells #[.int .i64 2, .int .i64 (wrap64 (n + n')), .string ⟨#[]⟩] 23)
  clear c0A c1A c2A z0A z1A z2A c0B c1B c2B z0B z1B z2B
  have gA := keep HA.out hE
  have gB := keep HB.out hE
  have gX := heap_alloc_new w3 (.cells #[.int .i64 2, .int .i64 (wrap64 (n + n')), .string ⟨#[]⟩] 23)
  obtain ⟨c0A, c1A, c2A, z0A, z1A, z2A⟩ := three_facts gA
  have GA := Lib.hid gA
  obtain ⟨c0B, c1B, c2B, z0B, z1B, z2B⟩ := three_facts gB
  have GB := Lib.hid gB
  obtain ⟨c0X, c1X, c2X, z0X, z1X, z2X⟩ := three_facts gX
  have GX := Lib.hid gX
  have GZ := Lib.hid (HZ.out.trans (hE.mono HZ.out.size))
  clear hE HZ gA gB gX HA HB
  go_wp2_with fail
  generalize w3.alloc (.cells #[.int .i64 2, .int .i64 (wrap64 (n + n')), .string ⟨#[]⟩] 23) = w4 at *
  have HA := GA
  have HB := GB
  have HX := GX
  have HZ := GZ
  clear GZ GA GB GX
  obtain ⟨q0A, q1A, q2A⟩ := three_below HA.out
  obtain ⟨q0B, q1B, q2B⟩ := three_below HB.out
  obtain ⟨q0X, q1X, q2X⟩ := three_below HX.out
  refine wp_region_quiet_below (by kernel_rfl) (by kernel_rfl) ?_
  repeat (quiet_step (first | (go_at_call 29; with_reducible refine Calls.below_of (HE.out _)) | (go_at_call 28; with_reducible refine Calls.below_of (HI.out _))))
  refine wpQuiet_nil ?_
  intro _ hw'
  obtain ⟨pq, hw''⟩ := hw'
  subst hw''
  have hA := keep HA.out pq.h
  have hB := keep HB.out pq.h
  have hX := keep HX.out pq.h
  have hb := pq.h
  have hbz := HZ.out.trans (hb.mono HZ.out.size)
  clear HZ HA HB HX
  clear q0A q1A q2A q0B q1B q2B q0X q1X q2X
  generalize pq.x = w5 at *
  clear c0A c1A c2A z0A z1A z2A c0B c1B c2B z0B z1B z2B c0X c1X c2X z0X z1X z2X
  obtain ⟨c0A, c1A, c2A, z0A, z1A, z2A⟩ := three_facts hA
  have HA := Lib.hid hA
  obtain ⟨c0B, c1B, c2B, z0B, z1B, z2B⟩ := three_facts hB
  have HB := Lib.hid hB
  obtain ⟨c0X, c1X, c2X, z0X, z1X, z2X⟩ := three_facts hX
  have HX := Lib.hid hX
  have HZ := Lib.hid hbz
  clear hb hbz hA hB hX
  go_wp2_with fail
  go_ret
  exact ⟨rfl, HZ.out⟩
set_option maxRecDepth 100000 in
set_option maxHeartbeats 1000000 in
theorem va_none (k n k' n' : Int) (s s' x y : ByteArray) (e1 e2 : Int) (h2 : (k == 2) = false) (h3 : (k != 3) = true) (h3' : (k' != 3) = true) (hok : (okB k n s && okB k' n' s') = true) (HD : ∀ w, Calls Try.prog 27 #[.agg #[.int .i64 k, .int .i64 n, .string s], .agg #[.int .i64 k', .int .i64 n', .string s']] w fun e w' => e = .returned (.tuple #[.agg #[.int .i64 0, .int .i64 0, .string ⟨#[]⟩], .int .i64 30]) ∧ Below w.heap.size w w') (HS : ∀ w, Calls Try.prog 17 #[.agg #[.int .i64 k, .int .i64 n, .string s]] w fun e w' => e = .returned (.tuple #[.string x, .int .i64 e1]) ∧ Below w.heap.size w w') (HT : ∀ w, Calls Try.prog 17 #[.agg #[.int .i64 k', .int .i64 n', .string s']] w fun e w' => e = .returned (.tuple #[.string y, .int .i64 e2]) ∧ Below w.heap.size w w') (w : World) : Calls Try.prog 7 #[.agg #[.int .i64 k, .int .i64 n, .string s], .agg #[.int .i64 k', .int .i64 n', .string s']] w fun e w' => e = .returned (.bool true) ∧ Below w.heap.size w w' := by
  have HR : Hid (∀ w, Calls Try.prog 14 #[.slice (some ⟨w.heap.size, 0, none⟩) 2 2] (w.alloc (.cells #[.int .i64 k, .int .i64 n, .string s, .int .i64 k', .int .i64 n', .string s'] 23)) fun e w' => e = .returned (.bool true) ∧ Below w.heap.size w w') := fun w => by have h := right_two k n k' n' s s' 23 w; rw [hok] at h; exact h
  clear hok
  have HD := Lib.hid HD
  have HS := Lib.hid HS
  have HT := Lib.hid HT
  go_enter Try.func7, Try.ntmps7
  go_wp2_with fail
  refine (tells_any _).mono ?_
  rintro e w1 ⟨rfl, hb⟩
  obtain ⟨hA, hB, hbz⟩ := box2 hb
  obtain ⟨c0A, c1A, c2A, z0A, z1A, z2A⟩ := three_facts hA
  have HA := Lib.hid hA
  obtain ⟨c0B, c1B, c2B, z0B, z1B, z2B⟩ := three_facts hB
  have HB := Lib.hid hB
  have HZ := Lib.hid hbz
  clear hb hbz hA hB
  go_wp2_with fail
  refine (HR.out _).mono ?_
  rintro e w2 ⟨rfl, hb⟩
  have hA := keep HA.out hb
  have hB := keep HB.out hb
  have hbz := HZ.out.trans (hb.mono HZ.out.size)
  clear HZ HA HB
  clear c0A c1A c2A z0A z1A z2A c0B c1B c2B z0B z1B z2B
  obtain ⟨c0A, c1A, c2A, z0A, z1A, z2A⟩ := three_facts hA
  have HA := Lib.hid hA
  obtain ⟨c0B, c1B, c2B, z0B, z1B, z2B⟩ := three_facts hB
  have HB := Lib.hid hB
  have HZ := Lib.hid hbz
  clear hb hbz hA hB
  go_wp2_with fail
  refine (HD.out _).mono ?_
  rintro e w3 ⟨rfl, hb⟩
  have hA := keep HA.out hb
  have hB := keep HB.out hb
  have hbz := HZ.out.trans (hb.mono HZ.out.size)
  clear HZ HA HB
  clear c0A c1A c2A z0A z1A z2A c0B c1B c2B z0B z1B z2B
  obtain ⟨c0A, c1A, c2A, z0A, z1A, z2A⟩ := three_facts hA
  have HA := Lib.hid hA
  obtain ⟨c0B, c1B, c2B, z0B, z1B, z2B⟩ := three_facts hB
  have HB := Lib.hid hB
  have HZ := Lib.hid hbz
  clear hb hbz hA hB
  have hE := (Below.refl w3.heap.size w3).alloc (Nat.le_refl _) (.cells #[.int .i64 0, .int .i64 0, .string ⟨#[]⟩] 23)
  clear c0A c1A c2A z0A z1A z2A c0B c1B c2B z0B z1B z2B
  have gA := keep HA.out hE
  have gB := keep HB.out hE
  have gX := heap_alloc_new w3 (.cells #[.int .i64 0, .int .i64 0, .string ⟨#[]⟩] 23)
  obtain ⟨c0A, c1A, c2A, z0A, z1A, z2A⟩ := three_facts gA
  have GA := Lib.hid gA
  obtain ⟨c0B, c1B, c2B, z0B, z1B, z2B⟩ := three_facts gB
  have GB := Lib.hid gB
  obtain ⟨c0X, c1X, c2X, z0X, z1X, z2X⟩ := three_facts gX
  have GX := Lib.hid gX
  have GZ := Lib.hid (HZ.out.trans (hE.mono HZ.out.size))
  clear hE HZ gA gB gX HA HB
  go_wp2_with fail
  generalize w3.alloc (.cells #[.int .i64 0, .int .i64 0, .string ⟨#[]⟩] 23) = w4 at *
  have HA := GA
  have HB := GB
  have HX := GX
  have HZ := GZ
  clear GZ GA GB GX
  refine (HS.out _).mono ?_
  rintro e w5 ⟨rfl, hb⟩
  have hA := keep HA.out hb
  have hB := keep HB.out hb
  have hX := keep HX.out hb
  have hbz := HZ.out.trans (hb.mono HZ.out.size)
  clear HZ HA HB HX
  clear c0A c1A c2A z0A z1A z2A c0B c1B c2B z0B z1B z2B c0X c1X c2X z0X z1X z2X
  obtain ⟨c0A, c1A, c2A, z0A, z1A, z2A⟩ := three_facts hA
  have HA := Lib.hid hA
  obtain ⟨c0B, c1B, c2B, z0B, z1B, z2B⟩ := three_facts hB
  have HB := Lib.hid hB
  obtain ⟨c0X, c1X, c2X, z0X, z1X, z2X⟩ := three_facts hX
  have HX := Lib.hid hX
  have HZ := Lib.hid hbz
  clear hb hbz hA hB hX
  go_wp2_with fail
  refine (HT.out _).mono ?_
  rintro e w6 ⟨rfl, hb⟩
  have hA := keep HA.out hb
  have hB := keep HB.out hb
  have hX := keep HX.out hb
  have hbz := HZ.out.trans (hb.mono HZ.out.size)
  clear HZ HA HB HX
  clear c0A c1A c2A z0A z1A z2A c0B c1B c2B z0B z1B z2B c0X c1X c2X z0X z1X z2X
  obtain ⟨c0A, c1A, c2A, z0A, z1A, z2A⟩ := three_facts hA
  have HA := Lib.hid hA
  obtain ⟨c0B, c1B, c2B, z0B, z1B, z2B⟩ := three_facts hB
  have HB := Lib.hid hB
  obtain ⟨c0X, c1X, c2X, z0X, z1X, z2X⟩ := three_facts hX
  have HX := Lib.hid hX
  have HZ := Lib.hid hbz
  clear hb hbz hA hB hX
  go_wp2_with fail
  go_ret
  exact ⟨rfl, HZ.out⟩
set_option maxRecDepth 100000 in
set_option maxHeartbeats 1000000 in
theorem va_none2 (n k' n' : Int) (s s' x y : ByteArray) (e1 e2 : Int) (h2 : (k' == 2) = false) (h3' : (k' != 3) = true) (hok : (okB 2 n s && okB k' n' s') = true) (HD : ∀ w, Calls Try.prog 27 #[.agg #[.int .i64 2, .int .i64 n, .string s], .agg #[.int .i64 k', .int .i64 n', .string s']] w fun e w' => e = .returned (.tuple #[.agg #[.int .i64 0, .int .i64 0, .string ⟨#[]⟩], .int .i64 30]) ∧ Below w.heap.size w w') (HS : ∀ w, Calls Try.prog 17 #[.agg #[.int .i64 2, .int .i64 n, .string s]] w fun e w' => e = .returned (.tuple #[.string x, .int .i64 e1]) ∧ Below w.heap.size w w') (HT : ∀ w, Calls Try.prog 17 #[.agg #[.int .i64 k', .int .i64 n', .string s']] w fun e w' => e = .returned (.tuple #[.string y, .int .i64 e2]) ∧ Below w.heap.size w w') (w : World) : Calls Try.prog 7 #[.agg #[.int .i64 2, .int .i64 n, .string s], .agg #[.int .i64 k', .int .i64 n', .string s']] w fun e w' => e = .returned (.bool true) ∧ Below w.heap.size w w' := by
  have HR : Hid (∀ w, Calls Try.prog 14 #[.slice (some ⟨w.heap.size, 0, none⟩) 2 2] (w.alloc (.cells #[.int .i64 2, .int .i64 n, .string s, .int .i64 k', .int .i64 n', .string s'] 23)) fun e w' => e = .returned (.bool true) ∧ Below w.heap.size w w') := fun w => by have h := right_two 2 n k' n' s s' 23 w; rw [hok] at h; exact h
  clear hok
  have HD := Lib.hid HD
  have HS := Lib.hid HS
  have HT := Lib.hid HT
  go_enter Try.func7, Try.ntmps7
  go_wp2_with fail
  refine (tells_any _).mono ?_
  rintro e w1 ⟨rfl, hb⟩
  obtain ⟨hA, hB, hbz⟩ := box2 hb
  obtain ⟨c0A, c1A, c2A, z0A, z1A, z2A⟩ := three_facts hA
  have HA := Lib.hid hA
  obtain ⟨c0B, c1B, c2B, z0B, z1B, z2B⟩ := three_facts hB
  have HB := Lib.hid hB
  have HZ := Lib.hid hbz
  clear hb hbz hA hB
  go_wp2_with fail
  refine (HR.out _).mono ?_
  rintro e w2 ⟨rfl, hb⟩
  have hA := keep HA.out hb
  have hB := keep HB.out hb
  have hbz := HZ.out.trans (hb.mono HZ.out.size)
  clear HZ HA HB
  clear c0A c1A c2A z0A z1A z2A c0B c1B c2B z0B z1B z2B
  obtain ⟨c0A, c1A, c2A, z0A, z1A, z2A⟩ := three_facts hA
  have HA := Lib.hid hA
  obtain ⟨c0B, c1B, c2B, z0B, z1B, z2B⟩ := three_facts hB
  have HB := Lib.hid hB
  have HZ := Lib.hid hbz
  clear hb hbz hA hB
  go_wp2_with fail
  refine (HD.out _).mono ?_
  rintro e w3 ⟨rfl, hb⟩
  have hA := keep HA.out hb
  have hB := keep HB.out hb
  have hbz := HZ.out.trans (hb.mono HZ.out.size)
  clear HZ HA HB
  clear c0A c1A c2A z0A z1A z2A c0B c1B c2B z0B z1B z2B
  obtain ⟨c0A, c1A, c2A, z0A, z1A, z2A⟩ := three_facts hA
  have HA := Lib.hid hA
  obtain ⟨c0B, c1B, c2B, z0B, z1B, z2B⟩ := three_facts hB
  have HB := Lib.hid hB
  have HZ := Lib.hid hbz
  clear hb hbz hA hB
  have hE := (Below.refl w3.heap.size w3).alloc (Nat.le_refl _) (.cells #[.int .i64 0, .int .i64 0, .string ⟨#[]⟩] 23)
  clear c0A c1A c2A z0A z1A z2A c0B c1B c2B z0B z1B z2B
  have gA := keep HA.out hE
  have gB := keep HB.out hE
  have gX := heap_alloc_new w3 (.cells #[.int .i64 0, .int .i64 0, .string ⟨#[]⟩] 23)
  obtain ⟨c0A, c1A, c2A, z0A, z1A, z2A⟩ := three_facts gA
  have GA := Lib.hid gA
  obtain ⟨c0B, c1B, c2B, z0B, z1B, z2B⟩ := three_facts gB
  have GB := Lib.hid gB
  obtain ⟨c0X, c1X, c2X, z0X, z1X, z2X⟩ := three_facts gX
  have GX := Lib.hid gX
  have GZ := Lib.hid (HZ.out.trans (hE.mono HZ.out.size))
  clear hE HZ gA gB gX HA HB
  go_wp2_with fail
  generalize w3.alloc (.cells #[.int .i64 0, .int .i64 0, .string ⟨#[]⟩] 23) = w4 at *
  have HA := GA
  have HB := GB
  have HX := GX
  have HZ := GZ
  clear GZ GA GB GX
  refine (HS.out _).mono ?_
  rintro e w5 ⟨rfl, hb⟩
  have hA := keep HA.out hb
  have hB := keep HB.out hb
  have hX := keep HX.out hb
  have hbz := HZ.out.trans (hb.mono HZ.out.size)
  clear HZ HA HB HX
  clear c0A c1A c2A z0A z1A z2A c0B c1B c2B z0B z1B z2B c0X c1X c2X z0X z1X z2X
  obtain ⟨c0A, c1A, c2A, z0A, z1A, z2A⟩ := three_facts hA
  have HA := Lib.hid hA
  obtain ⟨c0B, c1B, c2B, z0B, z1B, z2B⟩ := three_facts hB
  have HB := Lib.hid hB
  obtain ⟨c0X, c1X, c2X, z0X, z1X, z2X⟩ := three_facts hX
  have HX := Lib.hid hX
  have HZ := Lib.hid hbz
  clear hb hbz hA hB hX
  go_wp2_with fail
  refine (HT.out _).mono ?_
  rintro e w6 ⟨rfl, hb⟩
  have hA := keep HA.out hb
  have hB := keep HB.out hb
  have hX := keep HX.out hb
  have hbz := HZ.out.trans (hb.mono HZ.out.size)
  clear HZ HA HB HX
  clear c0A c1A c2A z0A z1A z2A c0B c1B c2B z0B z1B z2B c0X c1X c2X z0X z1X z2X
  obtain ⟨c0A, c1A, c2A, z0A, z1A, z2A⟩ := three_facts hA
  have HA := Lib.hid hA
  obtain ⟨c0B, c1B, c2B, z0B, z1B, z2B⟩ := three_facts hB
  have HB := Lib.hid hB
  obtain ⟨c0X, c1X, c2X, z0X, z1X, z2X⟩ := three_facts hX
  have HX := Lib.hid hX
  have HZ := Lib.hid hbz
  clear hb hbz hA hB hX
  go_wp2_with fail
  go_ret
  exact ⟨rfl, HZ.out⟩
set_option maxRecDepth 100000 in
set_option maxHeartbeats 1000000 in
theorem va_ref2 (n n' : Int) (s s' x y : ByteArray) (hok : (okB 3 n s && okB 4 n' s') = true) (HD : ∀ w, Calls Try.prog 27 #[.agg #[.int .i64 3, .int .i64 n, .string s], .agg #[.int .i64 4, .int .i64 n', .string s']] w fun e w' => e = .returned (.tuple #[.agg #[.int .i64 0, .int .i64 0, .string ⟨#[]⟩], .int .i64 30]) ∧ Below w.heap.size w w') (HS : ∀ w, Calls Try.prog 17 #[.agg #[.int .i64 3, .int .i64 n, .string s]] w fun e w' => e = .returned (.tuple #[.string x, .int .i64 0]) ∧ Below w.heap.size w w') (HT : ∀ w, Calls Try.prog 17 #[.agg #[.int .i64 4, .int .i64 n', .string s']] w fun e w' => e = .returned (.tuple #[.string y, .int .i64 30]) ∧ Below w.heap.size w w') (w : World) : Calls Try.prog 7 #[.agg #[.int .i64 3, .int .i64 n, .string s], .agg #[.int .i64 4, .int .i64 n', .string s']] w fun e w' => e = .returned (.bool true) ∧ Below w.heap.size w w' := by
  have HR : Hid (∀ w, Calls Try.prog 14 #[.slice (some ⟨w.heap.size, 0, none⟩) 2 2] (w.alloc (.cells #[.int .i64 3, .int .i64 n, .string s, .int .i64 4, .int .i64 n', .string s'] 23)) fun e w' => e = .returned (.bool true) ∧ Below w.heap.size w w') := fun w => by have h := right_two 3 n 4 n' s s' 23 w; rw [hok] at h; exact h
  clear hok
  have HD := Lib.hid HD
  have HS := Lib.hid HS
  have HT := Lib.hid HT
  go_enter Try.func7, Try.ntmps7
  go_wp2_with fail
  refine (tells_any _).mono ?_
  rintro e w1 ⟨rfl, hb⟩
  obtain ⟨hA, hB, hbz⟩ := box2 hb
  obtain ⟨c0A, c1A, c2A, z0A, z1A, z2A⟩ := three_facts hA
  have HA := Lib.hid hA
  obtain ⟨c0B, c1B, c2B, z0B, z1B, z2B⟩ := three_facts hB
  have HB := Lib.hid hB
  have HZ := Lib.hid hbz
  clear hb hbz hA hB
  go_wp2_with fail
  refine (HR.out _).mono ?_
  rintro e w2 ⟨rfl, hb⟩
  have hA := keep HA.out hb
  have hB := keep HB.out hb
  have hbz := HZ.out.trans (hb.mono HZ.out.size)
  clear HZ HA HB
  clear c0A c1A c2A z0A z1A z2A c0B c1B c2B z0B z1B z2B
  obtain ⟨c0A, c1A, c2A, z0A, z1A, z2A⟩ := three_facts hA
  have HA := Lib.hid hA
  obtain ⟨c0B, c1B, c2B, z0B, z1B, z2B⟩ := three_facts hB
  have HB := Lib.hid hB
  have HZ := Lib.hid hbz
  clear hb hbz hA hB
  go_wp2_with fail
  refine (HD.out _).mono ?_
  rintro e w3 ⟨rfl, hb⟩
  have hA := keep HA.out hb
  have hB := keep HB.out hb
  have hbz := HZ.out.trans (hb.mono HZ.out.size)
  clear HZ HA HB
  clear c0A c1A c2A z0A z1A z2A c0B c1B c2B z0B z1B z2B
  obtain ⟨c0A, c1A, c2A, z0A, z1A, z2A⟩ := three_facts hA
  have HA := Lib.hid hA
  obtain ⟨c0B, c1B, c2B, z0B, z1B, z2B⟩ := three_facts hB
  have HB := Lib.hid hB
  have HZ := Lib.hid hbz
  clear hb hbz hA hB
  have hE := (Below.refl w3.heap.size w3).alloc (Nat.le_refl _) (.cells #[.int .i64 0, .int .i64 0, .string ⟨#[]⟩] 23)
  clear c0A c1A c2A z0A z1A z2A c0B c1B c2B z0B z1B z2B
  have gA := keep HA.out hE
  have gB := keep HB.out hE
  have gX := heap_alloc_new w3 (.cells #[.int .i64 0, .int .i64 0, .string ⟨#[]⟩] 23)
  obtain ⟨c0A, c1A, c2A, z0A, z1A, z2A⟩ := three_facts gA
  have GA := Lib.hid gA
  obtain ⟨c0B, c1B, c2B, z0B, z1B, z2B⟩ := three_facts gB
  have GB := Lib.hid gB
  obtain ⟨c0X, c1X, c2X, z0X, z1X, z2X⟩ := three_facts gX
  have GX := Lib.hid gX
  have GZ := Lib.hid (HZ.out.trans (hE.mono HZ.out.size))
  clear hE HZ gA gB gX HA HB
  go_wp2_with fail
  generalize w3.alloc (.cells #[.int .i64 0, .int .i64 0, .string ⟨#[]⟩] 23) = w4 at *
  have HA := GA
  have HB := GB
  have HX := GX
  have HZ := GZ
  clear GZ GA GB GX
  refine (HS.out _).mono ?_
  rintro e w5 ⟨rfl, hb⟩
  have hA := keep HA.out hb
  have hB := keep HB.out hb
  have hX := keep HX.out hb
  have hbz := HZ.out.trans (hb.mono HZ.out.size)
  clear HZ HA HB HX
  clear c0A c1A c2A z0A z1A z2A c0B c1B c2B z0B z1B z2B c0X c1X c2X z0X z1X z2X
  obtain ⟨c0A, c1A, c2A, z0A, z1A, z2A⟩ := three_facts hA
  have HA := Lib.hid hA
  obtain ⟨c0B, c1B, c2B, z0B, z1B, z2B⟩ := three_facts hB
  have HB := Lib.hid hB
  obtain ⟨c0X, c1X, c2X, z0X, z1X, z2X⟩ := three_facts hX
  have HX := Lib.hid hX
  have HZ := Lib.hid hbz
  clear hb hbz hA hB hX
  go_wp2_with fail
  refine (HT.out _).mono ?_
  rintro e w6 ⟨rfl, hb⟩
  have hA := keep HA.out hb
  have hB := keep HB.out hb
  have hX := keep HX.out hb
  have hbz := HZ.out.trans (hb.mono HZ.out.size)
  clear HZ HA HB HX
  clear c0A c1A c2A z0A z1A z2A c0B c1B c2B z0B z1B z2B c0X c1X c2X z0X z1X z2X
  obtain ⟨c0A, c1A, c2A, z0A, z1A, z2A⟩ := three_facts hA
  have HA := Lib.hid hA
  obtain ⟨c0B, c1B, c2B, z0B, z1B, z2B⟩ := three_facts hB
  have HB := Lib.hid hB
  obtain ⟨c0X, c1X, c2X, z0X, z1X, z2X⟩ := three_facts hX
  have HX := Lib.hid hX
  have HZ := Lib.hid hbz
  clear hb hbz hA hB hX
  go_wp2_with fail
  go_ret
  exact ⟨rfl, HZ.out⟩
set_option maxRecDepth 100000 in
set_option maxHeartbeats 1000000 in
theorem va_ref1 (n n' : Int) (s s' x y : ByteArray) (hok : (okB 4 n s && okB 3 n' s') = true) (HD : ∀ w, Calls Try.prog 27 #[.agg #[.int .i64 4, .int .i64 n, .string s], .agg #[.int .i64 3, .int .i64 n', .string s']] w fun e w' => e = .returned (.tuple #[.agg #[.int .i64 0, .int .i64 0, .string ⟨#[]⟩], .int .i64 30]) ∧ Below w.heap.size w w') (HS : ∀ w, Calls Try.prog 17 #[.agg #[.int .i64 4, .int .i64 n, .string s]] w fun e w' => e = .returned (.tuple #[.string x, .int .i64 30]) ∧ Below w.heap.size w w') (HT : ∀ w, Calls Try.prog 17 #[.agg #[.int .i64 3, .int .i64 n', .string s']] w fun e w' => e = .returned (.tuple #[.string y, .int .i64 0]) ∧ Below w.heap.size w w') (w : World) : Calls Try.prog 7 #[.agg #[.int .i64 4, .int .i64 n, .string s], .agg #[.int .i64 3, .int .i64 n', .string s']] w fun e w' => e = .returned (.bool true) ∧ Below w.heap.size w w' := by
  have HR : Hid (∀ w, Calls Try.prog 14 #[.slice (some ⟨w.heap.size, 0, none⟩) 2 2] (w.alloc (.cells #[.int .i64 4, .int .i64 n, .string s, .int .i64 3, .int .i64 n', .string s'] 23)) fun e w' => e = .returned (.bool true) ∧ Below w.heap.size w w') := fun w => by have h := right_two 4 n 3 n' s s' 23 w; rw [hok] at h; exact h
  clear hok
  have HD := Lib.hid HD
  have HS := Lib.hid HS
  have HT := Lib.hid HT
  go_enter Try.func7, Try.ntmps7
  go_wp2_with fail
  refine (tells_any _).mono ?_
  rintro e w1 ⟨rfl, hb⟩
  obtain ⟨hA, hB, hbz⟩ := box2 hb
  obtain ⟨c0A, c1A, c2A, z0A, z1A, z2A⟩ := three_facts hA
  have HA := Lib.hid hA
  obtain ⟨c0B, c1B, c2B, z0B, z1B, z2B⟩ := three_facts hB
  have HB := Lib.hid hB
  have HZ := Lib.hid hbz
  clear hb hbz hA hB
  go_wp2_with fail
  refine (HR.out _).mono ?_
  rintro e w2 ⟨rfl, hb⟩
  have hA := keep HA.out hb
  have hB := keep HB.out hb
  have hbz := HZ.out.trans (hb.mono HZ.out.size)
  clear HZ HA HB
  clear c0A c1A c2A z0A z1A z2A c0B c1B c2B z0B z1B z2B
  obtain ⟨c0A, c1A, c2A, z0A, z1A, z2A⟩ := three_facts hA
  have HA := Lib.hid hA
  obtain ⟨c0B, c1B, c2B, z0B, z1B, z2B⟩ := three_facts hB
  have HB := Lib.hid hB
  have HZ := Lib.hid hbz
  clear hb hbz hA hB
  go_wp2_with fail
  refine (HD.out _).mono ?_
  rintro e w3 ⟨rfl, hb⟩
  have hA := keep HA.out hb
  have hB := keep HB.out hb
  have hbz := HZ.out.trans (hb.mono HZ.out.size)
  clear HZ HA HB
  clear c0A c1A c2A z0A z1A z2A c0B c1B c2B z0B z1B z2B
  obtain ⟨c0A, c1A, c2A, z0A, z1A, z2A⟩ := three_facts hA
  have HA := Lib.hid hA
  obtain ⟨c0B, c1B, c2B, z0B, z1B, z2B⟩ := three_facts hB
  have HB := Lib.hid hB
  have HZ := Lib.hid hbz
  clear hb hbz hA hB
  have hE := (Below.refl w3.heap.size w3).alloc (Nat.le_refl _) (.cells #[.int .i64 0, .int .i64 0, .string ⟨#[]⟩] 23)
  clear c0A c1A c2A z0A z1A z2A c0B c1B c2B z0B z1B z2B
  have gA := keep HA.out hE
  have gB := keep HB.out hE
  have gX := heap_alloc_new w3 (.cells #[.int .i64 0, .int .i64 0, .string ⟨#[]⟩] 23)
  obtain ⟨c0A, c1A, c2A, z0A, z1A, z2A⟩ := three_facts gA
  have GA := Lib.hid gA
  obtain ⟨c0B, c1B, c2B, z0B, z1B, z2B⟩ := three_facts gB
  have GB := Lib.hid gB
  obtain ⟨c0X, c1X, c2X, z0X, z1X, z2X⟩ := three_facts gX
  have GX := Lib.hid gX
  have GZ := Lib.hid (HZ.out.trans (hE.mono HZ.out.size))
  clear hE HZ gA gB gX HA HB
  go_wp2_with fail
  generalize w3.alloc (.cells #[.int .i64 0, .int .i64 0, .string ⟨#[]⟩] 23) = w4 at *
  have HA := GA
  have HB := GB
  have HX := GX
  have HZ := GZ
  clear GZ GA GB GX
  refine (HS.out _).mono ?_
  rintro e w5 ⟨rfl, hb⟩
  have hA := keep HA.out hb
  have hB := keep HB.out hb
  have hX := keep HX.out hb
  have hbz := HZ.out.trans (hb.mono HZ.out.size)
  clear HZ HA HB HX
  clear c0A c1A c2A z0A z1A z2A c0B c1B c2B z0B z1B z2B c0X c1X c2X z0X z1X z2X
  obtain ⟨c0A, c1A, c2A, z0A, z1A, z2A⟩ := three_facts hA
  have HA := Lib.hid hA
  obtain ⟨c0B, c1B, c2B, z0B, z1B, z2B⟩ := three_facts hB
  have HB := Lib.hid hB
  obtain ⟨c0X, c1X, c2X, z0X, z1X, z2X⟩ := three_facts hX
  have HX := Lib.hid hX
  have HZ := Lib.hid hbz
  clear hb hbz hA hB hX
  go_wp2_with fail
  refine (HT.out _).mono ?_
  rintro e w6 ⟨rfl, hb⟩
  have hA := keep HA.out hb
  have hB := keep HB.out hb
  have hX := keep HX.out hb
  have hbz := HZ.out.trans (hb.mono HZ.out.size)
  clear HZ HA HB HX
  clear c0A c1A c2A z0A z1A z2A c0B c1B c2B z0B z1B z2B c0X c1X c2X z0X z1X z2X
  obtain ⟨c0A, c1A, c2A, z0A, z1A, z2A⟩ := three_facts hA
  have HA := Lib.hid hA
  obtain ⟨c0B, c1B, c2B, z0B, z1B, z2B⟩ := three_facts hB
  have HB := Lib.hid hB
  obtain ⟨c0X, c1X, c2X, z0X, z1X, z2X⟩ := three_facts hX
  have HX := Lib.hid hX
  have HZ := Lib.hid hbz
  clear hb hbz hA hB hX
  go_wp2_with fail
  go_ret
  exact ⟨rfl, HZ.out⟩
set_option maxRecDepth 100000 in
set_option maxHeartbeats 1000000 in
theorem va_text1 (n k' n' : Int) (s s' x y : ByteArray) (hx : x.size ≤ 2000) (hy : y.size ≤ 2000) (hok : (okB 3 n s && okB k' n' s') = true) (HD : ∀ w, Calls Try.prog 27 #[.agg #[.int .i64 3, .int .i64 n, .string s], .agg #[.int .i64 k', .int .i64 n', .string s']] w fun e w' => e = .returned (.tuple #[.agg #[.int .i64 3, .int .i64 0, .string (x ++ y)], .int .i64 0]) ∧ Below w.heap.size w w') (HS : ∀ w, Calls Try.prog 17 #[.agg #[.int .i64 3, .int .i64 n, .string s]] w fun e w' => e = .returned (.tuple #[.string x, .int .i64 0]) ∧ Below w.heap.size w w') (HT : ∀ w, Calls Try.prog 17 #[.agg #[.int .i64 k', .int .i64 n', .string s']] w fun e w' => e = .returned (.tuple #[.string y, .int .i64 0]) ∧ Below w.heap.size w w') (w : World) : Calls Try.prog 7 #[.agg #[.int .i64 3, .int .i64 n, .string s], .agg #[.int .i64 k', .int .i64 n', .string s']] w fun e w' => e = .returned (.bool true) ∧ Below w.heap.size w w' := by
  have HR : Hid (∀ w, Calls Try.prog 14 #[.slice (some ⟨w.heap.size, 0, none⟩) 2 2] (w.alloc (.cells #[.int .i64 3, .int .i64 n, .string s, .int .i64 k', .int .i64 n', .string s'] 23)) fun e w' => e = .returned (.bool true) ∧ Below w.heap.size w w') := fun w => by have h := right_two 3 n k' n' s s' 23 w; rw [hok] at h; exact h
  clear hok
  have HD := Lib.hid HD
  have HS := Lib.hid HS
  have HT := Lib.hid HT
  have hxy : ¬ 9223372036854775807 < x.size + y.size := by omega
  have HI := Lib.hid fun w => str_any (x ++ y) w
  go_enter Try.func7, Try.ntmps7
  go_wp2_with fail
  refine (tells_any _).mono ?_
  rintro e w1 ⟨rfl, hb⟩
  obtain ⟨hA, hB, hbz⟩ := box2 hb
  obtain ⟨c0A, c1A, c2A, z0A, z1A, z2A⟩ := three_facts hA
  have HA := Lib.hid hA
  obtain ⟨c0B, c1B, c2B, z0B, z1B, z2B⟩ := three_facts hB
  have HB := Lib.hid hB
  have HZ := Lib.hid hbz
  clear hb hbz hA hB
  go_wp2_with fail
  refine (HR.out _).mono ?_
  rintro e w2 ⟨rfl, hb⟩
  have hA := keep HA.out hb
  have hB := keep HB.out hb
  have hbz := HZ.out.trans (hb.mono HZ.out.size)
  clear HZ HA HB
  clear c0A c1A c2A z0A z1A z2A c0B c1B c2B z0B z1B z2B
  obtain ⟨c0A, c1A, c2A, z0A, z1A, z2A⟩ := three_facts hA
  have HA := Lib.hid hA
  obtain ⟨c0B, c1B, c2B, z0B, z1B, z2B⟩ := three_facts hB
  have HB := Lib.hid hB
  have HZ := Lib.hid hbz
  clear hb hbz hA hB
  go_wp2_with fail
  refine (HD.out _).mono ?_
  rintro e w3 ⟨rfl, hb⟩
  have hA := keep HA.out hb
  have hB := keep HB.out hb
  have hbz := HZ.out.trans (hb.mono HZ.out.size)
  clear HZ HA HB
  clear c0A c1A c2A z0A z1A z2A c0B c1B c2B z0B z1B z2B
  obtain ⟨c0A, c1A, c2A, z0A, z1A, z2A⟩ := three_facts hA
  have HA := Lib.hid hA
  obtain ⟨c0B, c1B, c2B, z0B, z1B, z2B⟩ := three_facts hB
  have HB := Lib.hid hB
  have HZ := Lib.hid hbz
  clear hb hbz hA hB
  have hE := (Below.refl w3.heap.size w3).alloc (Nat.le_refl _) (.cells #[.int .i64 3, .int .i64 0, .string (x ++ y)] 23)
  clear c0A c1A c2A z0A z1A z2A c0B c1B c2B z0B z1B z2B
  have gA := keep HA.out hE
  have gB := keep HB.out hE
  have gX := heap_alloc_new w3 (.cells #[.int .i64 3, .int .i64 0, .string (x ++ y)] 23)
  obtain ⟨c0A, c1A, c2A, z0A, z1A, z2A⟩ := three_facts gA
  have GA := Lib.hid gA
  obtain ⟨c0B, c1B, c2B, z0B, z1B, z2B⟩ := three_facts gB
  have GB := Lib.hid gB
  obtain ⟨c0X, c1X, c2X, z0X, z1X, z2X⟩ := three_facts gX
  have GX := Lib.hid gX
  have GZ := Lib.hid (HZ.out.trans (hE.mono HZ.out.size))
  clear hE HZ gA gB gX HA HB
  go_wp2_with fail
  generalize w3.alloc (.cells #[.int .i64 3, .int .i64 0, .string (x ++ y)] 23) = w4 at *
  have HA := GA
  have HB := GB
  have HX := GX
  have HZ := GZ
  clear GZ GA GB GX
  refine (HS.out _).mono ?_
  rintro e w5 ⟨rfl, hb⟩
  have hA := keep HA.out hb
  have hB := keep HB.out hb
  have hX := keep HX.out hb
  have hbz := HZ.out.trans (hb.mono HZ.out.size)
  clear HZ HA HB HX
  clear c0A c1A c2A z0A z1A z2A c0B c1B c2B z0B z1B z2B c0X c1X c2X z0X z1X z2X
  obtain ⟨c0A, c1A, c2A, z0A, z1A, z2A⟩ := three_facts hA
  have HA := Lib.hid hA
  obtain ⟨c0B, c1B, c2B, z0B, z1B, z2B⟩ := three_facts hB
  have HB := Lib.hid hB
  obtain ⟨c0X, c1X, c2X, z0X, z1X, z2X⟩ := three_facts hX
  have HX := Lib.hid hX
  have HZ := Lib.hid hbz
  clear hb hbz hA hB hX
  go_wp2_with fail
  refine (HT.out _).mono ?_
  rintro e w6 ⟨rfl, hb⟩
  have hA := keep HA.out hb
  have hB := keep HB.out hb
  have hX := keep HX.out hb
  have hbz := HZ.out.trans (hb.mono HZ.out.size)
  clear HZ HA HB HX
  clear c0A c1A c2A z0A z1A z2A c0B c1B c2B z0B z1B z2B c0X c1X c2X z0X z1X z2X
  obtain ⟨c0A, c1A, c2A, z0A, z1A, z2A⟩ := three_facts hA
  have HA := Lib.hid hA
  obtain ⟨c0B, c1B, c2B, z0B, z1B, z2B⟩ := three_facts hB
  have HB := Lib.hid hB
  obtain ⟨c0X, c1X, c2X, z0X, z1X, z2X⟩ := three_facts hX
  have HX := Lib.hid hX
  have HZ := Lib.hid hbz
  clear hb hbz hA hB hX
  obtain ⟨q0A, q1A, q2A⟩ := three_below HA.out
  obtain ⟨q0B, q1B, q2B⟩ := three_below HB.out
  obtain ⟨q0X, q1X, q2X⟩ := three_below HX.out
  go_wp2_with fail
  refine wp_region_quiet_below (by kernel_rfl) (by kernel_rfl) ?_
  repeat (quiet_step (first | (go_at_call 22; with_reducible refine Calls.below_of (HI.out _))))
  refine wpQuiet_nil ?_
  intro _ hw'
  obtain ⟨pq, hw''⟩ := hw'
  subst hw''
  have hA := keep HA.out pq.h
  have hB := keep HB.out pq.h
  have hX := keep HX.out pq.h
  have hb := pq.h
  have hbz := HZ.out.trans (hb.mono HZ.out.size)
  clear HZ HA HB HX
  clear q0A q1A q2A q0B q1B q2B q0X q1X q2X
  generalize pq.x = w7 at *
  clear c0A c1A c2A z0A z1A z2A c0B c1B c2B z0B z1B z2B c0X c1X c2X z0X z1X z2X
  obtain ⟨c0A, c1A, c2A, z0A, z1A, z2A⟩ := three_facts hA
  have HA := Lib.hid hA
  obtain ⟨c0B, c1B, c2B, z0B, z1B, z2B⟩ := three_facts hB
  have HB := Lib.hid hB
  obtain ⟨c0X, c1X, c2X, z0X, z1X, z2X⟩ := three_facts hX
  have HX := Lib.hid hX
  have HZ := Lib.hid hbz
  clear hb hbz hA hB hX
  go_wp2_with fail
  go_ret
  exact ⟨rfl, HZ.out⟩
set_option maxRecDepth 100000 in
set_option maxHeartbeats 1000000 in
theorem va_text2 (k n n' : Int) (s s' x y : ByteArray) (hx : x.size ≤ 2000) (hy : y.size ≤ 2000) (h3 : (k != 3) = true) (h2 : (k == 2) = false) (hok : (okB k n s && okB 3 n' s') = true) (HD : ∀ w, Calls Try.prog 27 #[.agg #[.int .i64 k, .int .i64 n, .string s], .agg #[.int .i64 3, .int .i64 n', .string s']] w fun e w' => e = .returned (.tuple #[.agg #[.int .i64 3, .int .i64 0, .string (x ++ y)], .int .i64 0]) ∧ Below w.heap.size w w') (HS : ∀ w, Calls Try.prog 17 #[.agg #[.int .i64 k, .int .i64 n, .string s]] w fun e w' => e = .returned (.tuple #[.string x, .int .i64 0]) ∧ Below w.heap.size w w') (HT : ∀ w, Calls Try.prog 17 #[.agg #[.int .i64 3, .int .i64 n', .string s']] w fun e w' => e = .returned (.tuple #[.string y, .int .i64 0]) ∧ Below w.heap.size w w') (w : World) : Calls Try.prog 7 #[.agg #[.int .i64 k, .int .i64 n, .string s], .agg #[.int .i64 3, .int .i64 n', .string s']] w fun e w' => e = .returned (.bool true) ∧ Below w.heap.size w w' := by
  have HR : Hid (∀ w, Calls Try.prog 14 #[.slice (some ⟨w.heap.size, 0, none⟩) 2 2] (w.alloc (.cells #[.int .i64 k, .int .i64 n, .string s, .int .i64 3, .int .i64 n', .string s'] 23)) fun e w' => e = .returned (.bool true) ∧ Below w.heap.size w w') := fun w => by have h := right_two k n 3 n' s s' 23 w; rw [hok] at h; exact h
  clear hok
  have HD := Lib.hid HD
  have HS := Lib.hid HS
  have HT := Lib.hid HT
  have hxy : ¬ 9223372036854775807 < x.size + y.size := by omega
  have HI := Lib.hid fun w => str_any (x ++ y) w
  go_enter Try.func7, Try.ntmps7
  go_wp2_with fail
  refine (tells_any _).mono ?_
  rintro e w1 ⟨rfl, hb⟩
  obtain ⟨hA, hB, hbz⟩ := box2 hb
  obtain ⟨c0A, c1A, c2A, z0A, z1A, z2A⟩ := three_facts hA
  have HA := Lib.hid hA
  obtain ⟨c0B, c1B, c2B, z0B, z1B, z2B⟩ := three_facts hB
  have HB := Lib.hid hB
  have HZ := Lib.hid hbz
  clear hb hbz hA hB
  go_wp2_with fail
  refine (HR.out _).mono ?_
  rintro e w2 ⟨rfl, hb⟩
  have hA := keep HA.out hb
  have hB := keep HB.out hb
  have hbz := HZ.out.trans (hb.mono HZ.out.size)
  clear HZ HA HB
  clear c0A c1A c2A z0A z1A z2A c0B c1B c2B z0B z1B z2B
  obtain ⟨c0A, c1A, c2A, z0A, z1A, z2A⟩ := three_facts hA
  have HA := Lib.hid hA
  obtain ⟨c0B, c1B, c2B, z0B, z1B, z2B⟩ := three_facts hB
  have HB := Lib.hid hB
  have HZ := Lib.hid hbz
  clear hb hbz hA hB
  go_wp2_with fail
  refine (HD.out _).mono ?_
  rintro e w3 ⟨rfl, hb⟩
  have hA := keep HA.out hb
  have hB := keep HB.out hb
  have hbz := HZ.out.trans (hb.mono HZ.out.size)
  clear HZ HA HB
  clear c0A c1A c2A z0A z1A z2A c0B c1B c2B z0B z1B z2B
  obtain ⟨c0A, c1A, c2A, z0A, z1A, z2A⟩ := three_facts hA
  have HA := Lib.hid hA
  obtain ⟨c0B, c1B, c2B, z0B, z1B, z2B⟩ := three_facts hB
  have HB := Lib.hid hB
  have HZ := Lib.hid hbz
  clear hb hbz hA hB
  have hE := (Below.refl w3.heap.size w3).alloc (Nat.le_refl _) (.cells #[.int .i64 3, .int .i64 0, .string (x ++ y)] 23)
  clear c0A c1A c2A z0A z1A z2A c0B c1B c2B z0B z1B z2B
  have gA := keep HA.out hE
  have gB := keep HB.out hE
  have gX := heap_alloc_new w3 (.cells #[.int .i64 3, .int .i64 0, .string (x ++ y)] 23)
  obtain ⟨c0A, c1A, c2A, z0A, z1A, z2A⟩ := three_facts gA
  have GA := Lib.hid gA
  obtain ⟨c0B, c1B, c2B, z0B, z1B, z2B⟩ := three_facts gB
  have GB := Lib.hid gB
  obtain ⟨c0X, c1X, c2X, z0X, z1X, z2X⟩ := three_facts gX
  have GX := Lib.hid gX
  have GZ := Lib.hid (HZ.out.trans (hE.mono HZ.out.size))
  clear hE HZ gA gB gX HA HB
  go_wp2_with fail
  generalize w3.alloc (.cells #[.int .i64 3, .int .i64 0, .string (x ++ y)] 23) = w4 at *
  have HA := GA
  have HB := GB
  have HX := GX
  have HZ := GZ
  clear GZ GA GB GX
  refine (HS.out _).mono ?_
  rintro e w5 ⟨rfl, hb⟩
  have hA := keep HA.out hb
  have hB := keep HB.out hb
  have hX := keep HX.out hb
  have hbz := HZ.out.trans (hb.mono HZ.out.size)
  clear HZ HA HB HX
  clear c0A c1A c2A z0A z1A z2A c0B c1B c2B z0B z1B z2B c0X c1X c2X z0X z1X z2X
  obtain ⟨c0A, c1A, c2A, z0A, z1A, z2A⟩ := three_facts hA
  have HA := Lib.hid hA
  obtain ⟨c0B, c1B, c2B, z0B, z1B, z2B⟩ := three_facts hB
  have HB := Lib.hid hB
  obtain ⟨c0X, c1X, c2X, z0X, z1X, z2X⟩ := three_facts hX
  have HX := Lib.hid hX
  have HZ := Lib.hid hbz
  clear hb hbz hA hB hX
  go_wp2_with fail
  refine (HT.out _).mono ?_
  rintro e w6 ⟨rfl, hb⟩
  have hA := keep HA.out hb
  have hB := keep HB.out hb
  have hX := keep HX.out hb
  have hbz := HZ.out.trans (hb.mono HZ.out.size)
  clear HZ HA HB HX
  clear c0A c1A c2A z0A z1A z2A c0B c1B c2B z0B z1B z2B c0X c1X c2X z0X z1X z2X
  obtain ⟨c0A, c1A, c2A, z0A, z1A, z2A⟩ := three_facts hA
  have HA := Lib.hid hA
  obtain ⟨c0B, c1B, c2B, z0B, z1B, z2B⟩ := three_facts hB
  have HB := Lib.hid hB
  obtain ⟨c0X, c1X, c2X, z0X, z1X, z2X⟩ := three_facts hX
  have HX := Lib.hid hX
  have HZ := Lib.hid hbz
  clear hb hbz hA hB hX
  obtain ⟨q0A, q1A, q2A⟩ := three_below HA.out
  obtain ⟨q0B, q1B, q2B⟩ := three_below HB.out
  obtain ⟨q0X, q1X, q2X⟩ := three_below HX.out
  go_wp2_with fail
  refine wp_region_quiet_below (by kernel_rfl) (by kernel_rfl) ?_
  repeat (quiet_step (first | (go_at_call 22; with_reducible refine Calls.below_of (HI.out _))))
  refine wpQuiet_nil ?_
  intro _ hw'
  obtain ⟨pq, hw''⟩ := hw'
  subst hw''
  have hA := keep HA.out pq.h
  have hB := keep HB.out pq.h
  have hX := keep HX.out pq.h
  have hb := pq.h
  have hbz := HZ.out.trans (hb.mono HZ.out.size)
  clear HZ HA HB HX
  clear q0A q1A q2A q0B q1B q2B q0X q1X q2X
  generalize pq.x = w7 at *
  clear c0A c1A c2A z0A z1A z2A c0B c1B c2B z0B z1B z2B c0X c1X c2X z0X z1X z2X
  obtain ⟨c0A, c1A, c2A, z0A, z1A, z2A⟩ := three_facts hA
  have HA := Lib.hid hA
  obtain ⟨c0B, c1B, c2B, z0B, z1B, z2B⟩ := three_facts hB
  have HB := Lib.hid hB
  obtain ⟨c0X, c1X, c2X, z0X, z1X, z2X⟩ := three_facts hX
  have HX := Lib.hid hX
  have HZ := Lib.hid hbz
  clear hb hbz hA hB hX
  go_wp2_with fail
  go_ret
  exact ⟨rfl, HZ.out⟩
set_option maxRecDepth 100000 in
set_option maxHeartbeats 1000000 in
theorem va_text2b (n n' : Int) (s s' x y : ByteArray) (hx : x.size ≤ 2000) (hy : y.size ≤ 2000) (hok : (okB 2 n s && okB 3 n' s') = true) (HD : ∀ w, Calls Try.prog 27 #[.agg #[.int .i64 2, .int .i64 n, .string s], .agg #[.int .i64 3, .int .i64 n', .string s']] w fun e w' => e = .returned (.tuple #[.agg #[.int .i64 3, .int .i64 0, .string (x ++ y)], .int .i64 0]) ∧ Below w.heap.size w w') (HS : ∀ w, Calls Try.prog 17 #[.agg #[.int .i64 2, .int .i64 n, .string s]] w fun e w' => e = .returned (.tuple #[.string x, .int .i64 0]) ∧ Below w.heap.size w w') (HT : ∀ w, Calls Try.prog 17 #[.agg #[.int .i64 3, .int .i64 n', .string s']] w fun e w' => e = .returned (.tuple #[.string y, .int .i64 0]) ∧ Below w.heap.size w w') (w : World) : Calls Try.prog 7 #[.agg #[.int .i64 2, .int .i64 n, .string s], .agg #[.int .i64 3, .int .i64 n', .string s']] w fun e w' => e = .returned (.bool true) ∧ Below w.heap.size w w' := by
  have HR : Hid (∀ w, Calls Try.prog 14 #[.slice (some ⟨w.heap.size, 0, none⟩) 2 2] (w.alloc (.cells #[.int .i64 2, .int .i64 n, .string s, .int .i64 3, .int .i64 n', .string s'] 23)) fun e w' => e = .returned (.bool true) ∧ Below w.heap.size w w') := fun w => by have h := right_two 2 n 3 n' s s' 23 w; rw [hok] at h; exact h
  clear hok
  have HD := Lib.hid HD
  have HS := Lib.hid HS
  have HT := Lib.hid HT
  have hxy : ¬ 9223372036854775807 < x.size + y.size := by omega
  have HI := Lib.hid fun w => str_any (x ++ y) w
  go_enter Try.func7, Try.ntmps7
  go_wp2_with fail
  refine (tells_any _).mono ?_
  rintro e w1 ⟨rfl, hb⟩
  obtain ⟨hA, hB, hbz⟩ := box2 hb
  obtain ⟨c0A, c1A, c2A, z0A, z1A, z2A⟩ := three_facts hA
  have HA := Lib.hid hA
  obtain ⟨c0B, c1B, c2B, z0B, z1B, z2B⟩ := three_facts hB
  have HB := Lib.hid hB
  have HZ := Lib.hid hbz
  clear hb hbz hA hB
  go_wp2_with fail
  refine (HR.out _).mono ?_
  rintro e w2 ⟨rfl, hb⟩
  have hA := keep HA.out hb
  have hB := keep HB.out hb
  have hbz := HZ.out.trans (hb.mono HZ.out.size)
  clear HZ HA HB
  clear c0A c1A c2A z0A z1A z2A c0B c1B c2B z0B z1B z2B
  obtain ⟨c0A, c1A, c2A, z0A, z1A, z2A⟩ := three_facts hA
  have HA := Lib.hid hA
  obtain ⟨c0B, c1B, c2B, z0B, z1B, z2B⟩ := three_facts hB
  have HB := Lib.hid hB
  have HZ := Lib.hid hbz
  clear hb hbz hA hB
  go_wp2_with fail
  refine (HD.out _).mono ?_
  rintro e w3 ⟨rfl, hb⟩
  have hA := keep HA.out hb
  have hB := keep HB.out hb
  have hbz := HZ.out.trans (hb.mono HZ.out.size)
  clear HZ HA HB
  clear c0A c1A c2A z0A z1A z2A c0B c1B c2B z0B z1B z2B
  obtain ⟨c0A, c1A, c2A, z0A, z1A, z2A⟩ := three_facts hA
  have HA := Lib.hid hA
  obtain ⟨c0B, c1B, c2B, z0B, z1B, z2B⟩ := three_facts hB
  have HB := Lib.hid hB
  have HZ := Lib.hid hbz
  clear hb hbz hA hB
  have hE := (Below.refl w3.heap.size w3).alloc (Nat.le_refl _) (.cells #[.int .i64 3, .int .i64 0, .string (x ++ y)] 23)
  clear c0A c1A c2A z0A z1A z2A c0B c1B c2B z0B z1B z2B
  have gA := keep HA.out hE
  have gB := keep HB.out hE
  have gX := heap_alloc_new w3 (.cells #[.int .i64 3, .int .i64 0, .string (x ++ y)] 23)
  obtain ⟨c0A, c1A, c2A, z0A, z1A, z2A⟩ := three_facts gA
  have GA := Lib.hid gA
  obtain ⟨c0B, c1B, c2B, z0B, z1B, z2B⟩ := three_facts gB
  have GB := Lib.hid gB
  obtain ⟨c0X, c1X, c2X, z0X, z1X, z2X⟩ := three_facts gX
  have GX := Lib.hid gX
  have GZ := Lib.hid (HZ.out.trans (hE.mono HZ.out.size))
  clear hE HZ gA gB gX HA HB
  go_wp2_with fail
  generalize w3.alloc (.cells #[.int .i64 3, .int .i64 0, .string (x ++ y)] 23) = w4 at *
  have HA := GA
  have HB := GB
  have HX := GX
  have HZ := GZ
  clear GZ GA GB GX
  refine (HS.out _).mono ?_
  rintro e w5 ⟨rfl, hb⟩
  have hA := keep HA.out hb
  have hB := keep HB.out hb
  have hX := keep HX.out hb
  have hbz := HZ.out.trans (hb.mono HZ.out.size)
  clear HZ HA HB HX
  clear c0A c1A c2A z0A z1A z2A c0B c1B c2B z0B z1B z2B c0X c1X c2X z0X z1X z2X
  obtain ⟨c0A, c1A, c2A, z0A, z1A, z2A⟩ := three_facts hA
  have HA := Lib.hid hA
  obtain ⟨c0B, c1B, c2B, z0B, z1B, z2B⟩ := three_facts hB
  have HB := Lib.hid hB
  obtain ⟨c0X, c1X, c2X, z0X, z1X, z2X⟩ := three_facts hX
  have HX := Lib.hid hX
  have HZ := Lib.hid hbz
  clear hb hbz hA hB hX
  go_wp2_with fail
  refine (HT.out _).mono ?_
  rintro e w6 ⟨rfl, hb⟩
  have hA := keep HA.out hb
  have hB := keep HB.out hb
  have hX := keep HX.out hb
  have hbz := HZ.out.trans (hb.mono HZ.out.size)
  clear HZ HA HB HX
  clear c0A c1A c2A z0A z1A z2A c0B c1B c2B z0B z1B z2B c0X c1X c2X z0X z1X z2X
  obtain ⟨c0A, c1A, c2A, z0A, z1A, z2A⟩ := three_facts hA
  have HA := Lib.hid hA
  obtain ⟨c0B, c1B, c2B, z0B, z1B, z2B⟩ := three_facts hB
  have HB := Lib.hid hB
  obtain ⟨c0X, c1X, c2X, z0X, z1X, z2X⟩ := three_facts hX
  have HX := Lib.hid hX
  have HZ := Lib.hid hbz
  clear hb hbz hA hB hX
  obtain ⟨q0A, q1A, q2A⟩ := three_below HA.out
  obtain ⟨q0B, q1B, q2B⟩ := three_below HB.out
  obtain ⟨q0X, q1X, q2X⟩ := three_below HX.out
  go_wp2_with fail
  refine wp_region_quiet_below (by kernel_rfl) (by kernel_rfl) ?_
  repeat (quiet_step (first | (go_at_call 22; with_reducible refine Calls.below_of (HI.out _))))
  refine wpQuiet_nil ?_
  intro _ hw'
  obtain ⟨pq, hw''⟩ := hw'
  subst hw''
  have hA := keep HA.out pq.h
  have hB := keep HB.out pq.h
  have hX := keep HX.out pq.h
  have hb := pq.h
  have hbz := HZ.out.trans (hb.mono HZ.out.size)
  clear HZ HA HB HX
  clear q0A q1A q2A q0B q1B q2B q0X q1X q2X
  generalize pq.x = w7 at *
  clear c0A c1A c2A z0A z1A z2A c0B c1B c2B z0B z1B z2B c0X c1X c2X z0X z1X z2X
  obtain ⟨c0A, c1A, c2A, z0A, z1A, z2A⟩ := three_facts hA
  have HA := Lib.hid hA
  obtain ⟨c0B, c1B, c2B, z0B, z1B, z2B⟩ := three_facts hB
  have HB := Lib.hid hB
  obtain ⟨c0X, c1X, c2X, z0X, z1X, z2X⟩ := three_facts hX
  have HX := Lib.hid hX
  have HZ := Lib.hid hbz
  clear hb hbz hA hB hX
  go_wp2_with fail
  go_ret
  exact ⟨rfl, HZ.out⟩

theorem cat_eq (x y : ByteArray) : cat x y = x ++ y := bytes_ext (by simp [cat])
theorem text_len (k n : Int) (s : ByteArray) (hs : s.size ≤ 1000) : (textV k n s).size ≤ 2000 := by
  unfold textV
  split
  · decide
  · split
    · split <;> decide
    · split
      · rw [size_mk]
        have := Nu.ds_len 10 63 n.natAbs
        unfold Nu.txt
        rw [List.length_append]
        split <;> simp <;> omega
      · split
        · omega
        · decide
theorem valueAdds_walk (k n : Int) (s : ByteArray) (_ : (Lit.int .i64 k).wf = true) (wn : (Lit.int .i64 n).wf = true) (_ : s.size ≤ maxLen) (k' n' : Int) (s' : ByteArray) (_ : (Lit.int .i64 k').wf = true) (wn' : (Lit.int .i64 n').wf = true) (_ : s'.size ≤ maxLen) (w : World) :
    Calls Try.prog 7 #[.agg #[.int .i64 k, .int .i64 n, .string s], .agg #[.int .i64 k', .int .i64 n', .string s']] w fun e w' => e = .returned (.bool true) ∧ Below w.heap.size w w' := by
  obtain ⟨r1, r2⟩ := i64_range wn
  obtain ⟨r1', r2'⟩ := i64_range wn'
  cases hok : okB k n s && okB k' n' s'
  · exact va_off k n k' n' s s' hok w
  · have hok' := hok
    rw [Bool.and_eq_true] at hok'
    have R := ok_right hok'.1
    have R' := ok_right hok'.2
    have k0 := R.k0
    have k4 := R.k4
    have k0' := R'.k0
    have k4' := R'.k4
    have hl := text_len k n s R.sz
    have hl' := text_len k' n' s' R'.sz
    have HS := fun w => text_any k n s k0 k4 r1 r2 w
    have HT := fun w => text_any k' n' s' k0' k4' r1' r2' w
    by_cases hk : k = 3
    · subst hk
      rw [show textE 3 = 0 from rfl] at HS
      by_cases hk' : k' = 4
      · subst hk'
        exact va_ref2 n n' s s' _ _ hok (fun w => add_ref 3 n 4 n' s s' (Or.inl rfl) (fun w => join_ref2 3 n n' s s' k0 k4 r1 r2 r1' r2' (by omega) w) w) HS HT w
      · rw [texts_ok hk'] at HT
        have HJ := fun w => join_ok 3 n k' n' s s' k0 k4 r1 r2 k0' k4' r1' r2' (by omega) hk' (by omega) w
        rw [cat_eq] at HJ
        have HD := fun w => add_text 3 n k' n' s s' _ (Or.inl rfl) HJ w
        by_cases h2 : k' = 2
        · subst h2
          exact va_text1 n 2 n' s s' _ _ hl hl' hok HD HS HT w
        · exact va_text1 n k' n' s s' _ _ hl hl' hok HD HS HT w
    · have e3 := bne_yes hk
      by_cases hk' : k' = 3
      · subst hk'
        rw [show textE 3 = 0 from rfl] at HT
        by_cases h4 : k = 4
        · subst h4
          exact va_ref1 n n' s s' _ _ hok (fun w => add_ref 4 n 3 n' s s' (Or.inr ⟨by omega, rfl⟩) (fun w => join_ref1 n 3 n' s s' r1 r2 w) w) HS HT w
        · rw [texts_ok h4] at HS
          have HJ := fun w => join_ok k n 3 n' s s' k0 k4 r1 r2 k0' k4' r1' r2' h4 (by omega) (by omega) w
          rw [cat_eq] at HJ
          by_cases h2 : k = 2
          · subst h2
            exact va_text2b n n' s s' _ _ hl hl' hok (fun w => add_text 2 n 3 n' s s' _ (Or.inr ⟨hk, rfl⟩) HJ w) HS HT w
          · exact va_text2 k n n' s s' _ _ hl hl' e3 (beq_no' h2) hok (fun w => add_text k n 3 n' s s' _ (Or.inr ⟨hk, rfl⟩) HJ w) HS HT w
      · have e3' := bne_yes hk'
        by_cases h2 : k = 2
        · subst h2
          by_cases h2' : k' = 2
          · subst h2'
            exact va_ints n n' s s' hok w
          · exact va_none2 n k' n' s s' _ _ _ _ (beq_no' h2') e3' hok (fun w => add_none 2 n k' n' s s' (by simp [two, h2']) (by omega) hk' w) HS HT w
        · exact va_none k n k' n' s s' _ _ _ _ (beq_no' h2) e3 e3' hok (fun w => add_none k n k' n' s s' (by simp [two, h2]) hk hk' w) HS HT w
end Go.Proofs.Ythmeehmobcaadaa.Va
