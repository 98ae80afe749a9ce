/- The reference's Text at operators; AstKinds. -/
import Derived.Test.YtaonojimpfhkfaaAstQ
namespace Go.Proofs.Ytaonojimpfhkfaa.As
open Go.RowKit Go.ChangeShapes Go.WideShapes Go.ChangeAt

def unB : List ByteArray := [⟨#[45]⟩, ⟨#[33]⟩, ⟨#[126]⟩, ⟨#[116, 121, 112, 101, 111, 102]⟩, ⟨#[99, 108, 111, 110, 101]⟩, ⟨#[114, 101, 115, 117, 109, 101]⟩, ⟨#[100, 101, 108, 101, 116, 101]⟩]
theorem unB_in (s : ByteArray) : isIn s unB = uns.contains s.toList := by
  unfold isIn
  rw [show unB.map (·.toList) = uns by kernel_rfl]
set_option maxRecDepth 100000 in
set_option maxHeartbeats 4000000 in
theorem text_un (s : ByteArray) (w : World) : Calls Try.prog 29 #[.agg #[.int .i64 9, .int .i64 0, .string s, .int .i64 0, .slice none 0 0]] w fun e w' => e = .returned (.bool (uns.contains s.toList)) ∧ Below w.heap.size w w' := by
  have hc := one_ref (w := (w.alloc (.cells #[.int .i64 9, .int .i64 0, .string s, .int .i64 0, .slice none 0 0] 37)).alloc (.cells #[.string ⟨#[45]⟩, .string ⟨#[33]⟩, .string ⟨#[126]⟩, .string ⟨#[116, 121, 112, 101, 111, 102]⟩, .string ⟨#[99, 108, 111, 110, 101]⟩, .string ⟨#[114, 101, 115, 117, 109, 101]⟩, .string ⟨#[100, 101, 108, 101, 116, 101]⟩] 9)) (A := some ⟨w.heap.size + 1, 0, none⟩) (c := 7) (L := unB) s (rowS_new (new2 w _ _)) (by unfold unB; simp)
  rw [unB_in] at hc
  have HC : Hid (Calls Try.prog 41 #[.string s, .slice (some ⟨w.heap.size + 1, 0, none⟩) 7 7] ((w.alloc (.cells #[.int .i64 9, .int .i64 0, .string s, .int .i64 0, .slice none 0 0] 37)).alloc (.cells #[.string ⟨#[45]⟩, .string ⟨#[33]⟩, .string ⟨#[126]⟩, .string ⟨#[116, 121, 112, 101, 111, 102]⟩, .string ⟨#[99, 108, 111, 110, 101]⟩, .string ⟨#[114, 101, 115, 117, 109, 101]⟩, .string ⟨#[100, 101, 108, 101, 116, 101]⟩] 9)) fun e w' => e = .returned (.bool (uns.contains s.toList)) ∧ ((w.alloc (.cells #[.int .i64 9, .int .i64 0, .string s, .int .i64 0, .slice none 0 0] 37)).alloc (.cells #[.string ⟨#[45]⟩, .string ⟨#[33]⟩, .string ⟨#[126]⟩, .string ⟨#[116, 121, 112, 101, 111, 102]⟩, .string ⟨#[99, 108, 111, 110, 101]⟩, .string ⟨#[114, 101, 115, 117, 109, 101]⟩, .string ⟨#[100, 101, 108, 101, 116, 101]⟩] 9)) = w') := hc
  have HB := Lib.hid (bel2 w (.cells #[.int .i64 9, .int .i64 0, .string s, .int .i64 0, .slice none 0 0] 37) (.cells #[.string ⟨#[45]⟩, .string ⟨#[33]⟩, .string ⟨#[126]⟩, .string ⟨#[116, 121, 112, 101, 111, 102]⟩, .string ⟨#[99, 108, 111, 110, 101]⟩, .string ⟨#[114, 101, 115, 117, 109, 101]⟩, .string ⟨#[100, 101, 108, 101, 116, 101]⟩] 9))
  clear hc
  generalize uns.contains s.toList = b at *
  go_enter Try.func29, Try.ntmps29
  go_wp2_with fail
  refine HC.out.mono ?_
  rintro e w' ⟨rfl, rfl⟩
  go_wp2_with fail
  go_ret
  exact ⟨rfl, HB.out⟩
def asB : List ByteArray := [⟨#[61]⟩, ⟨#[60, 45]⟩, ⟨#[43, 61]⟩, ⟨#[45, 61]⟩, ⟨#[42, 61]⟩, ⟨#[47, 61]⟩, ⟨#[37, 61]⟩]
theorem asB_in (s : ByteArray) : isIn s asB = asg.contains s.toList := by
  unfold isIn
  rw [show asB.map (·.toList) = asg by kernel_rfl]
set_option maxRecDepth 100000 in
set_option maxHeartbeats 4000000 in
theorem text_as (s : ByteArray) (w : World) : Calls Try.prog 29 #[.agg #[.int .i64 12, .int .i64 0, .string s, .int .i64 0, .slice none 0 0]] w fun e w' => e = .returned (.bool (asg.contains s.toList)) ∧ Below w.heap.size w w' := by
  have hc := one_ref (w := (w.alloc (.cells #[.int .i64 12, .int .i64 0, .string s, .int .i64 0, .slice none 0 0] 37)).alloc (.cells #[.string ⟨#[61]⟩, .string ⟨#[60, 45]⟩, .string ⟨#[43, 61]⟩, .string ⟨#[45, 61]⟩, .string ⟨#[42, 61]⟩, .string ⟨#[47, 61]⟩, .string ⟨#[37, 61]⟩] 9)) (A := some ⟨w.heap.size + 1, 0, none⟩) (c := 7) (L := asB) s (rowS_new (new2 w _ _)) (by unfold asB; simp)
  rw [asB_in] at hc
  have HC : Hid (Calls Try.prog 41 #[.string s, .slice (some ⟨w.heap.size + 1, 0, none⟩) 7 7] ((w.alloc (.cells #[.int .i64 12, .int .i64 0, .string s, .int .i64 0, .slice none 0 0] 37)).alloc (.cells #[.string ⟨#[61]⟩, .string ⟨#[60, 45]⟩, .string ⟨#[43, 61]⟩, .string ⟨#[45, 61]⟩, .string ⟨#[42, 61]⟩, .string ⟨#[47, 61]⟩, .string ⟨#[37, 61]⟩] 9)) fun e w' => e = .returned (.bool (asg.contains s.toList)) ∧ ((w.alloc (.cells #[.int .i64 12, .int .i64 0, .string s, .int .i64 0, .slice none 0 0] 37)).alloc (.cells #[.string ⟨#[61]⟩, .string ⟨#[60, 45]⟩, .string ⟨#[43, 61]⟩, .string ⟨#[45, 61]⟩, .string ⟨#[42, 61]⟩, .string ⟨#[47, 61]⟩, .string ⟨#[37, 61]⟩] 9)) = w') := hc
  have HB := Lib.hid (bel2 w (.cells #[.int .i64 12, .int .i64 0, .string s, .int .i64 0, .slice none 0 0] 37) (.cells #[.string ⟨#[61]⟩, .string ⟨#[60, 45]⟩, .string ⟨#[43, 61]⟩, .string ⟨#[45, 61]⟩, .string ⟨#[42, 61]⟩, .string ⟨#[47, 61]⟩, .string ⟨#[37, 61]⟩] 9))
  clear hc
  generalize asg.contains s.toList = b at *
  go_enter Try.func29, Try.ntmps29
  go_wp2_with fail
  refine HC.out.mono ?_
  rintro e w' ⟨rfl, rfl⟩
  go_wp2_with fail
  go_ret
  exact ⟨rfl, HB.out⟩
def spB : List ByteArray := [⟨#[43, 43]⟩, ⟨#[45, 45]⟩]
theorem spB_in (s : ByteArray) : isIn s spB = stp.contains s.toList := by
  unfold isIn
  rw [show spB.map (·.toList) = stp by kernel_rfl]
set_option maxRecDepth 100000 in
set_option maxHeartbeats 4000000 in
theorem text_st (s : ByteArray) (w : World) : Calls Try.prog 29 #[.agg #[.int .i64 13, .int .i64 0, .string s, .int .i64 0, .slice none 0 0]] w fun e w' => e = .returned (.bool (stp.contains s.toList)) ∧ Below w.heap.size w w' := by
  have hc := one_ref (w := (w.alloc (.cells #[.int .i64 13, .int .i64 0, .string s, .int .i64 0, .slice none 0 0] 37)).alloc (.cells #[.string ⟨#[43, 43]⟩, .string ⟨#[45, 45]⟩] 9)) (A := some ⟨w.heap.size + 1, 0, none⟩) (c := 2) (L := spB) s (rowS_new (new2 w _ _)) (by unfold spB; simp)
  rw [spB_in] at hc
  have HC : Hid (Calls Try.prog 41 #[.string s, .slice (some ⟨w.heap.size + 1, 0, none⟩) 2 2] ((w.alloc (.cells #[.int .i64 13, .int .i64 0, .string s, .int .i64 0, .slice none 0 0] 37)).alloc (.cells #[.string ⟨#[43, 43]⟩, .string ⟨#[45, 45]⟩] 9)) fun e w' => e = .returned (.bool (stp.contains s.toList)) ∧ ((w.alloc (.cells #[.int .i64 13, .int .i64 0, .string s, .int .i64 0, .slice none 0 0] 37)).alloc (.cells #[.string ⟨#[43, 43]⟩, .string ⟨#[45, 45]⟩] 9)) = w') := hc
  have HB := Lib.hid (bel2 w (.cells #[.int .i64 13, .int .i64 0, .string s, .int .i64 0, .slice none 0 0] 37) (.cells #[.string ⟨#[43, 43]⟩, .string ⟨#[45, 45]⟩] 9))
  clear hc
  generalize stp.contains s.toList = b at *
  cases b
  all_goals
    go_enter Try.func29, Try.ntmps29
    go_wp2_with fail
    refine HC.out.mono ?_
    rintro e w' ⟨rfl, rfl⟩
    go_wp2_with fail
    go_ret
    exact ⟨rfl, HB.out⟩
theorem pure_below {P : Program} {f : FuncId} {a : Array Value} {w : World} {v : Value} (h : Calls P f a w fun e w' => e = .returned v ∧ w = w') : Calls P f a w fun e w' => e = .returned v ∧ Below w.heap.size w w' :=
  h.mono fun _ _ ⟨h1, h2⟩ => ⟨h1, by rw [← h2]; exact Below.refl _ _⟩
set_option maxRecDepth 100000 in
set_option maxHeartbeats 8000000 in
theorem astKinds_walk (k : Int) (s : ByteArray) (w : World) (m : Int) (hm : w.cell? ⟨0, 0, none⟩ = some (.int .i64 m)) :
    Calls Try.prog 7 #[.int .i64 k, .string s] w fun e w' => e = .returned (.bool true) ∧ Below w.heap.size w w' := by
  have HBL := Lib.hid (builds_any w m hm)
  clear hm
  by_cases hs : s.size ≤ 50
  · have hs1 : ¬ (50 : Int) < (s.size : Int) := by omega
    have HE1 := Lib.hid fun w => expr_any k w
    have HE2 := Lib.hid fun w => is_E k w
    have HS1 := Lib.hid fun w => stmt_any k w
    have HS2 := Lib.hid fun w => is_S k w
    have HT1 := Lib.hid fun w => target_any k w
    have HT2 := Lib.hid fun w => is_T k w
    have HL1 := Lib.hid fun w => literal_any k w
    have HL2 := Lib.hid fun w => is_L k w
    have HV1 := Lib.hid fun w => level_any s w
    have HV2 := Lib.hid fun w => level_ref s w
    have HU1 := Lib.hid fun w => unary_any s w
    have HU2 := Lib.hid fun w => text_un s w
    have HA1 := Lib.hid fun w => assign_any s w
    have HA2 := Lib.hid fun w => text_as s w
    have HP1 := Lib.hid fun w => step_any s w
    have HP2 := Lib.hid fun w => text_st s w
    generalize isE k = b1 at *
    generalize isS k = b2 at *
    generalize isT k = b3 at *
    generalize isL k = b4 at *
    generalize lev s.toList = v at *
    generalize uns.contains s.toList = b5 at *
    generalize asg.contains s.toList = b6 at *
    generalize stp.contains s.toList = b7 at *
    have e1 : ∀ b : Bool, (b != b) = false := fun b => by cases b <;> rfl
    have e2 : ∀ b : Bool, (b == b) = true := fun b => by cases b <;> rfl
    have e3 : (v == v) = true := by simp
    clear hs
    go_enter Try.func7, Try.ntmps7
    go_wp2_with fail
    refine HBL.out.mono ?_
    rintro e w1 ⟨rfl, hb⟩
    have HZ1 := Lib.hid hb
    clear hb
    go_wp2_with fail
    refine (HE1.out _).mono ?_
    rintro e w' ⟨rfl, rfl⟩
    go_wp2_with fail
    refine (HE2.out _).mono ?_
    rintro e w' ⟨rfl, rfl⟩
    go_wp2_with fail
    refine (HS1.out _).mono ?_
    rintro e w' ⟨rfl, rfl⟩
    go_wp2_with fail
    refine (HS2.out _).mono ?_
    rintro e w' ⟨rfl, rfl⟩
    go_wp2_with fail
    refine (HT1.out _).mono ?_
    rintro e w' ⟨rfl, rfl⟩
    go_wp2_with fail
    refine (HT2.out _).mono ?_
    rintro e w' ⟨rfl, rfl⟩
    go_wp2_with fail
    refine (HL1.out _).mono ?_
    rintro e w' ⟨rfl, rfl⟩
    go_wp2_with fail
    refine (HL2.out _).mono ?_
    rintro e w' ⟨rfl, rfl⟩
    go_wp2_with fail
    obtain ⟨x0, x1, x2, hz⟩ := alloc3_new w1 (.cells #[.int .i64 9, .int .i64 0, .string s, .int .i64 0, .slice none 0 0] 37) (.cells #[.int .i64 12, .int .i64 0, .string s, .int .i64 0, .slice none 0 0] 37) (.cells #[.int .i64 13, .int .i64 0, .string s, .int .i64 0, .slice none 0 0] 37)
    have HX0 := Lib.hid x0
    have HX1 := Lib.hid x1
    have HX2 := Lib.hid x2
    have HZ := Lib.hid (HZ1.out.trans (hz.mono HZ1.out.size))
    clear x0 x1 x2 hz HE1 HE2 HS1 HS2 HT1 HT2 HL1 HL2
    generalize ((w1.alloc (.cells #[.int .i64 9, .int .i64 0, .string s, .int .i64 0, .slice none 0 0] 37)).alloc (.cells #[.int .i64 12, .int .i64 0, .string s, .int .i64 0, .slice none 0 0] 37)).alloc (.cells #[.int .i64 13, .int .i64 0, .string s, .int .i64 0, .slice none 0 0] 37) = W0 at *
    have q0 : ∀ p : BelowBy W0.heap.size W0, p.x.cell? ⟨w1.heap.size, 0, none⟩ = some (.int .i64 9) ∧ p.x.cell? ⟨w1.heap.size, 1, none⟩ = some (.int .i64 0) ∧ p.x.cell? ⟨w1.heap.size, 2, none⟩ = some (.string s) ∧ p.x.cell? ⟨w1.heap.size, 3, none⟩ = some (.int .i64 0) ∧ p.x.cell? ⟨w1.heap.size, 4, none⟩ = some (.slice none 0 0) := fun p => (five_facts ((p.h.block _ (lt_of_block HX0.out)).trans HX0.out)).1
    have q00 := fun p => (q0 p).1
    have q01 := fun p => (q0 p).2.1
    have q02 := fun p => (q0 p).2.2.1
    have q03 := fun p => (q0 p).2.2.2.1
    have q04 := fun p => (q0 p).2.2.2.2
    clear q0
    have q1 : ∀ p : BelowBy W0.heap.size W0, p.x.cell? ⟨w1.heap.size + 1, 0, none⟩ = some (.int .i64 12) ∧ p.x.cell? ⟨w1.heap.size + 1, 1, none⟩ = some (.int .i64 0) ∧ p.x.cell? ⟨w1.heap.size + 1, 2, none⟩ = some (.string s) ∧ p.x.cell? ⟨w1.heap.size + 1, 3, none⟩ = some (.int .i64 0) ∧ p.x.cell? ⟨w1.heap.size + 1, 4, none⟩ = some (.slice none 0 0) := fun p => (five_facts ((p.h.block _ (lt_of_block HX1.out)).trans HX1.out)).1
    have q10 := fun p => (q1 p).1
    have q11 := fun p => (q1 p).2.1
    have q12 := fun p => (q1 p).2.2.1
    have q13 := fun p => (q1 p).2.2.2.1
    have q14 := fun p => (q1 p).2.2.2.2
    clear q1
    have q2 : ∀ p : BelowBy W0.heap.size W0, p.x.cell? ⟨w1.heap.size + 1 + 1, 0, none⟩ = some (.int .i64 13) ∧ p.x.cell? ⟨w1.heap.size + 1 + 1, 1, none⟩ = some (.int .i64 0) ∧ p.x.cell? ⟨w1.heap.size + 1 + 1, 2, none⟩ = some (.string s) ∧ p.x.cell? ⟨w1.heap.size + 1 + 1, 3, none⟩ = some (.int .i64 0) ∧ p.x.cell? ⟨w1.heap.size + 1 + 1, 4, none⟩ = some (.slice none 0 0) := fun p => (five_facts ((p.h.block _ (lt_of_block HX2.out)).trans HX2.out)).1
    have q20 := fun p => (q2 p).1
    have q21 := fun p => (q2 p).2.1
    have q22 := fun p => (q2 p).2.2.1
    have q23 := fun p => (q2 p).2.2.2.1
    have q24 := fun p => (q2 p).2.2.2.2
    clear q2
    refine wp_region_quiet_below (by kernel_rfl) (by kernel_rfl) ?_
    repeat (quiet_step (first
      | (go_at_call 26; with_reducible refine Calls.below_of (pure_below (HV1.out _)))
      | (go_at_call 27; with_reducible refine Calls.below_of (HV2.out _))
      | (go_at_call 28; with_reducible refine Calls.below_of (pure_below (HU1.out _)))
      | (go_at_call 30; with_reducible refine Calls.below_of (pure_below (HA1.out _)))
      | (go_at_call 31; with_reducible refine Calls.below_of (pure_below (HP1.out _)))
      | (go_at_call 29; with_reducible refine Calls.below_of (HU2.out _))
      | (go_at_call 29; with_reducible refine Calls.below_of (HA2.out _))
      | (go_at_call 29; with_reducible refine Calls.below_of (HP2.out _))))
    refine wpQuiet_nil ?_
    intro _ hw'
    obtain ⟨pq, hw''⟩ := hw'
    subst hw''
    go_wp2_with fail
    go_ret
    exact ⟨rfl, HZ.out.trans (pq.h.mono HZ.out.size)⟩
  · have hs1 : (50 : Int) < (s.size : Int) := by omega
    clear hs
    go_enter Try.func7, Try.ntmps7
    go_wp2_with fail
    refine HBL.out.mono ?_
    rintro e w1 ⟨rfl, hb⟩
    have HZ1 := Lib.hid hb
    clear hb
    go_wp2_with fail
    go_ret
    exact ⟨rfl, HZ1.out⟩
end Go.Proofs.Ytaonojimpfhkfaa.As
