/- The statements' model of a table: without. -/
import Derived.Test.YtipdjjgpcmbpdaaTab23
set_option linter.unusedVariables false
namespace Go.Proofs.Ytipdjjgpcmbpdaa.Ta
open Go.RowKit Go.ChangeShapes Go.WideShapes Go.ChangeAt Go.Proofs.Ytipdjjgpcmbpdaa.Va

set_option maxRecDepth 100000 in
set_option maxHeartbeats 4000000 in
theorem without_any {B cap g i n : Nat} {w : World} {L : List (Vl × Vl)} (hn : L.length = n) (hl : n ≤ 10000) (h : OwnM B (some ⟨g, 0, none⟩) cap w L) (hi : i < n) :
    Calls Try.prog 53 #[.slice (some ⟨g, 0, none⟩) n cap, .int .i64 (i : Int)] w fun e w' => ∃ ad' cap', e = .returned (.slice ad' (n - 1) cap') ∧ OwnM w.heap.size ad' cap' w' (L.eraseIdx i) ∧ Below w.heap.size w w' := by
  have hc : n ≤ cap := by
    rcases ownM_shape h with ⟨e, _⟩ | ⟨_, _, _, h2⟩
    · cases e
    · omega
  obtain ⟨ad1, cap1, w4, ad2, cap2, w5, hr1, hr2, hb5, ho⟩ := chain_wo (o := if cap = i + 1 then 0 else (i + 1) * 6) (c1 := cap) (c2 := if cap = i + 1 then 0 else cap - (i + 1)) h hn hi hl (by split <;> omega)
  have HB := Lib.hid hb5
  have HO := Lib.hid ho
  have k1 : (i : Int) ≤ (cap : Int) := by omega
  have k2 : (i : Int) + 1 ≤ (n : Int) := by omega
  have k3 : (n : Int) ≤ (cap : Int) := by omega
  have k4 : i ≤ cap := by omega
  have k5 : i + 1 ≤ n := by omega
  have hr1' : (Builtin.append_ #[28, 28] 28 #[.slice (some ⟨w.heap.size, 0, none⟩) 0 0, .slice (some ⟨g, 0, none⟩) i cap]).run Try.prog (w.alloc (.cells #[] 43)).drew = .ok (.slice ad1 i cap1) w4 := hr1
  clear hr1 h ho hb5 hn
  have k7 : IntKind.i64.wrap ((i : Int) + 1) = (i : Int) + 1 := by rw [IntKind.wrap_i64]; omega
  have k8 : (0 : Int) ≤ (i : Int) + 1 := by omega
  have k9 : (i : Int) + 1 ≤ (cap : Int) := by omega
  have k0 : (0 : Int) ≤ (i : Int) := by omega
  have k6 : (i : Int) ≤ (i : Int) + 1 := by omega
  by_cases hcc : cap = i + 1
  all_goals
    first | (simp only [if_pos hcc] at hr2; subst hcc; rw [show n - (i + 1) = 0 by omega] at hr2) | simp only [if_neg hcc] at hr2
    go_enter Try.func53, Try.ntmps53
    go_wp2_with fail
    go_region_held3 (fun _ => True) (exact trivial) (first | (refine Li.step_append_run rfl (.tmp 5) (.tmp 8) 28 rfl _ _ rfl rfl hr1' ?_) | (refine Li.step_append_run rfl (.tmp 9) (.tmp 13) 28 rfl _ _ rfl rfl hr2 ?_))
    all_goals go_wp2_with fail
    all_goals go_ret
    all_goals exact ⟨ad2, cap2, rfl, HO.out, HB.out⟩
end Go.Proofs.Ytipdjjgpcmbpdaa.Ta
