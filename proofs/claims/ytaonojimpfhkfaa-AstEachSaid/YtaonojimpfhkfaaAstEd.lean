/- What AstEach hands to Each. -/
import Derived.Test.YtaonojimpfhkfaaAstEc
namespace Go.Proofs.Ytaonojimpfhkfaa.As
open Go.RowKit Go.ChangeShapes Go.WideShapes Go.ChangeAt

theorem wrap_step (n : Nat) : wrap64 (wrap64 (n : Int) + 1) = wrap64 ((n + 1 : Nat) : Int) := by unfold wrap64; omega
/-- What the first has counted, and of each node when it was met. -/
def St1 (W0 : World) (B0 N gc gm bi : Nat) (vs : List Nat) (W : World) : Prop :=
  W.heap[gc]? = some (.cells #[.int .i64 (wrap64 (vs.length : Int))] 3 (0, 0)) ∧ W.heap[gm]? = some (.cells #[.slice (some ⟨bi, 0, none⟩) N N] 35 (0, 0)) ∧ (∃ Ms : List Int, Ms.length = N ∧ W.heap[bi]? = some (.cells ((Ms.map (Value.int .i64)).toArray) 3 (0, 0)) ∧ ∀ (j x : Nat), vs[j]? = some x → Ms[x]? = some (wrap64 ((j + 1 : Nat) : Int))) ∧ ∀ b, b < B0 → b ≠ gc → b ≠ bi → W.heap[b]? = W0.heap[b]?
/-- What the second has counted. -/
def St2 (W0 : World) (B0 gf gs : Nat) (stop : Int) (vs : List Nat) (W : World) : Prop :=
  W.heap[gf]? = some (.cells #[.int .i64 (wrap64 (vs.length : Int))] 3 (0, 0)) ∧ W.heap[gs]? = some (.cells #[.int .i64 stop] 3 (0, 0)) ∧ ∀ b, b < B0 → b ≠ gf → W.heap[b]? = W0.heap[b]?
set_option maxRecDepth 100000 in
theorem yld1 {W0 : World} {bt B0 N gc gm bi : Nat} (h1 : bt ≤ gc) (h2 : bt ≤ bi) (h3 : gc < B0) (h4 : bi < B0) (h5 : gm < B0) (hne : gc ≠ bi) : Yld bt B0 N 19 #[.pointer (some ⟨gc, 0, none⟩), .pointer (some ⟨gm, 0, none⟩)] (fun _ => true) (St1 W0 B0 N gc gm bi) := by
  refine ⟨fun args W => rfl, fun vs W W' h hb => ?_, fun vs W i h hB hi hiv => ?_⟩
  · obtain ⟨a1, a2, ⟨Ms, a3, a4, a5⟩, a6⟩ := h
    exact ⟨(hb.block _ h3).trans a1, (hb.block _ h5).trans a2, ⟨Ms, a3, (hb.block _ h4).trans a4, a5⟩, fun b hb1 hb2 hb3 => (hb.block _ hb1).trans (a6 b hb1 hb2 hb3)⟩
  · obtain ⟨a1, a2, ⟨Ms, a3, a4, a5⟩, a6⟩ := h
    have x1 := cell_of_one a1
    have x2 := cell_of_one a2
    have x3 : W.frozen? ⟨gc, 0, none⟩ = false := blk_free a1
    have x4 : ∀ v, (W.setCell ⟨gc, 0, none⟩ v).frozen? ⟨bi, i, none⟩ = false := fun v => blk_free (blk_far a4 (p := ⟨gc, 0, none⟩) (Ne.symm hne) v)
    obtain ⟨y, hy⟩ := get_some (show i < Ms.length by omega)
    have x5 : W.cell? ⟨bi, i, none⟩ = some (.int .i64 y) := by rw [cell_of_row _ _ _ _ _ _ a4]; simp [hy]
    have hne2 : ¬ gm = gc := fun e => by subst e; rw [a1] at a2; simp at a2
    have hiN : (i : Int) < (N : Int) := by omega
    have hw := wrap_step vs.length
    have HA1 := Lib.hid a1
    have HA2 := Lib.hid a2
    have HA3 := Lib.hid a3
    have HA4 := Lib.hid a4
    have HA5 := Lib.hid a5
    have HA6 := Lib.hid a6
    clear a1 a2 a3 a4 a5 a6 hy
    show Calls _ _ #[.int .i64 (i : Int), .pointer (some ⟨gc, 0, none⟩), .pointer (some ⟨gm, 0, none⟩)] _ _
    go_enter Try.func19, Try.ntmps19
    go_wp2_with fail
    go_ret
    have hv : wrap64 ((vs.length : Int) + 1) = wrap64 (((vs ++ [i]).length : Nat) : Int) := by rw [List.length_append, List.length_singleton]; rfl
    rw [hv]
    generalize hV : wrap64 (((vs ++ [i]).length : Nat) : Int) = V
    have hgm : gm ≠ bi := blk_ne HA2.out HA4.out (by decide)
    have s1 := heap_setCell_same W gc 0 _ _ (.int .i64 V) HA1.out
    have s4 := blk_far HA4.out (p := ⟨gc, 0, none⟩) (Ne.symm hne) (.int .i64 V)
    refine ⟨rfl, ⟨?_, ?_, ⟨Ms.set i V, by rw [List.length_set]; exact HA3.out, ?_, fun j x hj => ?_⟩, fun b hb1 hb2 hb3 => ?_⟩, ?_, ?_, fun b hb1 hb2 => ?_⟩
    · rw [hV]; exact blk_far s1 (p := ⟨bi, i, none⟩) hne _
    · exact blk_far (blk_far HA2.out (p := ⟨gc, 0, none⟩) hne2 _) (p := ⟨bi, i, none⟩) hgm _
    · rw [heap_setCell_same _ bi i _ _ _ s4]
      simp [List.map_set]
    · by_cases hjl : j < vs.length
      · rw [List.getElem?_append_left hjl] at hj
        have hxi : i ≠ x := fun e => hiv (e ▸ List.mem_of_getElem? hj)
        rw [List.getElem?_set_ne hxi]
        exact HA5.out j x hj
      · have hj2 := get_lt hj
        rw [List.length_append, List.length_singleton] at hj2
        obtain rfl : j = vs.length := by omega
        rw [List.getElem?_append_right (Nat.le_refl _), Nat.sub_self, List.getElem?_cons_zero, Option.some.injEq] at hj
        subst hj
        rw [List.getElem?_set_self (by have := HA3.out; omega), ← hV, List.length_append, List.length_singleton]
    · rw [Below.heap_setCell _ ⟨bi, i, none⟩ _ b hb3, Below.heap_setCell _ ⟨gc, 0, none⟩ _ b hb2]
      exact HA6.out b hb1 hb2 hb3
    · exact ((Below.refl _ _).setCell (p := ⟨gc, 0, none⟩) h1 _).setCell (p := ⟨bi, i, none⟩) h2 _
    · simp
    · rw [Below.heap_setCell _ ⟨bi, i, none⟩ _ b (by show b ≠ bi; omega), Below.heap_setCell _ ⟨gc, 0, none⟩ _ b (by show b ≠ gc; omega)]
set_option maxRecDepth 100000 in
theorem yld2 {W0 : World} {bt B0 N gf gs : Nat} {stop : Int} (h1 : bt ≤ gf) (h3 : gf < B0) (h4 : gs < B0) (hne : gs ≠ gf) : Yld bt B0 N 20 #[.pointer (some ⟨gf, 0, none⟩), .pointer (some ⟨gs, 0, none⟩)] (fun n => decide (wrap64 (n : Int) < stop)) (St2 W0 B0 gf gs stop) := by
  refine ⟨fun args W => rfl, fun vs W W' h hb => ?_, fun vs W i h hB hi hiv => ?_⟩
  · obtain ⟨a1, a2, a6⟩ := h
    exact ⟨(hb.block _ h3).trans a1, (hb.block _ h4).trans a2, fun b hb1 hb2 => (hb.block _ hb1).trans (a6 b hb1 hb2)⟩
  · obtain ⟨a1, a2, a6⟩ := h
    have x1 := cell_of_one a1
    have x2 := cell_of_one a2
    have x3 : W.frozen? ⟨gf, 0, none⟩ = false := blk_free a1
    have HA1 := Lib.hid a1
    have HA2 := Lib.hid a2
    have HA6 := Lib.hid a6
    have hgs : ¬ gs = gf := hne
    have hgs2 : ¬ gf = gs := fun e => hne e.symm
    have hw : wrap64 (wrap64 (vs.length : Int) + 1) = wrap64 ((vs.length : Int) + 1) := wrap_step vs.length
    clear a1 a2 a6
    show Calls _ _ #[.int .i64 (i : Int), .pointer (some ⟨gf, 0, none⟩), .pointer (some ⟨gs, 0, none⟩)] _ _
    go_enter Try.func20, Try.ntmps20
    go_wp2_with fail
    go_ret
    have hv : wrap64 ((vs.length : Int) + 1) = wrap64 (((vs ++ [i]).length : Nat) : Int) := by rw [List.length_append, List.length_singleton]; rfl
    refine ⟨rfl, ⟨?_, ?_, fun b hb1 hb2 => ?_⟩, ?_, ?_, fun b hb1 hb2 => ?_⟩
    · rw [← hv]; exact heap_setCell_same W gf 0 _ _ _ HA1.out
    · exact blk_far HA2.out (p := ⟨gf, 0, none⟩) hne _
    · rw [Below.heap_setCell _ ⟨gf, 0, none⟩ _ b hb2]
      exact HA6.out b hb1 hb2
    · exact (Below.refl _ _).setCell (p := ⟨gf, 0, none⟩) h1 _
    · simp
    · rw [Below.heap_setCell _ ⟨gf, 0, none⟩ _ b (by show b ≠ gf; omega)]
set_option maxRecDepth 100000 in
theorem each_none {A : Option Addr} {cap N : Nat} {w : World} : Calls Try.prog 17 #[.agg #[.slice A N cap], .int .i64 (-1), .nilFunc] w fun e w' => e = .returned (.bool true) ∧ Below w.heap.size w w' := by
  have HB := Lib.hid (bel1 w (.cells #[.slice A N cap] 24))
  go_enter Try.func17, Try.ntmps17
  go_wp2_with fail
  go_ret
  exact ⟨rfl, HB.out⟩
/-- How many are met. -/
theorem takeE_all_true : ∀ (l : List Nat) (c : Nat), takeE (fun _ => true) c l = (l, true)
  | [], c => rfl
  | x :: l, c => by rw [takeE, if_pos rfl, takeE_all_true l]
theorem takeE_len (stop : Int) : ∀ (l : List Nat) (c x : Nat), c + (x :: l).length ≤ 1000000 →
    (takeE (fun n => decide (wrap64 (n : Int) < stop)) c (x :: l)).2 = decide (((c + l.length + 1 : Nat) : Int) < stop) ∧ ((takeE (fun n => decide (wrap64 (n : Int) < stop)) c (x :: l)).1.length : Int) = if ((c + 1 : Nat) : Int) < stop then min (stop - c) (l.length + 1) else 1
  | [], c, x, h => by
    have hw : wrap64 ((c + 1 : Nat) : Int) = ((c + 1 : Nat) : Int) := by unfold wrap64; simp at h; omega
    rw [takeE, hw]
    by_cases hs : ((c + 1 : Nat) : Int) < stop
    · rw [if_pos (decide_eq_true hs), if_pos hs]
      simp only [takeE, List.length_cons, List.length_nil]
      exact ⟨(decide_eq_true (by omega)).symm, by omega⟩
    · rw [if_neg (by simpa using hs), if_neg hs]
      simp only [List.length_cons, List.length_nil]
      exact ⟨(decide_eq_false (by omega)).symm, by omega⟩
  | y :: l, c, x, h => by
    have hw : wrap64 ((c + 1 : Nat) : Int) = ((c + 1 : Nat) : Int) := by unfold wrap64; simp at h; omega
    have ih := takeE_len stop l (c + 1) y (by simp at h ⊢; omega)
    rw [takeE, hw]
    by_cases hs : ((c + 1 : Nat) : Int) < stop
    · rw [if_pos (decide_eq_true hs), if_pos hs]
      simp only [List.length_cons]
      refine ⟨by rw [ih.1, show c + 1 + l.length + 1 = c + (l.length + 1) + 1 by omega], ?_⟩
      have h2 := ih.2
      by_cases hs2 : ((c + 1 + 1 : Nat) : Int) < stop
      · rw [if_pos hs2] at h2; omega
      · rw [if_neg hs2] at h2; omega
    · rw [if_neg (by simpa using hs), if_neg hs]
      simp only [List.length_cons, List.length_nil]
      exact ⟨(decide_eq_false (by omega)).symm, by omega⟩
end Go.Proofs.Ytaonojimpfhkfaa.As
