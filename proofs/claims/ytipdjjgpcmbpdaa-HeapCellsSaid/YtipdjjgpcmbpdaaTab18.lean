/- Contract of table.Vals. -/
import Derived.Test.YtipdjjgpcmbpdaaTab17
import Derived.Maps.AppendAt
set_option linter.unusedVariables false
namespace Go.Proofs.Ytipdjjgpcmbpdaa.Ta
open Go.RowKit Go.Shelf Go.ChangeShapes Go.WideShapes Go.ChangeAt Go.Proofs.Ytipdjjgpcmbpdaa.Va
attribute [local go_sem] Oper.semAt_some

set_option maxRecDepth 100000 in
set_option maxHeartbeats 4000000 in
theorem vals_tab {B b cr cp m : Nat} {ar ap : Option Addr} {R : List Rw} {P : List Int} {last : Int} (w : World) (hT : Tab B b ar cr ap cp w R P m last) (hE : (ents R).length ≤ 1048576) :
    Calls Try.prog 55 #[.pointer (some ⟨b, 0, none⟩)] w fun e W' => ∃ ad cap, e = .returned (.slice ad (ents R).length cap) ∧ Li.Own w.heap.size ad cap W' ((ents R).map (·.2.1)) ∧ Below w.heap.size w W' := by
  obtain ⟨i0, hi, hz0, hz1, hz2⟩ := info_parts Li.A.infoE
  have hml : m ≤ 1048576 := by have := hT.cnt; omega
  have mkV : ∀ W, (Instr.makeSlice 74 (.int .i64 0) (.int .i64 (m : Int))).run Try.prog W = .ok (.slice (some ⟨W.heap.size, 0, none⟩) 0 m) (W.alloc (.cells (madeCells (Value.agg #[.int .i64 0, .int .i64 0, .string ⟨#[]⟩]).cells (m * 3)) 30)) := fun W => by
    have := run_makeSlice (P := Try.prog) W 74 30 i0 _ Try.underlying74 hi hz0 .i64 .i64 0 (m : Int) (by omega) (by omega) (by rw [hz1]; simp; omega) (by rw [hz2]; omega) (by omega)
    rw [hz1] at this
    exact this
  have hmz : (madeCells (Value.agg #[.int .i64 0, .int .i64 0, .string ⟨#[]⟩]).cells (m * 3)).size = m * 3 := by simp [madeCells]
  generalize madeCells (Value.agg #[.int .i64 0, .int .i64 0, .string ⟨#[]⟩]).cells (m * 3) = AR at *
  have hrow0 := World.ownsRow_made (base := w.heap.size) (e := 30) (size := 3) w AR m (Nat.le_refl _) (by unfold maxLen; omega) hmz
  obtain ⟨c0, c1, c2, c3, _, _, _, _⟩ := four_cells hT.blk
  refine (callsIn_wide (n := 3)).1 ?_
  refine callsIn_of_wp_marks Try.func55 rfl trivial ?_ rfl
  simp only [Try.ntmps55, List.size_toArray, List.length_cons, List.length_nil, Nat.reduceAdd, Nat.reduceSub, Array.replicate_succ, Array.replicate_zero, List.push_toArray, List.append_toArray, List.nil_append, List.cons_append]
  gi_wp2_with (refine ⟨trivial, ?_⟩; gi_at_call 60; refine (each_in 2 _ _).mono ?_; rintro e w' ⟨rfl, rfl⟩)
  have hB1 : Below w.heap.size w (w.alloc (.cells AR 30)) := (Below.refl _ w).alloc (Nat.le_refl _) _
  have bO := Boxed.new (w.alloc (.cells AR 30)) 74 (.slice (some ⟨w.heap.size, 0, none⟩) 0 m)
  have hB2 := hB1.alloc (by simp) (.cells #[.slice (some ⟨w.heap.size, 0, none⟩) 0 m] 74)
  have hrow1 := hrow0.alloc (.cells #[.slice (some ⟨w.heap.size, 0, none⟩) 0 m] 74)
  have bT := Boxed.new ((w.alloc (.cells AR 30)).alloc (.cells #[.slice (some ⟨w.heap.size, 0, none⟩) 0 m] 74)) 25 (.pointer (some ⟨b, 0, none⟩))
  have hB3 := hB2.alloc (by simp; omega) (.cells #[.pointer (some ⟨b, 0, none⟩)] 25)
  have hrow2 := hrow1.alloc (.cells #[.pointer (some ⟨b, 0, none⟩)] 25)
  have bO2 := bO.alloc (.cells #[.pointer (some ⟨b, 0, none⟩)] 25)
  simp only [World.size_alloc] at bO bT bO2
  have hsz : (((w.alloc (.cells AR 30)).alloc (.cells #[.slice (some ⟨w.heap.size, 0, none⟩) 0 m] 74)).alloc (.cells #[.pointer (some ⟨b, 0, none⟩)] 25)).heap.size = w.heap.size + 3 := by simp
  obtain ⟨W0, hW0⟩ : ∃ W0, ((w.alloc (.cells AR 30)).alloc (.cells #[.slice (some ⟨w.heap.size, 0, none⟩) 0 m] 74)).alloc (.cells #[.pointer (some ⟨b, 0, none⟩)] 25) = W0 := ⟨_, rfl⟩
  rw [hW0] at bO2 bT hB3 hrow2 hsz ⊢
  clear hW0 bO hB1 hB2 hrow0 hrow1 mkV
  have hlow : ∀ g, ar.map (·.block) = some g → g < w.heap.size := fun g hg => by obtain ⟨_, cur, hc⟩ := row_block hT.r g hg; exact lt_of_block hc
  refine wpIn_rangeFunc_ownH rfl (by decide) (gf := 78) (lb := #[.pointer (some ⟨w.heap.size + 1 + 1, 0, none⟩)]) rfl trivial (enters_of Try.func78 (by kernel_rfl) rfl)
    (each_stops 2 (by decide) (w.heap.size + 1 + 1) w.heap.size B b cr cp m ar ap R P last W0 (by omega) (by omega) bT.cell (tab_below hT hB3) hlow) belowK_t (belowK_b (by omega)) (Below.refl _ _) (fun _ => rfl)
    (fun pre W => (∃ v, Boxed W (w.heap.size + 1) 74 v ∧ W.ownsRow w.heap.size 30 3 v pre.length (Li.flat (pre.map (·.2))) ∧ True) ∧ Below w.heap.size w W)
    (fun _ _ _ => False)
    (OwnFrom.and (Own.from (holdsRow_own w.heap.size (w.heap.size + 1) 74 30 3 (fun pre : List (Vl × Vl) => pre.length) (fun pre => Li.flat (pre.map (·.2))) (fun _ _ => True)) _) (ownFrom_below (Nat.le_refl _) (by omega)))
    (fun _ _ _ _ _ hs _ _ => hs)
    ⟨⟨_, bO2, hrow2, trivial⟩, hB3⟩
    (fun x a' W => ∃ Bx, w.heap.size + 1 < Bx ∧ W.heap[Bx]? = some (.cells #[.int .i64 x.2.1, .int .i64 x.2.2.1, .string x.2.2.2] 30 (0, 0)) ∧ a' = { tmps := #[.pointer (some ⟨b, 0, none⟩), undef, .slice none 0 0, .pointer (some ⟨w.heap.size + 1, 0, none⟩), undef, .pointer (some ⟨Bx, 0, none⟩), .pointer (some ⟨b, 0, none⟩), .pointer (some ⟨b, 0, none⟩), .pointer (some ⟨b, 2, none⟩), .int .i64 m, .slice (some ⟨w.heap.size, 0, none⟩) 0 m, .pointer (some ⟨b, 0, none⟩), .func (.func 78) #[] #[.pointer (some ⟨w.heap.size + 1 + 1, 0, none⟩)], ag x.1, ag x.2, undef, undef, undef, undef, undef], defers := [] })
    (fun x a' s X Y row hs hg hr => by obtain ⟨Bx, h1, h2, h3⟩ := hs; exact ⟨Bx, h1, box3_own W0.heap.size Bx _ _ s X Y row h2 hg hr, h3⟩)
    ?assign ?body ?done ?stop
  case assign =>
    rintro l pre x W K ⟨⟨v, hv, hr, _⟩, hB⟩ hK
    simp only [ag]
    gi_wp2
    exact hK _ _ ((KeepsOthers.alloc _ _).from _) ((Below.refl _ W).alloc hB.size _) ⟨⟨v, hv.alloc _, hr.alloc _, trivial⟩, hB.alloc hB.size _⟩ ⟨W.heap.size, hv.lt, World.alloc_heap_new W _, rfl⟩
  case body =>
    rintro l pre x a' W hl ⟨rc, hrc⟩ ⟨⟨v, hv, hrow, _⟩, hB⟩ ⟨Bx, hBx, hbx, rfl⟩ hlt
    have hcv := hv.cell
    obtain ⟨d0, d1, d2⟩ : W.cell? ⟨Bx, 0, none⟩ = some (.int .i64 x.2.1) ∧ W.cell? ⟨Bx, 1, none⟩ = some (.int .i64 x.2.2.1) ∧ W.cell? ⟨Bx, 2, none⟩ = some (.string x.2.2.2) := ⟨by simp [World.cell?, hbx], by simp [World.cell?, hbx], by simp [World.cell?, hbx]⟩
    have hnews : ∀ (j : Nat) (u : Value), [Value.int .i64 x.2.1, Value.int .i64 x.2.2.1, Value.string x.2.2.2][j]? = some u → (W.alloc (.cells #[.int .i64 x.2.1, .int .i64 x.2.2.1, .string x.2.2.2] 30)).cell? ((⟨W.heap.size, 0, none⟩ : Addr).add j) = some u := fun j u hj => by
      rw [Go.WideShapes.add_plain, Nat.zero_add, cell_of_row _ _ _ _ _ _ (heap_alloc_new W _)]
      simpa using hj
    gi_wp2_with (gi_at_builtin; refine wpListIn_append_own _ rfl _ _ 74 rfl w.heap.size 30 i0 (.agg #[.int .i64 0, .int .i64 0, .string ⟨#[]⟩]) 3 32 Try.underlying74 hi hz0 hz1 hz2 rfl (by decide) _ _ _ rfl (hrow.alloc _) ⟨W.heap.size, 0, none⟩ 1 1 [.int .i64 x.2.1, .int .i64 x.2.2.1, .string x.2.2.2] rfl rfl hnews (by simp [Value.oneCell']) (by unfold maxLen; omega) (by omega) (by have := hB.size; simp; omega) ?_; intro v' w1 hown' hgrow _; obtain ⟨g', cap', rfl⟩ := ownsRow_succ hown'; obtain ⟨hv1, hv2, hr2, hk2, hb2⟩ := hv.appended (by decide) hrow hB.size (by omega) hown' hgrow; have hc1 := hv1.cell; have hf1 := hv1.frozen)
    refine ⟨hk2.from _, hb2, ⟨⟨_, hv2, ?_, trivial⟩, hB.trans hb2⟩⟩
    rw [List.map_append, List.length_append]
    show World.ownsRow _ _ _ _ _ (_ + 1) (Li.flat (_ ++ [x.2]))
    rw [flat_snoc]
    exact hr2
  case done =>
    rintro D ys W hD rfl ⟨⟨v, hv, hrow, _⟩, hB⟩ hK
    have hcv := hv.cell
    gi_wp2
    obtain ⟨ad, cap, rfl⟩ := Li.own_shape hrow
    refine ⟨by simp, .inl ⟨_, _, rfl, run_takeDeferred hK, ?_⟩⟩
    refine ⟨_, results_tmp rfl _ _ _, ad, cap, ?_, ?_, hB.trans (belowK_b (w := w) (Nat.le_refl _) W D _ _ (by omega) hK rfl rfl)⟩
    · show Ending.returned (.slice ad _ cap) = _
      rw [List.length_map]
    · have h := ownsRow_putObj hrow (.deferred none) hK rfl
      have e1 : ((ents R).map (fun e => (e.1, e.2.1))).map (·.2) = (ents R).map (·.2.1) := by rw [List.map_map]; rfl
      rw [e1] at h
      unfold Li.Own
      rw [List.length_map] at h ⊢
      exact h
  case stop =>
    rintro D c pre W _ _ h _
    exact h.elim
end Go.Proofs.Ytipdjjgpcmbpdaa.Ta
