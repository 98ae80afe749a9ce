/- Contract of table.widen. -/
import Derived.Test.YtipdjjgpcmbpdaaTab7
import Derived.Laws.MakeOwn
set_option linter.unusedVariables false
namespace Go.Proofs.Ytipdjjgpcmbpdaa.Ta
open Go.RowKit Go.ChangeShapes Go.WideShapes Go.ChangeAt Go.Proofs.Ytipdjjgpcmbpdaa.Va

theorem live_step {R : List Rw} {k : Nat} {r : Rw} (h : R[k]? = some r) : (R.take (k + 1)).filter live = (R.take k).filter live ++ (if live r then [r] else []) := by
  obtain ⟨hk, e⟩ := List.getElem?_eq_some_iff.1 h
  rw [List.take_succ_eq_append_getElem hk, List.filter_append, e]
  congr 1
  by_cases hl : live r = true <;> simp [hl]
theorem live_ents (R : List Rw) : ents (R.filter live) = ents R := by unfold ents; rw [List.filter_filter]; simp
theorem live_len (R : List Rw) : (R.filter live).length = (ents R).length := by unfold ents; rw [List.length_map]
theorem live_mem {R : List Rw} {k i : Nat} {q : Rw} (h : ((R.take k).filter live)[i]? = some q) : ∃ j, j < k ∧ R[j]? = some q ∧ q.k ≠ nul := by
  have hm := List.mem_of_getElem? h
  rw [List.mem_filter] at hm
  obtain ⟨hm, hl⟩ := hm
  obtain ⟨j, hj, e⟩ := List.getElem_of_mem hm
  rw [List.length_take] at hj
  refine ⟨j, by omega, ?_, by simpa [live] using hl⟩
  rw [List.getElem_take] at e
  rw [List.getElem?_eq_getElem (by omega), e]
theorem live_room {R : List Rw} {k : Nat} {r : Rw} (h : R[k]? = some r) (hl : r.k ≠ nul) : ((R.take k).filter live).length + 1 ≤ (ents R).length := by
  have h1 : R.filter live = (R.take k).filter live ++ (r :: (R.drop (k + 1)).filter live) := by
    conv => lhs; rw [split_at h]
    rw [List.filter_append, List.filter_cons, if_pos (by simp [live, hl])]
  rw [← live_len, h1, List.length_append, List.length_cons]; omega
theorem zeros_cells (m : Nat) : (madeCells (Value.int .i32 0).cells (m * 1)).toList = (List.replicate m (0 : Int)).map cip := by
  show (madeCells #[.int .i32 0] (m * 1)).toList = _
  rw [Nat.mul_one, toList_madeCells_one, List.map_replicate]; rfl
/-- What has turned since a table was taken apart. -/
structure UpW (b : Nat) (w w' : World) : Prop where
  os : w'.os = w.os
  tape : w'.tape = w.tape
  output : w'.output = w.output
  size : w.heap.size ≤ w'.heap.size
  block : ∀ (k : Nat), k < w.heap.size → k ≠ b → w'.heap[k]? = w.heap[k]?
theorem upW_t {b : Nat} {ar ap : Option Addr} {w w' : World} (h : UpW b w w') : UpT b ar ap w w' := ⟨h.os, h.tape, h.output, h.size, fun k hk n1 _ _ => h.block k hk n1⟩
theorem upW_step {b : Nat} {ar ap : Option Addr} {w W w' : World} (h : UpW b w W) (hu : UpT b ar ap W w') (h1 : ∀ g, ar.map (·.block) = some g → w.heap.size ≤ g) (h2 : ∀ g, ap.map (·.block) = some g → w.heap.size ≤ g) : UpW b w w' :=
  ⟨hu.os.trans h.os, hu.tape.trans h.tape, hu.output.trans h.output, Nat.le_trans h.size hu.size, fun k hk n1 => (hu.block k (Nat.lt_of_lt_of_le hk h.size) n1 (fun e => by have := h1 k e; omega) (fun e => by have := h2 k e; omega)).trans (h.block k hk n1)⟩
theorem upW_below {b : Nat} {w W w' : World} (h : UpW b w W) (hb : Below W.heap.size W w') : UpW b w w' := upW_step (ar := none) (ap := none) h (upT_below hb) (fun g e => by cases e) (fun g e => by cases e)
theorem upW_set {b o : Nat} {w W : World} (h : UpW b w W) (v : Value) : UpW b w (W.setCell ⟨b, o, none⟩ v) :=
  ⟨h.os, h.tape, h.output, by simpa [World.setCell] using h.size, fun k hk n1 => (set_heap n1).trans (h.block k hk n1)⟩
theorem upW_drew {b : Nat} {w W : World} (h : UpW b w W) : UpW b w W.drew := ⟨h.os, h.tape, h.output, h.size, h.block⟩
/-- The table as it is taken apart. -/
def Fresh (B b gr gp n m : Nat) (last : Int) (w W : World) : Prop := Tab B b (some ⟨gr, 0, none⟩) (n + 1) (some ⟨gp, 0, none⟩) m W [] (List.replicate m 0) 0 last ∧ UpW b w W
theorem made_tab {B b gr gp n m e : Nat} {last : Int} {w W : World} (hW : W.heap[b]? = some (.cells #[.slice (some ⟨gr, 0, none⟩) 0 (n + 1), .slice (some ⟨gp, 0, none⟩) m m, .int .i64 0, .int .i64 last] 103 (0, 0))) (hlow : B ≤ b) (hr : W.heap[gr]? = some (.cells (madeCells (Value.agg #[.int .i64 0, .int .i64 0, .string ⟨#[]⟩, .int .i64 0, .int .i64 0, .string ⟨#[]⟩, .int .i64 0, .int .i64 0]).cells ((n + 1) * 8)) 109 (0, 0)))
    (hp : W.heap[gp]? = some (.cells (madeCells (Value.int .i32 0).cells (m * 1)) 21 (0, 0))) (hgr : w.heap.size ≤ gr) (hgp : w.heap.size ≤ gp) (hB : B ≤ w.heap.size) (hm : m = 2 ^ (e + 1)) (he : e ≤ 24) (hn : n + 1 ≤ maxLen) (hmm : m ≤ maxLen) (hl : 0 ≤ last ∧ last < 4611686018427387904) (hu : UpW b w W) : Fresh B b gr gp n m last w W.drew := by
  refine ⟨⟨by rw [drew_heap, List.length_replicate]; exact hW, hlow, ?_, ?_, by rw [hm]; exact good_empty e he last, rfl, fun i r h => by simp at h, hl⟩, upW_drew hu⟩
  · exact ⟨rfl, .inr ⟨gr, n + 1, _, rfl, by omega, hr, Nat.zero_le _, hn, size_madeCells _ _, by simp [flatR]⟩⟩
  · refine ⟨by simp, .inr ⟨gp, m, _, by rw [List.length_replicate], by omega, hp, by rw [List.length_replicate]; exact Nat.le_refl _, hmm, size_madeCells _ _, ?_⟩⟩
    rw [zeros_cells, List.length_replicate, List.take_of_length_le (by simp)]
/-- What widen leaves. -/
def Wide (B b : Nat) (w : World) (R : List Rw) (P : List Int) (n : Nat) (last : Int) (x : Ending) (w' : World) : Prop :=
  x = .returned (.tuple #[]) ∧ ∃ ar cr ap cp R' P', Tab B b ar cr ap cp w' R' P' n last ∧ ents R' = ents R ∧ 4 * (R'.length + 1) ≤ 3 * P'.length ∧ (P'.length = P.length ∨ P'.length ≤ 4 * (n + 1)) ∧ St B w w'
theorem pow_bound {e n : Nat} (h : e = 0 ∨ 2 ^ e < 2 * (n + 1)) (hn : n ≤ 1048576) : 2 ^ (e + 1) ≤ 4 * (n + 1) ∧ e ≤ 24 := by
  have h1 : 2 ^ (e + 1) ≤ 4 * (n + 1) := by
    rcases h with rfl | h
    · simp; omega
    · rw [Nat.pow_succ]; omega
  refine ⟨h1, ?_⟩
  rcases Nat.lt_or_ge 24 e with h2 | h2
  · have h3 : 2 ^ 25 ≤ 2 ^ e := Nat.pow_le_pow_right (by decide) h2
    have h4 : (2 : Nat) ^ 25 = 33554432 := by decide
    rw [Nat.pow_succ] at h1
    omega
  · exact h2
set_option maxRecDepth 100000 in
set_option maxHeartbeats 4000000 in
theorem widen_any {B b cr cp n : Nat} {ar ap : Option Addr} {R : List Rw} {P : List Int} {last : Int} (hn : n ≤ 1048576) (w : World) (hB : B ≤ w.heap.size) (h : Tab B b ar cr ap cp w R P n last) :
    Calls Try.prog 62 #[.pointer (some ⟨b, 0, none⟩)] w (Wide B b w R P n last) := by
  have hpl := plen h.g
  have hlr := hpl.2
  have hlp := hpl.1
  obtain ⟨c0, c1, c2, c3, z0, z1, z2, z3⟩ := four_cells h.blk
  have HT := Lib.hid h
  by_cases hroom : 4 * (R.length + 1) ≤ 3 * P.length
  · have hroom' : (4 : Int) * ((R.length : Int) + 1) ≤ 3 * (P.length : Int) := by omega
    have HE : Hid (∀ k, Wide B b w R P n last (.returned (.tuple #[])) (w.drewN k)) := fun k => ⟨rfl, ar, cr, ap, cp, R, P, tab_below h (below_drewN (Below.refl _ _) _), rfl, hroom, Or.inl rfl, st_below (below_drewN (Below.refl _ _) _) hB⟩
    clear h hroom hpl
    go_enter Try.func62, Try.ntmps62
    go_wp2_with fail
    go_quiet (fail)
    go_wp2_with fail
    refine bodyPost_ret (v := .tuple #[]) (Li.results_none rfl _ _) rfl ?_
    exact HE.out _
  · have hroom' : ¬ (4 : Int) * ((R.length : Int) + 1) ≤ 3 * (P.length : Int) := by omega
    clear h hroom hpl
    go_enter Try.func62, Try.ntmps62
    go_wp2_with fail
    go_quiet (fail)
    go_wp2_with fail
    have HB2 : Hid (Below w.heap.size w (w.drewN nq)) := below_drewN (Below.refl _ _) _
    generalize w.drewN nq = w2 at *
    have hT2 := tab_below HT.out HB2.out
    clear c0 c1 c2 c3 z0 z1 z2 z3
    obtain ⟨c0, c1, c2, c3, z0, z1, z2, z3⟩ := four_cells hT2.blk
    have HT2 := Lib.hid hT2
    clear hT2
    go_loop [3] (fun s => ∃ e : Nat, (e = 0 ∨ 2 ^ e < 2 * (n + 1)) ∧ s = .int .i64 ((2 ^ (e + 1) : Nat) : Int)) (fun s => 33554432 - (intOf s).toNat)
    case atStart => exact ⟨0, Or.inl rfl, rfl⟩
    case round =>
      obtain ⟨e, he, rfl⟩ := hrel
      obtain ⟨hp1, hp2⟩ := pow_bound he hn
      obtain ⟨m, hm⟩ : ∃ m, m = 2 ^ (e + 1) := ⟨_, rfl⟩
      have HM := Lib.hid hm
      have hm0 : 0 < m := by rw [hm]; exact Nat.pow_pos (by decide)
      rw [← hm] at hp1 ⊢
      by_cases hlt : m < 2 * (n + 1)
      · have hlt' : (m : Int) < 2 * ((n : Int) + 1) := by omega
        have hm2 : Hid (((m : Int) * 2) = ((2 ^ (e + 1 + 1) : Nat) : Int)) := by
          show _ = _
          rw [Nat.pow_succ, ← hm]; omega
        clear hm
        go_wp2_with fail
        go_round
        case rel => exact ⟨e + 1, Or.inr (by rw [← HM.out]; exact hlt), congrArg (Value.int .i64) hm2.out⟩
        case measure => simp [intOf]; omega
      · have hlt' : ¬ (m : Int) < 2 * ((n : Int) + 1) := by omega
        have hme : 2 * (n + 1) ≤ m := by omega
        clear hm
        go_wp2_with fail
        obtain ⟨ir, hir, hr0, hr1, hr2⟩ := info_parts A.infoR
        obtain ⟨ip, hip, hp0, hp1', hp2'⟩ := info_parts A.infoP
        have mkR : ∀ W, (Instr.makeSlice 100 (.int .i64 0) (.int .i64 ((n : Int) + 1))).run Try.prog W = .ok (.slice (some ⟨W.heap.size, 0, none⟩) 0 (n + 1)) (W.alloc (.cells (madeCells (Value.agg #[.int .i64 0, .int .i64 0, .string ⟨#[]⟩, .int .i64 0, .int .i64 0, .string ⟨#[]⟩, .int .i64 0, .int .i64 0]).cells ((n + 1) * 8)) 109)) := fun W => by
          have := run_makeSlice (P := Try.prog) W 100 109 ir _ Try.underlying100 hir hr0 .i64 .i64 0 ((n + 1 : Nat) : Int) (by omega) (by omega) (by rw [hr1]; simp; omega) (by rw [hr2]; omega) (by omega)
          rw [hr1] at this
          exact this
        have mkP : ∀ W, (Instr.makeSlice 101 (.int .i64 (m : Int)) (.int .i64 (m : Int))).run Try.prog W = .ok (.slice (some ⟨W.heap.size, 0, none⟩) m m) (W.alloc (.cells (madeCells (Value.int .i32 0).cells (m * 1)) 21)) := fun W => by
          have := run_makeSlice (P := Try.prog) W 101 21 ip _ Try.underlying101 hip hp0 .i64 .i64 (m : Int) (m : Int) (by omega) (by omega) (by rw [hp1']; simp; omega) (by rw [hp2']; omega) (by omega)
          rw [hp1'] at this
          exact this
        generalize hAR : madeCells (Value.agg #[.int .i64 0, .int .i64 0, .string ⟨#[]⟩, .int .i64 0, .int .i64 0, .string ⟨#[]⟩, .int .i64 0, .int .i64 0]).cells ((n + 1) * 8) = AR at mkR
        generalize hAP : madeCells (Value.int .i32 0).cells (m * 1) = AP at mkP
        have hEA1 : Below w2.heap.size w2 (w2.alloc (.cells AR 109)) := (Below.refl _ _).alloc (Nat.le_refl _) _
        have hEB1 : Below w2.heap.size w2 (w2.alloc (.cells AP 21)) := (Below.refl _ _).alloc (Nat.le_refl _) _
        have hEA := hEA1.alloc hEA1.size (.cells AP 21)
        have hEB := hEB1.alloc hEB1.size (.cells AR 109)
        have hbk := HT2.out.blk
        have zA : (w2.alloc (.cells AR 109)).heap.size = w2.heap.size + 1 := by simp
        have zB : (w2.alloc (.cells AP 21)).heap.size = w2.heap.size + 1 := by simp
        have hAr := (heap_alloc_old (w2.alloc (.cells AR 109)) (.cells AP 21) (by omega)).trans (heap_alloc_new w2 (.cells AR 109))
        have hAp := heap_alloc_new (w2.alloc (.cells AR 109)) (.cells AP 21)
        have hBp := (heap_alloc_old (w2.alloc (.cells AP 21)) (.cells AR 109) (by omega)).trans (heap_alloc_new w2 (.cells AP 21))
        have hBr := heap_alloc_new (w2.alloc (.cells AP 21)) (.cells AR 109)
        rw [zA] at hAp
        rw [zB] at hBr
        have hws := HB2.out.size
        have hu0 : UpW b w w2 := ⟨HB2.out.os, HB2.out.tape, HB2.out.output, hws, fun k hk _ => HB2.out.block k hk⟩
        have hbw2 := lt_of_block hbk
        have hb6 := keep hbk hEA
        have hb7 := keep hbk hEB
        have hb3' := heap_setCell_same _ _ 0 _ _ (.slice (some ⟨w2.heap.size, 0, none⟩) 0 (n + 1)) (keep hbk hEA1)
        have hb8 := (heap_alloc_old _ (.cells AP 21) (lt_of_block hb3')).trans hb3'
        have zC : ((w2.alloc (.cells AR 109)).setCell ⟨b, 0, none⟩ (.slice (some ⟨w2.heap.size, 0, none⟩) 0 (n + 1))).heap.size = w2.heap.size + 1 := by rw [← zA]; simp [World.setCell]
        have hCp := heap_alloc_new ((w2.alloc (.cells AR 109)).setCell ⟨b, 0, none⟩ (.slice (some ⟨w2.heap.size, 0, none⟩) 0 (n + 1))) (.cells AP 21)
        rw [zC] at hCp
        have hCr0 : ((w2.alloc (.cells AR 109)).setCell ⟨b, 0, none⟩ (.slice (some ⟨w2.heap.size, 0, none⟩) 0 (n + 1))).heap[w2.heap.size]? = _ := (set_heap (by omega)).trans (heap_alloc_new w2 (.cells AR 109))
        have hCr := (heap_alloc_old ((w2.alloc (.cells AR 109)).setCell ⟨b, 0, none⟩ (.slice (some ⟨w2.heap.size, 0, none⟩) 0 (n + 1))) (.cells AP 21) (lt_of_block hCr0)).trans hCr0
        have nb1 : w2.heap.size ≠ b := by omega
        have nb2 : w2.heap.size + 1 ≠ b := by omega
        have TA := made_tab (n := n) (m := m) (e := e) (last := last) (w := w) (heap_setCell_same _ _ 2 _ _ (.int .i64 0) (heap_setCell_same _ _ 1 _ _ (.slice (some ⟨w2.heap.size + 1, 0, none⟩) m m) (heap_setCell_same _ _ 0 _ _ (.slice (some ⟨w2.heap.size, 0, none⟩) 0 (n + 1)) hb6))) HT.out.low (by rw [hAR, set_heap nb1, set_heap nb1, set_heap nb1]; exact hAr) (by rw [hAP, set_heap nb2, set_heap nb2, set_heap nb2]; exact hAp) hws (by omega) hB HM.out hp2 (by unfold maxLen; omega) (by unfold maxLen; omega) HT.out.bd (upW_set (upW_set (upW_set (upW_below hu0 hEA) _) _) _)
        have TB := made_tab (n := n) (m := m) (e := e) (last := last) (w := w) (heap_setCell_same _ _ 2 _ _ (.int .i64 0) (heap_setCell_same _ _ 1 _ _ (.slice (some ⟨w2.heap.size, 0, none⟩) m m) (heap_setCell_same _ _ 0 _ _ (.slice (some ⟨w2.heap.size + 1, 0, none⟩) 0 (n + 1)) hb7))) HT.out.low (by rw [hAR, set_heap nb2, set_heap nb2, set_heap nb2]; exact hBr) (by rw [hAP, set_heap nb1, set_heap nb1, set_heap nb1]; exact hBp) (by omega) hws hB HM.out hp2 (by unfold maxLen; omega) (by unfold maxLen; omega) HT.out.bd (upW_set (upW_set (upW_set (upW_below hu0 hEB) _) _) _)
        have TC := made_tab (n := n) (m := m) (e := e) (last := last) (w := w) (heap_setCell_same _ _ 2 _ _ (.int .i64 0) (heap_setCell_same _ _ 1 _ _ (.slice (some ⟨w2.heap.size + 1, 0, none⟩) m m) hb8)) HT.out.low (by rw [hAR, set_heap nb1, set_heap nb1]; exact hCr) (by rw [hAP, set_heap nb2, set_heap nb2]; exact hCp) hws (by omega) hB HM.out hp2 (by unfold maxLen; omega) (by unfold maxLen; omega) HT.out.bd (upW_set (upW_set (upW_below (upW_set (upW_below hu0 hEA1) _) ((Below.refl _ _).alloc (Nat.le_refl _) _)) _) _)
        have HTA := Lib.hid TA
        have HTB := Lib.hid TB
        have HTC := Lib.hid TC
        have hd1 : w2.drew.heap[b]? = _ := hbk
        have hd2 : (w2.alloc (.cells AR 109)).drew.heap[b]? = _ := keep hbk hEA1.drew
        have hd3 : (w2.alloc (.cells AP 21)).drew.heap[b]? = _ := keep hbk hEB1.drew
        have hd4 : ((w2.alloc (.cells AR 109)).alloc (.cells AP 21)).drew.heap[b]? = _ := keep hbk hEA.drew
        have hd5 : ((w2.alloc (.cells AP 21)).alloc (.cells AR 109)).drew.heap[b]? = _ := keep hbk hEB.drew
        have hd6 := keep hbk hEA
        have hd7 := keep hbk hEB
        have hC0 : ((w2.alloc (.cells AR 109)).setCell ⟨b, 0, none⟩ (.slice (some ⟨w2.heap.size, 0, none⟩) 0 (n + 1))).heap[b]? = _ := heap_setCell_same _ _ _ _ _ _ (keep hbk hEA1)
        have hC1 := (heap_alloc_old ((w2.alloc (.cells AR 109)).setCell ⟨b, 0, none⟩ (.slice (some ⟨w2.heap.size, 0, none⟩) 0 (n + 1))) (.cells AP 21) (lt_of_block hC0)).trans hC0
        obtain ⟨d80, d81, d82, d83, dz80, dz81, dz82, dz83⟩ := four_cells hC0
        obtain ⟨d90, d91, d92, d93, dz90, dz91, dz92, dz93⟩ := four_cells hC1
        have hC1d : (((w2.alloc (.cells AR 109)).setCell ⟨b, 0, none⟩ (.slice (some ⟨w2.heap.size, 0, none⟩) 0 (n + 1))).alloc (.cells AP 21)).drew.heap[b]? = _ := hC1
        obtain ⟨da0, da1, da2, da3, dza0, dza1, dza2, dza3⟩ := four_cells hC1d
        obtain ⟨d60, d61, d62, d63, dz60, dz61, dz62, dz63⟩ := four_cells hd6
        obtain ⟨d70, d71, d72, d73, dz70, dz71, dz72, dz73⟩ := four_cells hd7
        obtain ⟨d10, d11, d12, d13, dz10, dz11, dz12, dz13⟩ := four_cells hd1
        obtain ⟨d20, d21, d22, d23, dz20, dz21, dz22, dz23⟩ := four_cells hd2
        obtain ⟨d30, d31, d32, d33, dz30, dz31, dz32, dz33⟩ := four_cells hd3
        obtain ⟨d40, d41, d42, d43, dz40, dz41, dz42, dz43⟩ := four_cells hd4
        obtain ⟨d50, d51, d52, d53, dz50, dz51, dz52, dz53⟩ := four_cells hd5
        clear hd1 hd2 hd3 hd4 hd5 hd6 hd7 hC0 hC1 hC1d hb6 hb7 hb3' hb8 zC hCp hCr hCr0 nb1 nb2 hbw2 zA zB TA TB TC hAr hAp hBr hBp hEA hEB hEA1 hEB1 hAR hAP hbk hu0 hr0 hr1 hr2 hp0 hp1' hp2' hir hip
        have hold := HT.out.r
        have HOLD := Lib.hid (fun (W : World) (hu : UpW b w W) => (row_move hold fun g e => hu.block g (lt_of_block (row_block hold g e).2.choose_spec) (by
          rintro rfl
          obtain ⟨_, cur', hc⟩ := row_block hold _ e
          have hbk := HT.out.blk
          rw [hbk] at hc; simp only [Option.some.injEq, Obj.cells.injEq] at hc; exact absurd hc.2.1 (by decide)) : OwnR B ar cr W R))
        clear hold
        go_region
        all_goals clear d10 d11 d12 d13 dz10 dz11 dz12 dz13 d20 d21 d22 d23 dz20 dz21 dz22 dz23 d30 d31 d32 d33 dz30 dz31 dz32 dz33 d40 d41 d42 d43 dz40 dz41 dz42 dz43 d50 d51 d52 d53 dz50 dz51 dz52 dz53 d60 d61 d62 d63 dz60 dz61 dz62 dz63 d70 d71 d72 d73 dz70 dz71 dz72 dz73 d80 d81 d82 d83 dz80 dz81 dz82 dz83 d90 d91 d92 d93 dz90 dz91 dz92 dz93 da0 da1 da2 da3 dza0 dza1 dza2 dza3 mkR mkP c0 c1 c2 c3 z0 z1 z2 z3
        all_goals go_wp2_with fail
        all_goals
          go_loopw [53] (fun s wr => ∃ (k : Nat) (ar' : Option Addr) (cr' gp : Nat) (P' : List Int), k ≤ R.length ∧ s = .int .i64 (k : Int) ∧ P'.length = m ∧ Hid (Tab B b ar' cr' (some ⟨gp, 0, none⟩) m wr ((R.take k).filter live) P' ((R.take k).filter live).length last) ∧ Hid (UpW b w wr) ∧ Hid (∀ g, ar'.map (·.block) = some g → w.heap.size ≤ g) ∧ w.heap.size ≤ gp) (fun s _ => R.length - (intOf s).toNat)
          case atStart =>
            first
            | exact ⟨0, _, _, _, _, Nat.zero_le _, rfl, List.length_replicate, HTA.out.1, HTA.out.2, (fun g e => by simp at e; omega), by omega⟩
            | exact ⟨0, _, _, _, _, Nat.zero_le _, rfl, List.length_replicate, HTB.out.1, HTB.out.2, (fun g e => by simp at e; omega), by omega⟩
            | exact ⟨0, _, _, _, _, Nat.zero_le _, rfl, List.length_replicate, HTC.out.1, HTC.out.2, (fun g e => by simp at e; omega), by omega⟩
          case round =>
            clear HTA HTB HTC
            obtain ⟨k, ar', cr', gp, P', hk, rfl, hPm, HTr, HUr, HAr, hgp⟩ := hrel
            by_cases hlt : k < R.length
            · obtain ⟨r, hr⟩ := get_some hlt
              have hold := HOLD.out wr HUr.out
              obtain ⟨g0, hg0, _, hgl⟩ := row_some hold (by omega)
              subst hg0
              obtain ⟨r0, r1, r2, r3, r4, r5, r6, r7⟩ := ownR_at hold hr
              have hE1 : Below wr.heap.size wr (wr.alloc (rowObj r)) := (Below.refl _ _).alloc (Nat.le_refl _) _
              have hA1 := heap_alloc_new wr (rowObj r)
              unfold rowObj at hE1 hA1
              have hlt' : (k : Int) < (R.length : Int) := by omega
              have hk0 : (0 : Int) ≤ (k : Int) := by omega
              have HN := Lib.hid fun w => none_any r.k w
              have HST := Lib.hid (live_step hr)
              have HE1 := Lib.hid hE1
              have HA1 := Lib.hid hA1
              by_cases hl : r.k = nul
              · rw [decide_eq_true hl] at HN
                have HS2 : Hid ((R.take (k + 1)).filter live = (R.take k).filter live) := by show _ = _; rw [HST.out, if_neg (by simp [live, hl]), List.append_nil]
                clear hold hE1 hA1 hl hr
                go_wp2_with fail
                refine (HN.out _).mono ?_
                rintro e w1 ⟨rfl, hb1⟩
                have hz := HE1.out.trans (hb1.mono HE1.out.size)
                have HT1 := Lib.hid (tab_below HTr.out hz)
                have HU1 := Lib.hid (upW_below HUr.out hz)
                clear hb1 hz
                go_wp2_with fail
                go_roundw
                case rel => exact ⟨k + 1, ar', cr', gp, P', by omega, by go_num, hPm, by rw [HS2.out]; exact HT1, HU1, HAr, hgp⟩
                case measure => simp [intOf]; omega
              · rw [decide_eq_false hl] at HN
                have HS2 : Hid ((R.take (k + 1)).filter live = (R.take k).filter live ++ [r]) := by show _ = _; rw [HST.out, if_pos (by simp [live, hl])]
                have hroom2 := live_room hr hl
                have hcnt := HT.out.cnt
                have HADD : Hid (∀ W, Tab B b ar' cr' (some ⟨gp, 0, none⟩) m W ((R.take k).filter live) P' ((R.take k).filter live).length last → B ≤ W.heap.size → Calls Try.prog 63 #[.pointer (some ⟨b, 0, none⟩), .agg #[.int .i64 r.k.1, .int .i64 r.k.2.1, .string r.k.2.2, .int .i64 r.v.1, .int .i64 r.v.2.1, .string r.v.2.2, .int .i64 r.c, .int .i64 r.s]] W (Added B b ar' (some ⟨gp, 0, none⟩) m W ((R.take k).filter live) P' ((R.take k).filter live).length last r)) := fun W hW hBW =>
                  add_any r hl (HT.out.ok k r hr) (fun i q hi e => by
                    obtain ⟨j, hj, hq, hqn⟩ := live_mem hi
                    have := HT.out.g.uniq j k q r hq hr hqn e
                    omega) (fun i q hi => by
                    obtain ⟨j, hj, hq, hqn⟩ := live_mem hi
                    exact HT.out.g.rise j k q r hq hr hj) (HT.out.g.cur k r hr).1 (HT.out.g.cur k r hr).2 (by rw [hPm]; omega) W hBW hW
                clear hold hE1 hA1 hl hr hroom2 hcnt
                go_wp2_with fail
                refine (HN.out _).mono ?_
                rintro e w1 ⟨rfl, hb1⟩
                have hz := HE1.out.trans (hb1.mono HE1.out.size)
                have hA2 := keep HA1.out hb1
                obtain ⟨a0, a1, a2, a3, a4, a5, a6, a7⟩ := eight_facts hA2
                have hT1 := tab_below HTr.out hz
                have hU1 := upW_below HUr.out hz
                have HCA := Lib.hid (HADD.out w1 hT1 (by have := hU1.size; omega))
                have HU1 := Lib.hid hU1
                clear hb1 hz hA2 hT1 hU1
                go_wp2_with fail
                refine HCA.out.mono ?_
                intro e w3 hh
                obtain ⟨he, ar3, cr3, P3, hT3, hP3, hU3, hf3⟩ := hh
                subst he
                have HT3 : Hid (Tab B b ar3 cr3 (some ⟨gp, 0, none⟩) m w3 ((R.take (k + 1)).filter live) P3 ((R.take (k + 1)).filter live).length last) := by
                  show Tab _ _ _ _ _ _ _ _ _ _ _
                  rw [HS2.out, List.length_append]; exact hT3
                have HU3 := Lib.hid (upW_step HU1.out hU3 HAr.out (fun g e => by simp at e; omega))
                have HA3 : Hid (∀ g, ar3.map (·.block) = some g → w.heap.size ≤ g) := fun g e => by
                  rcases hf3 g e with h1 | h1
                  · exact HAr.out g h1
                  · have := HU1.out.size; omega
                have hP3m : P3.length = m := hP3.trans hPm
                clear hT3 hU3 hf3 hP3 HCA
                go_wp2_with fail
                go_roundw
                case rel => exact ⟨k + 1, ar3, cr3, gp, P3, by omega, by go_num, hP3m, HT3, HU3, HA3, hgp⟩
                case measure => simp [intOf]; omega
            · obtain rfl : k = R.length := by omega
              have HE : Hid (Wide B b w R P n last (.returned (.tuple #[])) wr) := by
                have hT := HTr.out
                rw [List.take_length, live_len, ← HT.out.cnt] at hT
                refine ⟨rfl, _, _, _, _, _, P', hT, live_ents R, ?_, Or.inr (by omega), st_up HT.out.m (upW_t HUr.out) hB⟩
                have := HT.out.cnt
                rw [live_len, hPm]; omega
              clear HTr
              go_wp2_with fail
              refine bodyPost_end (v := .tuple #[]) (Li.results_none rfl _ _) rfl ?_
              exact HE.out
end Go.Proofs.Ytipdjjgpcmbpdaa.Ta
