/- Contract of table.add. -/
import Derived.Test.YtipdjjgpcmbpdaaTab6
import Derived.Test.YtipdjjgpcmbpdaaList14
set_option linter.unusedVariables false
namespace Go.Proofs.Ytipdjjgpcmbpdaa.Ta
open Go.RowKit Go.ChangeShapes Go.WideShapes Go.ChangeAt Go.Proofs.Ytipdjjgpcmbpdaa.Va

/-- Only a table's own blocks have turned. -/
structure UpT (b : Nat) (ar ap : Option Addr) (w w' : World) : Prop where
  os : w'.os = w.os
  tape : w'.tape = w.tape
  output : w'.output = w.output
  size : w.heap.size ≤ w'.heap.size
  block : ∀ (k : Nat), k < w.heap.size → k ≠ b → ar.map (·.block) ≠ some k → ap.map (·.block) ≠ some k → w'.heap[k]? = w.heap[k]?
theorem upT_refl (b : Nat) (ar ap : Option Addr) (w : World) : UpT b ar ap w w := ⟨rfl, rfl, rfl, Nat.le_refl _, fun _ _ _ _ _ => rfl⟩
theorem upT_below {b : Nat} {ar ap : Option Addr} {w w' : World} (h : Below w.heap.size w w') : UpT b ar ap w w' := ⟨h.os, h.tape, h.output, h.size, fun k hk _ _ _ => h.block k hk⟩
theorem upT_trans {b : Nat} {ar ar' ap : Option Addr} {w W w' : World} (h1 : UpT b ar ap w W) (h2 : UpT b ar' ap W w') (hf : ∀ g, ar'.map (·.block) = some g → ar.map (·.block) = some g ∨ w.heap.size ≤ g) : UpT b ar ap w w' :=
  ⟨h2.os.trans h1.os, h2.tape.trans h1.tape, h2.output.trans h1.output, Nat.le_trans h1.size h2.size, fun k hk n1 n2 n3 => (h2.block k (Nat.lt_of_lt_of_le hk h1.size) n1 (fun e => by
    rcases hf k e with h | h
    · exact n2 h
    · omega) n3).trans (h1.block k hk n1 n2 n3)⟩
theorem upT_set {b o g : Nat} {ar ap : Option Addr} {w w' : World} (h : UpT b ar ap w w') (hg : g = b ∨ ar.map (·.block) = some g ∨ ap.map (·.block) = some g ∨ w.heap.size ≤ g) (v : Value) : UpT b ar ap w (w'.setCell ⟨g, o, none⟩ v) :=
  ⟨h.os, h.tape, h.output, by simpa [World.setCell] using h.size, fun k hk n1 n2 n3 => by
    rw [set_heap]
    · exact h.block k hk n1 n2 n3
    · rintro rfl
      rcases hg with e | e | e | e
      · exact n1 e
      · exact n2 e
      · exact n3 e
      · omega⟩
theorem upT_grown {b : Nat} {ar ap : Option Addr} {w W w' : World} (h : UpT b ar ap w W) (hg : W.grownBy w' (ar.map (·.block))) : UpT b ar ap w w' :=
  ⟨hg.os.trans h.os, hg.tape.trans h.tape, hg.output.trans h.output, Nat.le_trans h.size hg.size, fun k hk n1 n2 n3 => (hg.block k (Nat.lt_of_lt_of_le hk h.size) (fun e => n2 e.symm)).trans (h.block k hk n1 n2 n3)⟩
theorem upT_drew {b : Nat} {ar ap : Option Addr} {w w' : World} (h : UpT b ar ap w w') : UpT b ar ap w w'.drew := ⟨h.os, h.tape, h.output, h.size, h.block⟩
/-- What a table's call leaves, from that. -/
theorem st_up {B b cr cp : Nat} {ar ap : Option Addr} {w w' : World} {R : List Rw} {P : List Int} {n last : Int} (h : TabM B b ar cr ap cp w R P n last) (hu : UpT b ar ap w w') (hB : B ≤ w.heap.size) : St B w w' := by
  refine ⟨⟨hu.os, hu.tape, hu.output, hu.size, fun k A hA hn => ?_⟩, ⟨hu.os, hu.tape, hu.output, Nat.le_trans (Nat.le_refl _) hu.size, fun k hk => ?_⟩⟩
  · rw [hu.block k (lt_of_block hA)]
    · exact hA
    · rintro rfl
      rw [h.blk] at hA
      exact (hn _ _ _ (Option.some.inj hA).symm).2.2 rfl
    · intro e
      obtain ⟨_, cur, hc⟩ := row_block h.r k e
      rw [hc] at hA
      exact (hn _ _ _ (Option.some.inj hA).symm).1 rfl
    · intro e
      obtain ⟨_, cur, hc⟩ := row_block h.p k e
      rw [hc] at hA
      exact (hn _ _ _ (Option.some.inj hA).symm).2.1 rfl
  · refine hu.block k (by omega) (by have := h.low; omega) (fun e => ?_) (fun e => ?_)
    · have := (row_block h.r k e).1; omega
    · have := (row_block h.p k e).1; omega
/-- 'append(rows, r)'. -/
theorem run_row {B cap c : Nat} {ad : Option Addr} {a : Addr} {w : World} {R : List Rw} {q : Rw} (hm : R.length ≤ 33554432) (hB : B ≤ w.heap.size) (h : OwnR B ad cap w R) (hs : ∀ j u, (flatR [q])[j]? = some u → w.cell? (a.add j) = some u) :
    ∃ ad' cap' w', (Builtin.append_ #[100, 100] 100 #[.slice ad R.length cap, .slice (some a) 1 c]).run Try.prog w = .ok (.slice ad' (R.length + 1) cap') w' ∧ OwnR B ad' cap' w' (R ++ [q]) ∧ w.grownBy w' (ad.map (·.block)) ∧ ∀ g, ad'.map (·.block) = some g → ad.map (·.block) = some g ∨ w.heap.size ≤ g := by
  obtain ⟨i0, hi, hz0, hz1, hz2⟩ := info_parts A.infoR
  obtain ⟨v', w', hr, hown, hgr, hfr⟩ := run_append_own (P := Try.prog) (w := w) B 100 100 109 i0 _ 8 80 Try.underlying100 hi hz0 hz1 hz2 rfl (by decide) _ R.length (flatR R) h a 1 c (flatR [q]) (flatR_len [q]) hs (flatR_cells [q]) (by unfold maxLen; omega) (by omega) hB
  obtain ⟨ad', cap', rfl⟩ : ∃ ad' cap', v' = .slice ad' (R.length + 1) cap' := by
    rcases hown.2 with ⟨rfl, e⟩ | ⟨g, c', cur, rfl, _⟩
    · omega
    · exact ⟨_, c', rfl⟩
  rw [Li.own_blockv] at hgr
  refine ⟨ad', cap', w', hr, ?_, hgr, ?_⟩
  · show World.ownsRow _ _ _ _ _ _ _
    rw [List.length_append, flatR_append]; exact hown
  · intro g' hg'
    rcases h.2 with ⟨hv, hn⟩ | ⟨g, cap1, cur, hv, hbg, hg, hnc, hcm, hcs, htake⟩
    · simp only [Value.slice.injEq] at hv
      obtain ⟨rfl, _, rfl⟩ := hv
      right
      have e := hr
      rw [hn, run_append_nil (P := Try.prog) w 100 100 109 i0 _ Try.underlying100 hi hz0 a 1 c (flatR [q]) (by rw [flatR_len, hz1]; rfl) hs (by omega) (by omega) (by rw [hz2]; omega)] at e
      simp only [Result.ok.injEq, Value.slice.injEq] at e
      rw [← e.1.1] at hg'
      simp at hg'; omega
    · simp only [Value.slice.injEq] at hv
      obtain ⟨rfl, _, rfl⟩ := hv
      by_cases hroom : R.length + 1 ≤ cap
      · left
        have e := hr
        rw [run_append_room (P := Try.prog) w 100 100 109 i0 Try.underlying100 hi g R.length cap cur hg a 1 c (flatR [q]) (by rw [flatR_len, hz1]; rfl) hs (flatR_cells [q]) hroom (by rw [hz1, flatR_len, hcs, List.length_singleton]; omega)] at e
        simp only [Result.ok.injEq, Value.slice.injEq] at e
        rw [← e.1.1] at hg'
        exact hg'
      · right
        have e := hr
        rw [run_append_grow (P := Try.prog) w 100 100 109 i0 _ Try.underlying100 hi hz0 ⟨g, 0, none⟩ R.length cap (flatR R) (by rw [flatR_len, hz1]) (World.ownsRow.cells h (g := g) rfl) a 1 c (flatR [q]) (by rw [flatR_len, hz1]; rfl) hs (by omega) (by omega) (growslice_fits (by omega) (by rw [hz2]; omega))] at e
        simp only [Result.ok.injEq, Value.slice.injEq] at e
        rw [← e.1.1] at hg'
        simp at hg'; omega
theorem eight_facts {w : World} {g : Nat} {x0 x1 x2 x3 x4 x5 x6 x7 : Value} {t : TypeId} (h : w.heap[g]? = some (.cells #[x0, x1, x2, x3, x4, x5, x6, x7] t)) :
    w.cell? ⟨g, 0, none⟩ = some x0 ∧ w.cell? ⟨g, 1, none⟩ = some x1 ∧ w.cell? ⟨g, 2, none⟩ = some x2 ∧ w.cell? ⟨g, 3, none⟩ = some x3 ∧ w.cell? ⟨g, 4, none⟩ = some x4 ∧ w.cell? ⟨g, 5, none⟩ = some x5 ∧ w.cell? ⟨g, 6, none⟩ = some x6 ∧ w.cell? ⟨g, 7, none⟩ = some x7 := by
  refine ⟨?_, ?_, ?_, ?_, ?_, ?_, ?_, ?_⟩ <;> (rw [cell_of_row _ _ _ _ _ _ h]; rfl)
def rowObj (q : Rw) : Obj := .cells #[.int .i64 q.k.1, .int .i64 q.k.2.1, .string q.k.2.2, .int .i64 q.v.1, .int .i64 q.v.2.1, .string q.v.2.2, .int .i64 q.c, .int .i64 q.s] 109
/-- What add leaves. -/
def Added (B b : Nat) (ar ap : Option Addr) (cp : Nat) (w : World) (R : List Rw) (P : List Int) (n : Nat) (last : Int) (q : Rw) (x : Ending) (w' : World) : Prop :=
  x = .returned (.tuple #[]) ∧ ∃ ar' cr' P', Tab B b ar' cr' ap cp w' (R ++ [q]) P' (n + 1) last ∧ P'.length = P.length ∧ UpT b ar ap w w' ∧ ∀ g, ar'.map (·.block) = some g → ar.map (·.block) = some g ∨ w.heap.size ≤ g
set_option maxRecDepth 100000 in
set_option maxHeartbeats 4000000 in
theorem add_any {B b cr cp n : Nat} {ar ap : Option Addr} {R : List Rw} {P : List Int} {last : Int} (q : Rw) (hq : q.k ≠ nul) (hok : okK q.k) (hnew : ∀ (i : Nat) (r : Rw), R[i]? = some r → r.k ≠ q.k) (hc : ∀ (i : Nat) (r : Rw), R[i]? = some r → r.c < q.c) (h0 : 0 < q.c) (hl : q.c ≤ last) (hroom : 4 * (R.length + 1) ≤ 3 * P.length)
    (w : World) (hB : B ≤ w.heap.size) (h : Tab B b ar cr ap cp w R P n last) :
    Calls Try.prog 63 #[.pointer (some ⟨b, 0, none⟩), .agg #[.int .i64 q.k.1, .int .i64 q.k.2.1, .string q.k.2.2, .int .i64 q.v.1, .int .i64 q.v.2.1, .string q.v.2.2, .int .i64 q.c, .int .i64 q.s]] w (Added B b ar ap cp w R P n last q) := by
  have hP : 0 < P.length := by omega
  obtain ⟨t, ht, hs, hnn⟩ := stop_least h.g hP q.k
  have hfree := lost_at hnew hs
  have hG := good_add h.g hq hnew hc h0 hl hroom ht hfree hnn
  have hxl := at_lt hP q.k t
  have hA := heap_alloc_new w (rowObj q)
  have hE : Below w.heap.size w (w.alloc (rowObj q)) := (Below.refl _ _).alloc (Nat.le_refl _) _
  unfold rowObj at hA hE
  have HPL := Lib.hid fun (w : World) (h : Tab B b ar cr ap cp w R P n last) => place_at q.k hok ht hs hnn w h
  have hpl := plen h.g
  have HE := Lib.hid hE
  have HA := Lib.hid hA
  have HT := Lib.hid h
  have hres : ∀ W ar' cr', TabM B b ar' cr' ap cp W (R ++ [q]) (P.set (at_ P q.k t) ((R.length : Int) + 1)) ((n : Int) + 1) last → Tab B b ar' cr' ap cp W (R ++ [q]) (P.set (at_ P q.k t) ((R.length : Int) + 1)) (n + 1) last := by
    intro W ar' cr' hM
    refine ⟨hM.blk, hM.low, hM.r, hM.p, hG, ?_, ?_, h.bd⟩
    · rw [ents_append, ents_live hq, List.length_append, List.length_singleton, ← h.cnt]
    · intro i r hi
      rw [List.getElem?_append] at hi
      split at hi
      · exact h.ok i r hi
      · have := List.mem_of_getElem? hi
        simp at this; rw [this]; exact hok
  have HRES := Lib.hid hres
  obtain ⟨gp, rfl, _, hgp⟩ := row_some h.p hP
  have hbw := lt_of_block h.blk
  have hnb : n ≤ 33554432 := by
    have h1 : (ents R).length ≤ R.length := by unfold ents; rw [List.length_map]; exact List.length_filter_le _ _
    rw [h.cnt]; omega
  generalize hy : at_ P q.k t = y at *
  clear h hA hE hs hnn hfree hG hnew hc h0 hl hroom hok hres
  go_enter Try.func63, Try.ntmps63
  go_wp2_with fail
  refine (HPL.out _ (tab_below HT.out HE.out)).mono ?_
  rintro e w1 ⟨rfl, hb1⟩
  have hz := HE.out.trans (hb1.mono HE.out.size)
  have hA1 := keep HA.out hb1
  have hT1 := tab_below HT.out hz
  -- append
  have hEX : Below w1.heap.size w1 (w1.drew.alloc (rowObj q)) := (Below.refl _ _).drew.alloc (Nat.le_refl _) _
  have hT2 := tab_below hT1 hEX
  have hBx : B ≤ (w1.drew.alloc (rowObj q)).heap.size := by have h1 := hz.size; have h2 := hEX.size; omega
  obtain ⟨ar', cr', w4, hr, hown, hgr, hfr⟩ := run_row (c := 1) (a := ⟨w1.drew.heap.size, 0, none⟩) (q := q) hpl.2 hBx hT2.r (fun j u hj => by
    have hh := heap_alloc_new w1.drew (rowObj q)
    unfold rowObj at hh ⊢
    rw [Go.WideShapes.add_plain, Nat.zero_add, cell_of_row _ _ _ _ _ _ hh, List.getElem?_toArray]
    rw [flatR_one] at hj
    exact hj)
  have hu1 : UpT b ar (some ⟨gp, 0, none⟩) w w4 := upT_grown (upT_below (hz.trans (hEX.mono hz.size))) hgr
  have hb4 : w4.heap[b]? = some (.cells #[.slice ar R.length cr, .slice (some ⟨gp, 0, none⟩) P.length cp, .int .i64 (n : Int), .int .i64 last] 103 (0, 0)) := (hgr.block b (lt_of_block hT2.blk) (fun e => by
    obtain ⟨_, cur', hc⟩ := row_block hT2.r b e.symm
    have hbk := hT2.blk
    rw [hbk] at hc; simp only [Option.some.injEq, Obj.cells.injEq] at hc; exact absurd hc.2.1 (by decide))).trans hT2.blk
  have hp4 : OwnP B (some ⟨gp, 0, none⟩) cp w4 P := row_move hT2.p fun k e => hgr.block k (lt_of_block (row_block hT2.p k e).2.choose_spec) (fun e2 => by
    obtain ⟨_, cur', hc⟩ := row_block hT2.r k e2.symm
    obtain ⟨_, cur2, hc2⟩ := row_block hT2.p k e
    rw [hc] at hc2; simp only [Option.some.injEq, Obj.cells.injEq] at hc2; exact absurd hc2.2.1 (by decide))
  have hbp : b ≠ gp := by
    rintro rfl
    obtain ⟨_, cur', hc⟩ := row_block hp4 _ rfl
    rw [hb4] at hc; simp only [Option.some.injEq, Obj.cells.injEq] at hc; exact absurd hc.2.1 (by decide)
  have hrb : ∀ g, ar'.map (·.block) = some g → g ≠ b ∧ g ≠ gp := fun g e => by
    obtain ⟨_, cur', hc⟩ := row_block hown g e
    obtain ⟨_, cur2, hc2⟩ := row_block hp4 _ rfl
    refine ⟨?_, ?_⟩
    · rintro rfl; rw [hb4] at hc; simp only [Option.some.injEq, Obj.cells.injEq] at hc; exact absurd hc.2.1 (by decide)
    · rintro rfl; rw [hc2] at hc; simp only [Option.some.injEq, Obj.cells.injEq] at hc; exact absurd hc.2.1 (by decide)
  obtain ⟨W5, hW5⟩ : ∃ W5, W5 = w4.setCell ⟨b, 0, none⟩ (.slice ar' (R.length + 1) cr') := ⟨_, rfl⟩
  have hu5 : UpT b ar (some ⟨gp, 0, none⟩) w W5 := by rw [hW5]; exact upT_set hu1 (Or.inl rfl) _
  have hb5 : W5.heap[b]? = some (.cells #[.slice ar' (R.length + 1) cr', .slice (some ⟨gp, 0, none⟩) P.length cp, .int .i64 (n : Int), .int .i64 last] 103 (0, 0)) := by rw [hW5, heap_setCell_same _ _ _ _ _ _ hb4]; rfl
  have hr5 : OwnR B ar' cr' W5 (R ++ [q]) := by
    have h1 : OwnR B ar' cr' W5 (R ++ [q]) := row_move hown fun k e => by rw [hW5]; exact set_heap (hrb k e).1
    exact h1
  have hp5 : OwnP B (some ⟨gp, 0, none⟩) cp W5 P := row_move hp4 fun k e => by simp at e; subst e; rw [hW5]; exact set_heap (fun x => hbp x.symm)
  obtain ⟨W6, hW6⟩ : ∃ W6, W6 = (W5.setCell ⟨gp, y, none⟩ (.int .i32 ((R.length : Int) + 1))).drew := ⟨_, rfl⟩
  have hu6 : UpT b ar (some ⟨gp, 0, none⟩) w W6 := by rw [hW6]; exact upT_drew (upT_set hu5 (Or.inr (Or.inr (Or.inl rfl))) _)
  have hb6 : W6.heap[b]? = _ := (show W6.heap[b]? = W5.heap[b]? by rw [hW6, drew_heap, set_heap hbp]).trans hb5
  have hr6 : OwnR B ar' cr' W6 (R ++ [q]) := row_move hr5 fun k e => by rw [hW6, drew_heap, set_heap (hrb k e).2]
  have hp6 : OwnP B (some ⟨gp, 0, none⟩) cp W6 (P.set y ((R.length : Int) + 1)) := by
    have h1 := (World.ownsRow.stored hp5 y (.int .i32 ((R.length : Int) + 1))).1
    rw [hW6]
    show World.ownsRow _ _ _ _ _ _ _
    rw [List.length_set, List.map_set]
    exact ⟨h1.1, h1.2⟩
  have hM7 : TabM B b ar' cr' (some ⟨gp, 0, none⟩) cp (W6.setCell ⟨b, 2, none⟩ (.int .i64 ((n : Int) + 1))) (R ++ [q]) (P.set y ((R.length : Int) + 1)) ((n : Int) + 1) last := by
    refine ⟨?_, HT.out.low, row_move hr6 fun k e => set_heap (hrb k e).1, row_move hp6 fun k e => set_heap (fun x => by simp at e; exact hbp (by rw [e]; exact x.symm))⟩
    rw [heap_setCell_same _ _ _ _ _ _ hb6, List.length_append, List.length_set]; rfl
  have hu7 : UpT b ar (some ⟨gp, 0, none⟩) w (W6.setCell ⟨b, 2, none⟩ (.int .i64 ((n : Int) + 1))) := upT_set hu6 (Or.inl rfl) _
  have HEND : Hid (Added B b ar (some ⟨gp, 0, none⟩) cp w R P n last q (.returned (.tuple #[])) (W6.setCell ⟨b, 2, none⟩ (.int .i64 ((n : Int) + 1)))) :=
    ⟨rfl, ar', cr', _, HRES.out _ _ _ hM7, List.length_set, hu7, fun g e => (hfr g e).imp id fun h => Nat.le_trans (Nat.le_trans hz.size hEX.size) h⟩
  have H5 := Lib.hid (four_cells hb5)
  have H6 := Lib.hid (four_cells hb6)
  have H5P := Lib.hid (show W5.cell? ⟨gp, y, none⟩ = some _ from ownP_at hp5 (get_some hxl).choose_spec)
  have H5F := Lib.hid (World.ownsRow.frozenAt hp5 (j := y))
  have hT1b := hT1.blk
  obtain ⟨c0, c1, c2, c3, z0, z1, z2, z3⟩ := four_cells hT1b
  have hd0 : w1.drew.heap[b]? = _ := hT1b
  obtain ⟨d0, d1, d2, d3, _, _, _, _⟩ := four_cells hd0
  have hd1 : w1.drew.heap[w.heap.size]? = _ := hA1
  obtain ⟨e0, e1, e2, e3, e4, e5, e6, e7⟩ := eight_facts hd1
  have hd2 : (w1.alloc (.cells #[.int .i64 q.k.1, .int .i64 q.k.2.1, .string q.k.2.2, .int .i64 q.v.1, .int .i64 q.v.2.1, .string q.v.2.2, .int .i64 q.c, .int .i64 q.s] 109)).drew.heap[b]? = _ := hT2.blk
  obtain ⟨f0, f1, f2, f3, _, _, _, _⟩ := four_cells hd2
  obtain ⟨g0, g1, g2, g3, gz0, gz1, gz2, gz3⟩ := four_cells hb4
  have hr' : (Builtin.append_ #[100, 100] 100 #[.slice ar R.length cr, .slice (some ⟨w1.heap.size, 0, none⟩) 1 1]).run Try.prog (w1.alloc (.cells #[.int .i64 q.k.1, .int .i64 q.k.2.1, .string q.k.2.2, .int .i64 q.v.1, .int .i64 q.v.2.1, .string q.v.2.2, .int .i64 q.c, .int .i64 q.s] 109)).drew = .ok (.slice ar' (R.length + 1) cr') w4 := hr
  have HW5 := Lib.hid hW5
  have HW6 := Lib.hid hW6
  have hlr := hpl.2
  have hlp := hpl.1
  clear hr hown hgr hfr hu1 hu5 hu6 hu7 hb4 hb5 hb6 hr5 hr6 hp4 hp5 hp6 hM7 hT1 hT2 hEX hz hA1 hb1 hT1b hd0 hd1 hd2 hrb hW5 hW6 hBx hpl
  go_wp2_with fail
  go_region_law (refine Li.step_append_run rfl (.tmp 13) (.tmp 15) 100 rfl _ _ rfl rfl hr' ?_)
  all_goals rw [← HW5.out]
  all_goals clear c0 c1 c2 c3 z0 z1 z2 z3 d0 d1 d2 d3 e0 e1 e2 e3 e4 e5 e6 e7 f0 f1 f2 f3 g0 g1 g2 g3 gz0 gz1 gz2 gz3 hr'
  all_goals
    obtain ⟨c0, c1, c2, c3, z0, z1, z2, z3⟩ := H5.out
    have p5 := H5P.out
    have pf := H5F.out
    have hy0 : (0 : Int) ≤ (y : Int) := by omega
    have hy1 : (y : Int) < (P.length : Int) := by omega
    have hw32 : IntKind.i32.wrap ((R.length : Int) + 1) = (R.length : Int) + 1 := by rw [IntKind.wrap_i32]; omega
    have hgb : ¬ gp = b := fun x => hbp x.symm
    go_wp2_with fail
    go_region
  all_goals
    rw [← HW6.out]
    clear c0 c1 c2 c3 z0 z1 z2 z3 p5 pf
    obtain ⟨c0, c1, c2, c3, z0, z1, z2, z3⟩ := H6.out
    go_wp2_with fail
    refine bodyPost_end (v := .tuple #[]) (Li.results_none rfl _ _) rfl ?_
    exact HEND.out
end Go.Proofs.Ytipdjjgpcmbpdaa.Ta
