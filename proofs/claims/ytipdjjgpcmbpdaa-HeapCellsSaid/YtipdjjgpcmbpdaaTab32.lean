/- Contract of table.Cells: what its rounds do. -/
import Derived.Test.YtipdjjgpcmbpdaaTab31
import Derived.Test.YtipdjjgpcmbpdaaValCells
set_option linter.unusedVariables false
namespace Go.Proofs.Ytipdjjgpcmbpdaa.Ta
open Go.RowKit Go.Shelf Go.ChangeShapes Go.WideShapes Go.ChangeAt Go.Proofs.Ytipdjjgpcmbpdaa.Va
attribute [local go_sem] Oper.semAt_some

/-- The cell that a value is, if it is one. -/
def cel1 (x : Vl) : List Int := if x.1 = 4 then [x.2.1] else []
def ints (L : List Int) : List Value := L.map (.int .i64 ·)
theorem ints_cells (L : List Int) : ∀ u ∈ ints L, u.oneCell' = true := by
  intro u hu
  simp only [ints, List.mem_map] at hu
  obtain ⟨_, _, rfl⟩ := hu
  rfl
theorem ints_len (L : List Int) : (ints L).length = L.length := by simp [ints]
def OwnI (B : Nat) (ad : Option Addr) (cap : Nat) (w : World) (L : List Int) : Prop := w.ownsRow B 3 1 (.slice ad L.length cap) L.length (ints L)
theorem shapeI {B n : Nat} {v : Value} {w : World} {xs : List Value} (h : w.ownsRow B 3 1 v n xs) : ∃ ad cap, v = .slice ad n cap := by
  rcases h.2 with ⟨rfl, rfl⟩ | ⟨g, cap, cur, rfl, _⟩
  · exact ⟨none, 0, rfl⟩
  · exact ⟨_, cap, rfl⟩
theorem cells_one (x : Vl) {v : Nat} (w : World) (h : w.heap[v]? = some (.cells #[.int .i64 x.1, .int .i64 x.2.1, .string x.2.2] 30 (0, 0))) :
    Calls Try.prog 47 #[.slice (some ⟨v, 0, none⟩) 1 1] w fun e w' => ∃ ad cap, e = .returned (.slice ad (cel1 x).length cap) ∧ OwnI w.heap.size ad cap w' (cel1 x) ∧ Below w.heap.size w w' := by
  have hv : Vals w v 0 1 (fun _ => x.1) (fun _ => x.2.1) (fun _ => x.2.2) := fun i hi => by
    obtain rfl : i = 0 := by omega
    exact three h
  refine (cells_any v 0 1 1 _ _ _ w (lt_of_block h) (by omega) hv).mono ?_
  rintro e w' ⟨v', n, rfl, rfl, ho, hb⟩
  have hr : refs (fun _ => x.1) (fun _ => x.2.1) 1 = cel1 x := by simp [refs, cel1]
  rw [hr] at ho
  obtain ⟨ad, cap, e1⟩ := shapeI ho
  rw [e1] at ho ⊢
  exact ⟨ad, cap, rfl, ho, hb⟩
/-- 'append(out, cells...)'. -/
theorem run_ints {cap c B B2 : Nat} {ad a : Option Addr} {w : World} {L M : List Int} (hm : L.length + M.length ≤ 3000000) (hB : B ≤ w.heap.size) (h : OwnI B ad cap w L) (hs : OwnI B2 a c w M) :
    ∃ ad' cap' w', (Builtin.append_ #[46, 46] 46 #[.slice ad L.length cap, .slice a M.length c]).run Try.prog w = .ok (.slice ad' (L ++ M).length cap') w' ∧ OwnI B ad' cap' w' (L ++ M) ∧ w.grownBy w' (ad.map (·.block)) := by
  obtain ⟨i0, hi, hz0, hz1, hz2⟩ := info_parts A.infoI
  rcases hs.2 with ⟨hv, e⟩ | ⟨g, c', cur, hv, _, hg, hl, _, hcs, htake⟩
  · simp only [Value.slice.injEq] at hv
    obtain ⟨rfl, _, rfl⟩ := hv
    obtain rfl := List.length_eq_zero_iff.1 e
    rw [List.append_nil]
    exact ⟨ad, cap, w, run_append_owned_none w B 46 46 3 i0 1 Try.underlying46 hi _ _ _ h, h, ⟨rfl, rfl, rfl, Nat.le_refl _, fun _ _ _ => rfl⟩⟩
  · simp only [Value.slice.injEq] at hv
    obtain ⟨rfl, _, rfl⟩ := hv
    obtain ⟨v', w', hr, hown, hgr, _⟩ := run_append_own (P := Try.prog) (w := w) B 46 46 3 i0 (.int .i64 0) 1 8 Try.underlying46 hi hz0 hz1 hz2 rfl (by decide) _ L.length (ints L) h ⟨g, 0, none⟩ M.length c (ints M) (by rw [ints_len, Nat.mul_one]) (fun j u hj => by
        have hj2 := (List.getElem?_eq_some_iff.1 hj).1
        rw [ints_len] at hj2
        rw [Go.WideShapes.add_plain, Nat.zero_add]
        exact (World.ownsRow.cellAt (n := M.length) (size := 1) hs j (by omega)).trans hj) (ints_cells M) (by unfold maxLen; omega) (by omega) hB
    obtain ⟨ad', cap', rfl⟩ := shapeI hown
    rw [Li.own_blockv] at hgr
    refine ⟨ad', cap', w', by rw [hr, List.length_append], ?_, hgr⟩
    show World.ownsRow _ _ _ _ _ _ _
    rw [List.length_append]; unfold ints; rw [List.map_append]; exact hown
theorem ownI_block {B cap : Nat} {ad : Option Addr} {w : World} {L : List Int} (h : OwnI B ad cap w L) : ∀ g, ad.map (·.block) = some g → B ≤ g ∧ ∃ cur, w.heap[g]? = some (.cells cur 3 (0, 0)) := row_block h
theorem ownI_move {B cap : Nat} {ad : Option Addr} {w w' : World} {L : List Int} (h : OwnI B ad cap w L) (hk : ∀ g cur, ad.map (·.block) = some g → w.heap[g]? = some (.cells cur 3 (0, 0)) → w'.heap[g]? = some (.cells cur 3 (0, 0))) : OwnI B ad cap w' L :=
  row_move h fun g e => by obtain ⟨_, cur, hc⟩ := ownI_block h g e; rw [hk g cur e hc, hc]
/-- What stands between two rounds: the cells so far, in a box; what is deferred already. -/
def CellI (n c : Nat) (ds : List Nat) (w : World) (L : List Int) (W : World) : Prop :=
  ∃ ad cap, W.heap[c]? = some (.cells #[.slice ad L.length cap] 46 (0, 0)) ∧ OwnI n ad cap W L ∧ Below n w W ∧ ∀ D ∈ ds, W.heap[D]? = some (.deferred (some []))
theorem cellI_grown {n c B : Nat} {ds : List Nat} {w X Y : World} {L : List Int} {row : Option Nat} (hn : n ≤ w.heap.size) (hB : n ≤ B) (hd : ∀ D ∈ ds, D < B) (hs : CellI n c ds w L X) (hg : X.grownBy Y row) (hr : ∀ r, row = some r → B ≤ r ∧ ∃ o : Obj, X.heap[r]? = some o ∧ o.isCells = false) : CellI n c ds w L Y := by
  obtain ⟨ad, cap, hc, ho, hb, hds⟩ := hs
  refine ⟨ad, cap, grown_cells hg hr hc, ownI_move ho fun g cur _ h => grown_cells hg hr h, hb.grown hg (Nat.le_trans hn hb.size) (fun r e => Nat.le_trans hB (hr r e).1), fun D hD => ?_⟩
  refine (hg.block D (lt_of_block (hds D hD)) (fun e => ?_)).trans (hds D hD)
  have := (hr D e.symm).1
  have := hd D hD
  omega
/-- A round: the cells are read, what is appended to them is stored. -/
theorem cellI_step {n c B : Nat} {ds : List Nat} {w W w9 : World} {L M : List Int} {a : Option Addr} {cp : Nat} (hn : n ≤ w.heap.size) (hcn : n ≤ c) (hm : L.length + M.length ≤ 3000000) (hs : CellI n c ds w L W) (hb : Below W.heap.size W w9) (ha : OwnI W.heap.size a cp w9 M) {ad0 : Option Addr} {cap0 : Nat} (h0 : W.heap[c]? = some (.cells #[.slice ad0 L.length cap0] 46 (0, 0))) :
    ∃ ad' cap' w10, (Builtin.append_ #[46, 46] 46 #[.slice ad0 L.length cap0, .slice a M.length cp]).run Try.prog w9 = .ok (.slice ad' (L ++ M).length cap') w10 ∧ w10.cell? ⟨c, 0, none⟩ = some (.slice ad0 L.length cap0) ∧ w10.frozen? ⟨c, 0, none⟩ = false ∧
      Hid (KeepsFrom B W (w10.setCell ⟨c, 0, none⟩ (.slice ad' (L ++ M).length cap')) ∧ Below n W (w10.setCell ⟨c, 0, none⟩ (.slice ad' (L ++ M).length cap')) ∧ CellI n c ds w (L ++ M) (w10.setCell ⟨c, 0, none⟩ (.slice ad' (L ++ M).length cap'))) := by
  obtain ⟨ad, cap, hc, ho, hbw, hds⟩ := hs
  rw [h0] at hc
  simp only [Option.some.injEq, Obj.cells.injEq] at hc
  have hc2 := Array.mk.inj hc.1
  simp only [List.cons.injEq, Value.slice.injEq] at hc2
  obtain ⟨⟨rfl, _, rfl⟩, _⟩ := hc2
  have ho9 : OwnI n ad0 cap0 w9 L := ownI_move ho fun g cur _ h => (hb.block g (lt_of_block h)).trans h
  have hc9 : w9.heap[c]? = _ := (hb.block c (lt_of_block h0)).trans h0
  obtain ⟨ad', cap', w10, hr, ho10, hg⟩ := run_ints hm (Nat.le_trans hn (Nat.le_trans hbw.size hb.size)) ho9 ha
  have hne : ∀ g, ad0.map (·.block) = some g → g ≠ c := fun g e => by
    rintro rfl
    obtain ⟨_, cur, h⟩ := ownI_block ho g e
    rw [h0] at h; simp only [Option.some.injEq, Obj.cells.injEq] at h; exact absurd h.2.1 (by decide)
  have hc10 : w10.heap[c]? = _ := (hg.block c (lt_of_block hc9) (fun e => hne c e.symm rfl)).trans hc9
  have hk10 : ∀ (k : Nat) (o : Obj), W.heap[k]? = some o → o.isCells = false → w10.heap[k]? = some o := fun k o h1 h2 => by
    have h9 := (hb.block k (lt_of_block h1)).trans h1
    refine (hg.block k (lt_of_block h9) (fun e => ?_)).trans h9
    obtain ⟨_, cur, h⟩ := ownI_block ho9 k e.symm
    rw [h9] at h; cases h; cases h2
  have hset : ∀ (k : Nat) (o : Obj), w10.heap[k]? = some o → o.isCells = false → (w10.setCell ⟨c, 0, none⟩ (.slice ad' (L ++ M).length cap')).heap[k]? = some o := fun k o h1 h2 => (KeepsOthers.setCell w10 _ _).same k o h1 h2
  have hB1 : Below n W w10 := (hb.mono (Nat.le_trans hn hbw.size)).trans ((Below.refl n w9).grown hg (Nat.le_trans hn (Nat.le_trans hbw.size hb.size)) (fun k e => (ownI_block ho9 k e).1))
  have hB2 := hB1.setCell (p := ⟨c, 0, none⟩) hcn (.slice ad' (L ++ M).length cap')
  refine ⟨ad', cap', w10, hr, by rw [one hc10], by simp [World.frozen?, hc10], ⟨hB2.size, fun k o _ h1 h2 => hset k o (hk10 k o h1 h2) h2⟩, hB2, ad', cap', ?_, ?_, hbw.trans hB2, fun D hD => hset D _ (hk10 D _ (hds D hD) rfl) rfl⟩
  · rw [heap_setCell_same _ _ _ _ _ _ hc10]; rfl
  · refine ownI_move ho10 fun g cur e h => ?_
    have hgc : g ≠ c := by
      rintro rfl
      rw [hc10] at h; simp only [Option.some.injEq, Obj.cells.injEq] at h; exact absurd h.2.1 (by decide)
    rw [set_heap hgc]; exact h
/-- 'append' whose run is known, as one step of a region inside a fence. -/
theorem step_append_in {F : Fence} {m : Nat} {P : Program} {ops : Array Oper} {o : Oper} {a : Act} {w : World} {K : Act → World → Prop} {Q : Exit → Act → World → Prop} {E : Prop}
    (hF : ∀ f, F.fn f) (hg : o.guard = none) (s x : Operand) (t : TypeId) (hop : o.op = Op.call { callee := Callee.builtin Builtin.append, args := #[s, x], argTypes := #[t, t] }) (v u : Value) (hs : a.eval s = v) (hx : a.eval x = u)
    {v' : Value} {w' : World} (hr : (Builtin.append_ #[t, t] o.type #[v, u]).run P w = .ok v' w') (hK : K (a.put o.dst v') w') :
    if Region.wanted o (yielded ops a.tmps) = true then Oper.wpIn F m P o a w K Q else E := by
  have hw : Region.wanted o (yielded ops a.tmps) = true := by simp [Region.wanted, hg]
  rw [if_pos hw]
  unfold Oper.wpIn
  refine ⟨fun f _ => hF f, ?_⟩
  have hse : Oper.semAt F.round a.eval o = execOp a.eval o := by
    cases F.round with
    | none => exact Oper.semAt_none _ _
    | some l => exact Oper.semAt_some l _ o (fun c h => by rw [hop] at h; cases h)
  rw [hse]
  simp [execOp, hop, resolve, invoke, builtin, hs, hx, hr, Result.andThen, Oper.uponIn]
  exact hK
end Go.Proofs.Ytipdjjgpcmbpdaa.Ta
