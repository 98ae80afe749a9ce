/- list.Resize. -/
import Derived.Test.YtipdjjgpcmbpdaaList13
import Derived.BigRegion
import Derived.Deep.RegionLaw
namespace Go.Proofs.Ytipdjjgpcmbpdaa.Li
open Go.RowKit Go.ChangeShapes Go.WideShapes Go.ChangeAt Go.Proofs.Ytipdjjgpcmbpdaa.Va

theorem own_capm {B cap : Nat} {ad : Option Addr} {w : World} {L : List (Int × Int × ByteArray)} (h : Own B ad cap w L) : cap ≤ maxLen := by
  rcases h.2 with ⟨hv, e⟩ | ⟨g, c, cur, hv, _, _, _, hc, _⟩
  · simp only [Value.slice.injEq] at hv; obtain ⟨_, _, rfl⟩ := hv; exact Nat.zero_le _
  · simp only [Value.slice.injEq] at hv; obtain ⟨_, _, rfl⟩ := hv; exact hc
theorem gr_cell {B b cap cap' : Nat} {ad ad' : Option Addr} {W w1 : World} {L : List (Int × Int × ByteArray)} (hG : Gr B ad ad' cap' W w1 L) (h : IsL B b ad cap W L) : w1.heap[b]? = some (.cells #[.slice ad L.length cap] 120 (0, 0)) :=
  (hG.2.1.block b (lt_of_block h.blk)).trans h.blk
theorem now_gr {B b cap cap' : Nat} {ad ad' : Option Addr} {w W w1 : World} {L : List (Int × Int × ByteArray)} (hb : Below w.heap.size w W) (h : IsL B b ad cap W L) (hG : Gr B ad ad' cap' W w1 L) : Now B b ad w (w1.setCell ⟨b, 0, none⟩ (.slice ad' L.length cap')) L := by
  have hc := gr_cell hG h
  obtain ⟨ho, hg, hf⟩ := hG
  exact now_below hb (now_store h.low ho hc ⟨hg.os, hg.tape, hg.output, hg.size, fun k hk _ => hg.block k hk⟩ hf L.length rfl)
theorem now_trans {B b : Nat} {ad ad1 : Option Addr} {w W w' : World} {L' : List (Int × Int × ByteArray)} (hu : Upd b ad w W) (hf : ∀ g, ad1.map (·.block) = some g → ad.map (·.block) = some g ∨ w.heap.size ≤ g) (h : Now B b ad1 W w' L') : Now B b ad w w' L' := by
  obtain ⟨ad2, cap2, hL, h2, hf2⟩ := h
  refine ⟨ad2, cap2, hL, ⟨h2.os.trans hu.os, h2.tape.trans hu.tape, h2.output.trans hu.output, Nat.le_trans hu.size h2.size, fun k hk hb hk2 => ?_⟩, fun g hg => ?_⟩
  · refine (h2.block k (Nat.lt_of_lt_of_le hk hu.size) hb fun e => ?_).trans (hu.block k hk hb hk2)
    rcases hf k e with h | h
    · exact hk2 h
    · omega
  · rcases hf2 g hg with h | h
    · exact hf g h
    · exact Or.inr (Nat.le_trans hu.size h)
def lenAt (b : Nat) (w : World) : Nat := match w.cell? ⟨b, 0, none⟩ with
  | some (.slice _ n _) => n
  | _ => 0
theorem lenAt_now {B b : Nat} {ad : Option Addr} {w w' : World} {L : List (Int × Int × ByteArray)} (h : Now B b ad w w' L) : lenAt b w' = L.length := by
  obtain ⟨ad', cap', hL, _⟩ := h
  simp only [lenAt, (isL_cell hL).1]
theorem set_block {w : World} {b g : Nat} {v : Value} {A : Obj} (hne : g ≠ b) (h : w.heap[g]? = some A) : (w.setCell ⟨b, 0, none⟩ v).heap[g]? = some A := by
  rw [← h]
  simp only [World.setCell, Array.getElem?_modify]
  rw [if_neg (fun e => hne e.symm)]

/-- 'append' whose run is known, as one step of a region that draws its order. -/
theorem step_append_run {P : Program} {ops : Array Oper} {o : Oper} {a : Act} {w : World} {K : Act → World → Prop} {Q : Exit → Act → World → Prop} {E : Prop}
    (hg : o.guard = none) (s x : Operand) (t : TypeId) (hop : o.op = Op.call { callee := Callee.builtin Builtin.append, args := #[s, x], argTypes := #[t, t] }) (v u : Value) (hs : a.eval s = v) (hx : a.eval x = u)
    {v' : Value} {w' : World} (hr : (Builtin.append_ #[t, t] o.type #[v, u]).run P w = .ok v' w') (hK : K (a.put o.dst v') w') :
    if Region.wanted o (yielded ops a.tmps) = true then Oper.wp P o a w K Q else E := by
  have hw : Region.wanted o (yielded ops a.tmps) = true := by simp [Region.wanted, hg]
  rw [if_pos hw]
  unfold Oper.wp
  simp [execOp, hop, resolve, invoke, builtin, hs, hx, hr, Result.andThen]
  exact hK
/-- One round of Resize: one value more. -/
theorem run_one {B b : Nat} {ad : Option Addr} {w wr : World} {M : List (Int × Int × ByteArray)} (q : Nat) (hq : M.length = q) (hm : q ≤ 1048576) (e : Int × Int × ByteArray) (hB : B ≤ w.heap.size) (hn : Now B b ad w wr M) :
    ∃ ad1 cap1 ad2 cap2 w4, wr.heap[b]? = some (.cells #[.slice ad1 q cap1] 120 (0, 0)) ∧
      (Builtin.append_ #[74, 74] 74 #[.slice ad1 q cap1, .slice (some ⟨wr.heap.size, 0, none⟩) 1 1]).run Try.prog (wr.drew.alloc (.cells (flat [e]).toArray 30)) = .ok (.slice ad2 (q + 1) cap2) w4 ∧
      w4.heap[b]? = some (.cells #[.slice ad1 q cap1] 120 (0, 0)) ∧ Hid (Now B b ad w (w4.setCell ⟨b, 0, none⟩ (.slice ad2 (q + 1) cap2)) (M ++ [e])) ∧
      ∀ g A, g < w.heap.size → ad.map (·.block) ≠ some g → wr.heap[g]? = some A → w4.heap[g]? = some A := by
  subst hq
  obtain ⟨ad1, cap1, hL, hu, hf⟩ := hn
  have hBl : Below wr.heap.size wr (wr.drew.alloc (.cells (flat [e]).toArray 30)) := (Below.refl _ _).drew.alloc (Nat.le_refl _) _
  have hL1 := isL_below hL hBl
  obtain ⟨ad2, cap2, w4, hr, hown, hgr, hfr⟩ := run_push (c := 1) (a := ⟨wr.drew.heap.size, 0, none⟩) (M := [e]) (by simp; omega) (Nat.le_trans hB (Nat.le_trans hu.size hBl.size)) hL1.own (lit_src [e])
  have hb4 : w4.heap[b]? = some (.cells #[.slice ad1 M.length cap1] 120 (0, 0)) := (hgr.block b (lt_of_block hL1.blk) (fun e => own_apart hL1.own hL1.blk e.symm)).trans hL1.blk
  have hl1 : (M ++ [e]).length = M.length + 1 := by simp
  rw [hl1] at hr
  refine ⟨ad1, cap1, ad2, cap2, w4, hL.blk, hr, hb4, now_trans hu hf (now_below hBl (now_store hL1.low hown hb4 hgr hfr (M.length + 1) hl1.symm)), fun g A hg hne hA => ?_⟩
  have hg2 : g < wr.heap.size := Nat.lt_of_lt_of_le hg hu.size
  refine (hgr.block g (Nat.lt_of_lt_of_le hg2 hBl.size) (fun e => ?_)).trans ((hBl.block g hg2).trans hA)
  rcases hf g e.symm with h | h
  · exact hne h
  · omega
end Go.Proofs.Ytipdjjgpcmbpdaa.Li
