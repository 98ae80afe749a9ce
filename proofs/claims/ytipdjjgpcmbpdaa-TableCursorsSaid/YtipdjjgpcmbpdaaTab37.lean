/- What stands while a table is gone through. -/
import Derived.Test.YtipdjjgpcmbpdaaTab36
set_option linter.unusedVariables false
namespace Go.Proofs.Ytipdjjgpcmbpdaa.Ta
open Go.RowKit Go.ChangeShapes Go.WideShapes Go.ChangeAt Go.Proofs.Ytipdjjgpcmbpdaa.Va Go.Maps Go.WideMaps

def SetW (w : World) (b n : Nat) (D : DataW Unit) : Prop := w.ownsMap Try.prog 30 (plainElem Try.prog 4) b n D
theorem setW_fr {w w' : World} {b n : Nat} {D : DataW Unit} (h : SetW w b n D) (hf : FrT w w') : SetW w' b n D := by
  obtain ⟨es, clock, hb, F, hs, hD⟩ := h
  exact ⟨es, clock, hf.block _ _ hb (fun cur t fr e => by cases e), F, hs, hD⟩
theorem setW_obj {w : World} {b n : Nat} {D : DataW Unit} (h : SetW w b n D) : ∃ o : Obj, w.heap[b]? = some o ∧ o.isCells = false := by
  obtain ⟨es, clock, hb, F, hs, hD⟩ := h
  exact ⟨_, hb, rfl⟩
theorem ownM_grown {B' B cap : Nat} {ad : Option Addr} {w w' : World} {L : List (Vl × Vl)} {row : Option Nat} (h : OwnM B ad cap w L) (hg : w.grownBy w' row) (hr : ∀ r, row = some r → B' ≤ r ∧ ∃ o : Obj, w.heap[r]? = some o ∧ o.isCells = false) : OwnM B ad cap w' L := by
  refine ⟨h.1, ?_⟩
  rcases h.2 with h1 | ⟨g, c, cur, hv, hb, hgb, rest⟩
  · exact Or.inl h1
  · exact Or.inr ⟨g, c, cur, hv, hb, grown_cells hg hr hgb, rest⟩
/-- What stands: the table, the model, what is told, what came anew. -/
structure CM (B bt bb b sz us : Nat) (E : List (Vl × Vl × Int)) (last : Int) (am : Option Addr) (cm : Nat) (T Bn : DataW Unit) (n : Nat) (w0 w : World) : Prop where
  t : IsTab B b w E last sz us
  m : OwnM B am cm w (prs E)
  tt : SetW w bt n T
  bn : SetW w bb n Bn
  z : Below w0.heap.size w0 w
  hB : B ≤ w.heap.size
  low : w0.heap.size ≤ B ∧ w0.heap.size ≤ bt ∧ w0.heap.size ≤ bb ∧ bt ≠ bb
theorem cm_st {B bt bb b sz us cm sz' us' cm' n : Nat} {E E' : List (Vl × Vl × Int)} {last last' : Int} {am am' : Option Addr} {T Bn : DataW Unit} {w0 w w' : World} (h : CM B bt bb b sz us E last am cm T Bn n w0 w) (hst : St B w w') (ht : IsTab B b w' E' last' sz' us') (hm : OwnM B am' cm' w' (prs E')) : CM B bt bb b sz' us' E' last' am' cm' T Bn n w0 w' :=
  ⟨ht, hm, setW_fr h.tt hst.f, setW_fr h.bn hst.f, h.z.trans (hst.b.mono h.low.1), Nat.le_trans h.hB hst.f.size, h.low⟩
theorem cm_next {B bt bb b sz us cm n : Nat} {E : List (Vl × Vl × Int)} {last : Int} {am : Option Addr} {T Bn : DataW Unit} {w0 w w' : World} (h : CM B bt bb b sz us E last am cm T Bn n w0 w) (hst : St B w w') (ht : IsTab B b w' E last sz us) : CM B bt bb b sz us E last am cm T Bn n w0 w' := cm_st h hst ht (ownM_fr h.m hst.f)
theorem cm_below {B bt bb b sz us cm n : Nat} {E : List (Vl × Vl × Int)} {last : Int} {am : Option Addr} {T Bn : DataW Unit} {w0 w w' : World} (h : CM B bt bb b sz us E last am cm T Bn n w0 w) (hb : Below w.heap.size w w') : CM B bt bb b sz us E last am cm T Bn n w0 w' := cm_next h (st_below hb h.hB) (isTab_below h.t hb)
/-- One of the two maps turns. -/
theorem cm_told {B bt bb b sz us cm n n' : Nat} {E : List (Vl × Vl × Int)} {last : Int} {am : Option Addr} {T T' Bn : DataW Unit} {w0 w w' : World} (h : CM B bt bb b sz us E last am cm T Bn n w0 w) (hg : w.grownBy w' (some bt)) (hT : SetW w' bt n' T') (hn : n ≤ n') : CM B bt bb b sz us E last am cm T' Bn n' w0 w' := by
  have hr : ∀ r, some bt = some r → 0 ≤ r ∧ ∃ o : Obj, w.heap[r]? = some o ∧ o.isCells = false := fun r e => by cases e; exact ⟨Nat.zero_le _, setW_obj h.tt⟩
  exact ⟨isTab_grown h.t hg hr, ownM_grown h.m hg hr, hT, (World.ownsMap.kept h.bn hg (fun e => h.low.2.2.2 (by cases e; rfl))).mono hn, h.z.grown hg h.z.size (fun k e => by cases e; exact h.low.2.1), Nat.le_trans h.hB hg.size, h.low⟩
theorem cm_born {B bt bb b sz us cm n n' : Nat} {E : List (Vl × Vl × Int)} {last : Int} {am : Option Addr} {T Bn Bn' : DataW Unit} {w0 w w' : World} (h : CM B bt bb b sz us E last am cm T Bn n w0 w) (hg : w.grownBy w' (some bb)) (hT : SetW w' bb n' Bn') (hn : n ≤ n') : CM B bt bb b sz us E last am cm T Bn' n' w0 w' := by
  have hr : ∀ r, some bb = some r → 0 ≤ r ∧ ∃ o : Obj, w.heap[r]? = some o ∧ o.isCells = false := fun r e => by cases e; exact ⟨Nat.zero_le _, setW_obj h.bn⟩
  exact ⟨isTab_grown h.t hg hr, ownM_grown h.m hg hr, (World.ownsMap.kept h.tt hg (fun e => h.low.2.2.2 (by cases e; rfl))).mono hn, hT, h.z.grown hg h.z.size (fun k e => by cases e; exact h.low.2.2.1), Nat.le_trans h.hB hg.size, h.low⟩
theorem turned_grown {w w' : World} {b : Nat} (h : w.mapTurned w' b) : w.grownBy w' (some b) := h.grown
end Go.Proofs.Ytipdjjgpcmbpdaa.Ta
