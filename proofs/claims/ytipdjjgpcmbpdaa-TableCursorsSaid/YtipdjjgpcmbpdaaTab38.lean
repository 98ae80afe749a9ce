/- What the walk of TableCursors wants. -/
import Derived.Test.YtipdjjgpcmbpdaaTab37
set_option linter.unusedVariables false
namespace Go.Proofs.Ytipdjjgpcmbpdaa.Ta
open Go.RowKit Go.ChangeShapes Go.WideShapes Go.ChangeAt Go.Proofs.Ytipdjjgpcmbpdaa.Va Go.Maps Go.WideMaps

theorem isTab_cur {B b sz us : Nat} {w : World} {E : List (Vl × Vl × Int)} {last : Int} (h : IsTab B b w E last sz us) {j : Nat} {k v : Vl} {c : Int} (hj : E[j]? = some (k, v, c)) : 0 < c ∧ c ≤ last := by
  obtain ⟨ar, cr, ap, cp, R, P, n, hT, rfl, _, _⟩ := h
  obtain ⟨i, r, hi, _, _, rfl, _, _⟩ := ents_row hj
  exact hT.g.cur i r hi
theorem cm_mono {B bt bb b sz us cm n n' : Nat} {E : List (Vl × Vl × Int)} {last : Int} {am : Option Addr} {T Bn : DataW Unit} {w0 w : World} (h : CM B bt bb b sz us E last am cm T Bn n w0 w) (hn : n ≤ n') : CM B bt bb b sz us E last am cm T Bn n' w0 w :=
  ⟨h.t, h.m, World.ownsMap.mono h.tt hn, World.ownsMap.mono h.bn hn, h.z, h.hB, h.low⟩
def WfL (L : List (Int × Vl × Vl)) : Prop := ∀ (i : Nat) (kd : Int) (k v : Vl), L[i]? = some (kd, k, v) → (Lit.int .i64 k.2.1).wf = true
theorem cm_iter {B bt bb b sz us cm n : Nat} {E : List (Vl × Vl × Int)} {last : Int} {am : Option Addr} {T Bn : DataW Unit} {w0 w w' : World} {row : Option Nat} (h : CM B bt bb b sz us E last am cm T Bn n w0 w) (hg : w.grownBy w' row) (hr : ∀ r, row = some r → (w0.heap.size ≤ r ∧ r ≠ bt ∧ r ≠ bb) ∧ ∃ o : Obj, w.heap[r]? = some o ∧ o.isCells = false) : CM B bt bb b sz us E last am cm T Bn n w0 w' := by
  have hr' : ∀ r, row = some r → 0 ≤ r ∧ ∃ o : Obj, w.heap[r]? = some o ∧ o.isCells = false := fun r e => ⟨Nat.zero_le _, (hr r e).2⟩
  exact ⟨isTab_grown h.t hg hr', ownM_grown h.m hg hr', World.ownsMap.kept h.tt hg (fun e => (hr _ e.symm).1.2.1 rfl), World.ownsMap.kept h.bn hg (fun e => (hr _ e.symm).1.2.2 rfl), h.z.grown hg h.z.size (fun k e => (hr k e).1.1), Nat.le_trans h.hB hg.size, h.low⟩
theorem grown_below {w w' : World} (h : Below w.heap.size w w') : w.grownBy w' none := ⟨h.os, h.tape, h.output, h.size, fun k hk _ => h.block k hk⟩
/-- A range over what came anew, under way. -/
def RgW (w : World) (b r n : Nat) (D : DataW Unit) (left : Lit → Bool) (cnt : Nat) : Prop := w.ranges Try.prog 30 (plainElem Try.prog 4) b r n D left cnt
theorem rgW_obj {w : World} {b r n : Nat} {D : DataW Unit} {left : Lit → Bool} {cnt : Nat} (h : RgW w b r n D left cnt) : ∃ o : Obj, w.heap[r]? = some o ∧ o.isCells = false := by
  obtain ⟨es, clock, since, seen, c0, hb, _, _, _, hr, _⟩ := h
  exact ⟨_, hr, rfl⟩
theorem rgW_below {w w' : World} {b r n : Nat} {D : DataW Unit} {left : Lit → Bool} {cnt : Nat} (h : RgW w b r n D left cnt) (hb : Below w.heap.size w w') : RgW w' b r n D left cnt := World.ranges.kept h (grown_below hb) (by simp) (by simp)
/-- A key that isn't there goes. -/
theorem tel_sweep {T Bn : DataW Unit} {E : List (Vl × Vl × Int)} {cur : Int} {k : Vl} (ht : Tel T Bn E cur) (hw : WfE E) (hk : WfK k) (hno : ∀ (j : Nat) (v : Vl) (c : Int), E[j]? ≠ some (k, v, c)) : Tel T (Bn.del (klit k)) E cur :=
  tel_same ht fun j x v c hj => by
    have hne : x ≠ k := fun e => by subst e; exact hno j v c hj
    rw [inS_del hk (hw j x v c hj), if_neg hne]
/-- A step of such a range has told a key. -/
structure Told (w : World) (b r n : Nat) (D : DataW Unit) (cnt : Nat) where
  k : Vl
  c : Bool
  x : World
  left : Lit → Bool
  m : Nat
  wf : WfK k
  rg : RgW x b r n D left m
  lt : m < cnt
  gr : w.grownBy x (some r)
  sz : x.heap.size = w.heap.size
  en : (Instr.entry (.pointer (some ⟨r, 0, none⟩))).run Try.prog x = .ok (.tuple #[.agg #[.int .i64 k.1, .int .i64 k.2.1, .string k.2.2], .bool c]) x
theorem next_set {w : World} {ops : Array Oper} {rest : List Oper} {o : Oper} {a : Act} {Q : Exit → Act → World → Prop} (hg : o.guard = none) (it : Operand) (hop : o.op = Op.next it false) {b r n : Nat} {D : DataW Unit} {left : Lit → Bool} {cnt : Nat}
    (hit : a.eval it = .pointer (some ⟨r, 0, none⟩)) (h : RgW w b r n D left cnt) (hDone : wpList Try.prog ops Q rest (a.put o.dst (.tuple #[.bool false])) w)
    (hMore : ∀ s : Told w b r n D cnt, wpList Try.prog ops Q rest (a.put o.dst (.tuple #[.bool true, .agg #[.int .i64 s.k.1, .int .i64 s.k.2.1, .string s.k.2.2], .bool s.c])) s.x) :
    wpList Try.prog ops Q (o :: rest) a w := by
  refine wpList_next_ranges w hg it hop 30 lawK (plainElem Try.prog 4) agV Value.bool (fun key kl h => by obtain ⟨k, rfl, _⟩ := key_inv h; exact ⟨k, rfl⟩) (fun v z h => by obtain ⟨c, rfl, _⟩ := plain_bool_inv h; exact ⟨c, rfl⟩) _ _ _ _ _ _ hit h (fun _ _ => hDone) ?_
  intro kx cx kl yx wB cnt1 hkey hlk hv hat hrg1 hlt1 hg1 hs1 hen
  obtain ⟨k', he, hwk⟩ := key_inv hkey
  obtain rfl := agV_inj he
  exact hMore ⟨kx, cx, wB, _, cnt1, hwk, hrg1, hlt1, hg1, hs1, hen⟩
end Go.Proofs.Ytipdjjgpcmbpdaa.Ta
