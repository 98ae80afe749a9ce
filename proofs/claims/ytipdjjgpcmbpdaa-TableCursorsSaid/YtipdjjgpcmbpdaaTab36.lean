/- What is told, and what came anew: of keys. -/
import Derived.Test.YtipdjjgpcmbpdaaTab35
import Derived.Test.YtipdjjgpcmbpdaaTab31
set_option linter.unusedVariables false
namespace Go.Proofs.Ytipdjjgpcmbpdaa.Ta
open Go.RowKit Go.ChangeShapes Go.WideShapes Go.ChangeAt Go.Proofs.Ytipdjjgpcmbpdaa.Va Go.Maps Go.WideMaps

/-- A key isn't told, or came anew, just if it stands behind the cursor. -/
def Tel (T Bn : DataW Unit) (E : List (Vl × Vl × Int)) (cur : Int) : Prop := ∀ (j : Nat) (k v : Vl) (c : Int), E[j]? = some (k, v, c) → ((inS T k = false ∨ inS Bn k = true) ↔ cur < c)
def WfE (E : List (Vl × Vl × Int)) : Prop := ∀ (j : Nat) (k v : Vl) (c : Int), E[j]? = some (k, v, c) → WfK k
theorem wf_small {n : Int} (h0 : 0 ≤ n) (h4 : n ≤ 4) : (Lit.int .i64 n).wf = true := by
  have : n = 0 ∨ n = 1 ∨ n = 2 ∨ n = 3 ∨ n = 4 := by omega
  rcases this with rfl | rfl | rfl | rfl | rfl <;> decide
theorem wf_ok {k v : Vl} (h : Ok1 k v) (hn : (Lit.int .i64 k.2.1).wf = true) : WfK k := ⟨wf_small h.1.1 h.1.2.1, hn, by have := h.2.2; unfold maxLen; omega⟩
theorem isTab_nodup {B b sz us : Nat} {w : World} {E : List (Vl × Vl × Int)} {last : Int} (h : IsTab B b w E last sz us) : (E.map (·.1)).Nodup := by
  obtain ⟨ar, cr, ap, cp, R, P, n, hT, rfl, _, _⟩ := h
  exact ents_nodup hT.g
theorem key_one {E : List (Vl × Vl × Int)} (h : (E.map (·.1)).Nodup) {i j : Nat} {k v v' : Vl} {c c' : Int} (hi : E[i]? = some (k, v, c)) (hj : E[j]? = some (k, v', c')) : i = j := by
  obtain ⟨h1, h2⟩ := List.getElem?_eq_some_iff.1 hi
  obtain ⟨h3, h4⟩ := List.getElem?_eq_some_iff.1 hj
  have e : (E.map (·.1))[i]'(by simpa using h1) = (E.map (·.1))[j]'(by simpa using h3) := by simp [h2, h4]
  exact (List.getElem_inj h).1 e
theorem first_above (cur : Int) : ∀ (E : List (Vl × Vl × Int)), (∀ (j : Nat) (k v : Vl) (c : Int), E[j]? = some (k, v, c) → c ≤ cur) ∨ ∃ (j : Nat) (k v : Vl) (c : Int), E[j]? = some (k, v, c) ∧ cur < c ∧ ∀ (i : Nat) (k' v' : Vl) (c' : Int), i < j → E[i]? = some (k', v', c') → c' ≤ cur
  | [] => Or.inl fun j k v c h => by simp at h
  | (k, v, c) :: E => by
    by_cases hc : cur < c
    · exact Or.inr ⟨0, k, v, c, rfl, hc, fun i _ _ _ hi _ => by omega⟩
    · rcases first_above cur E with h | ⟨j, k1, v1, c1, h1, h2, h3⟩
      · refine Or.inl fun j k' v' c' hj => ?_
        cases j with
        | zero => simp at hj; omega
        | succ j => exact h j k' v' c' (by simpa using hj)
      · refine Or.inr ⟨j + 1, k1, v1, c1, by simpa using h1, h2, fun i k' v' c' hi hij => ?_⟩
        cases i with
        | zero => simp at hij; omega
        | succ i => exact h3 i k' v' c' (by omega) (by simpa using hij)
theorem tel_start (E : List (Vl × Vl × Int)) (hp : ∀ (j : Nat) (k v : Vl) (c : Int), E[j]? = some (k, v, c) → 0 < c) : Tel (.map []) (.map []) E 0 := fun j k v c hj =>
  ⟨fun _ => hp j k v c hj, fun _ => Or.inl (inS_empty k)⟩
theorem tel_next {T Bn : DataW Unit} {E : List (Vl × Vl × Int)} {cur : Int} (h : Tel T Bn E cur) (hT : IsMap T) (hw : WfE E) (hnd : (E.map (·.1)).Nodup) (hr : ∀ (i j : Nat) (k v : Vl) (c : Int) (k' v' : Vl) (c' : Int), E[i]? = some (k, v, c) → E[j]? = some (k', v', c') → i < j → c < c')
    {j : Nat} {k v : Vl} {c : Int} (hj : E[j]? = some (k, v, c)) (hc : cur < c) (hb : ∀ (i : Nat) (k' v' : Vl) (c' : Int), i < j → E[i]? = some (k', v', c') → c' ≤ cur) :
    Tel (T.put (klit k) (.lit (.bool true))) (Bn.del (klit k)) E c := fun i k' v' c' hi => by
  rw [inS_put hT (hw j k v c hj) (hw i k' v' c' hi), inS_del (hw j k v c hj) (hw i k' v' c' hi)]
  by_cases e : k' = k
  · subst e
    obtain rfl := key_one hnd hi hj
    rw [hi] at hj; cases hj
    rw [if_pos rfl, if_pos rfl]
    refine ⟨fun h => ?_, fun h => by omega⟩
    rcases h with h | h
    · cases h
    · cases h
  · rw [if_neg e, if_neg e, h i k' v' c' hi]
    rcases Nat.lt_trichotomy i j with hij | hij | hij
    · have := hb i k' v' c' hij hi
      exact ⟨fun h => by omega, fun h => by omega⟩
    · subst hij; rw [hi] at hj; cases hj; exact absurd rfl e
    · have := hr j i _ _ _ _ _ _ hj hi hij
      exact ⟨fun h => by omega, fun h => by omega⟩
/-- Where no key is new, each that is there was. -/
theorem does_old {kd : Int} {k v : Vl} {E E' : List (Vl × Vl × Int)} {last last' : Int} (h : Does kd k v E last E' last') (hn : ¬ (kd = 0 ∧ k ≠ nul ∧ NoKey E k)) {j : Nat} {x y : Vl} {c : Int} (hj : E'[j]? = some (x, y, c)) : ∃ (i : Nat) (y' : Vl), E[i]? = some (x, y', c) := by
  cases h with
  | none _ _ => exact ⟨j, y, hj⟩
  | new h0 h1 h2 => exact absurd ⟨h0, h1, h2⟩ hn
  | @set i v0 c0 hi =>
    rw [List.getElem?_set] at hj
    split at hj
    · rename_i e
      subst e
      split at hj
      · cases hj; exact ⟨_, v0, hi⟩
      · cases hj
    · exact ⟨j, y, hj⟩
  | @del i v0 c0 hi =>
    rw [List.getElem?_eraseIdx] at hj
    split at hj
    · exact ⟨j, y, hj⟩
    · exact ⟨j + 1, y, hj⟩
  | clear _ => simp at hj
theorem does_new {kd : Int} {k v : Vl} {E E' : List (Vl × Vl × Int)} {last last' : Int} (h : Does kd k v E last E' last') (hn : kd = 0 ∧ k ≠ nul ∧ NoKey E k) : E' = E ++ [(k, v, last + 1)] ∧ last' = last + 1 := by
  have hno : ∀ (j : Nat) (v : Vl) (c : Int), E[j]? ≠ some (k, v, c) := by
    rcases hn.2.2 with h | h
    · exact absurd h hn.2.1
    · exact h
  cases h with
  | none h _ => exact absurd hn h
  | new _ _ _ => exact ⟨rfl, rfl⟩
  | set hj => exact absurd hj (hno _ _ _)
  | del hj => exact absurd hj (hno _ _ _)
  | clear h => exact absurd (h.symm.trans hn.1) (by decide)
theorem does_last {kd : Int} {k v : Vl} {E E' : List (Vl × Vl × Int)} {last last' : Int} (h : Does kd k v E last E' last') : last ≤ last' := by cases h <;> omega
theorem wf_does {kd : Int} {k v : Vl} {E E' : List (Vl × Vl × Int)} {last last' : Int} (h : Does kd k v E last E' last') (hw : WfE E) (hk : WfK k) : WfE E' := fun j x y c hj => by
  by_cases hn : kd = 0 ∧ k ≠ nul ∧ NoKey E k
  · obtain ⟨rfl, _⟩ := does_new h hn
    rw [List.getElem?_append] at hj
    split at hj
    · exact hw j x y c hj
    · have := List.mem_of_getElem? hj
      simp at this
      obtain ⟨rfl, _, _⟩ := this
      exact hk
  · obtain ⟨i, y', hi⟩ := does_old h hn hj
    exact hw i x y' c hi
theorem tel_old {T Bn : DataW Unit} {kd : Int} {k v : Vl} {E E' : List (Vl × Vl × Int)} {last last' cur : Int} (ht : Tel T Bn E cur) (h : Does kd k v E last E' last') (hn : ¬ (kd = 0 ∧ k ≠ nul ∧ NoKey E k)) : Tel T Bn E' cur := fun j x y c hj => by
  obtain ⟨i, y', hi⟩ := does_old h hn hj
  exact ht i x y' c hi
theorem tel_new {T Bn : DataW Unit} {kd : Int} {k v : Vl} {E E' : List (Vl × Vl × Int)} {last last' cur : Int} (ht : Tel T Bn E cur) (hB : IsMap Bn) (hw : WfE E) (hk : WfK k) (hc : cur ≤ last) (h : Does kd k v E last E' last') (hn : kd = 0 ∧ k ≠ nul ∧ NoKey E k) : Tel T (Bn.put (klit k) (.lit (.bool true))) E' cur := fun j x y c hj => by
  have hw' := wf_does h hw hk j x y c hj
  obtain ⟨rfl, _⟩ := does_new h hn
  rw [inS_put hB hk hw']
  rw [List.getElem?_append] at hj
  split at hj
  · have hne : x ≠ k := fun e => by
      subst e
      rcases hn.2.2 with h | h
      · exact hn.2.1 h
      · exact h j y c hj
    rw [if_neg hne]
    exact ht j x y c hj
  · have := List.mem_of_getElem? hj
    simp at this
    obtain ⟨rfl, rfl, rfl⟩ := this
    rw [if_pos rfl]
    exact ⟨fun _ => by omega, fun _ => Or.inr rfl⟩
/-- A sweep that takes no key away that is there. -/
theorem tel_same {T Bn Bn' : DataW Unit} {E : List (Vl × Vl × Int)} {cur : Int} (ht : Tel T Bn E cur) (h : ∀ (j : Nat) (k v : Vl) (c : Int), E[j]? = some (k, v, c) → inS Bn' k = inS Bn k) : Tel T Bn' E cur := fun j k v c hj => by
  rw [h j k v c hj]; exact ht j k v c hj

def SetW (w : World) (b n : Nat) (D : DataW Unit) : Prop := w.ownsMap Try.prog 30 (plainElem Try.prog 4) b n D
theorem setW_fr {w w' : World} {b n : Nat} {D : DataW Unit} (h : SetW w b n D) (hf : FrT w w') : SetW w' b n D := by
  obtain ⟨es, clock, hb, F, hs, hD⟩ := h
  exact ⟨es, clock, hf.block _ _ hb (fun cur t fr e => by cases e), F, hs, hD⟩
theorem setW_obj {w : World} {b n : Nat} {D : DataW Unit} (h : SetW w b n D) : ∃ o : Obj, w.heap[b]? = some o ∧ o.isCells = false := by
  obtain ⟨es, clock, hb, F, hs, hD⟩ := h
  exact ⟨_, hb, rfl⟩
theorem ownM_grown {B' B cap : Nat} {ad : Option Addr} {w w' : World} {L : List (Vl × Vl)} {row : Option Nat} (h : OwnM B ad cap w L) (hg : w.grownBy w' row) (hr : ∀ r, row = some r → B' ≤ r ∧ ∃ o : Obj, w.heap[r]? = some o ∧ o.isCells = false) : OwnM B ad cap w' L := by
  refine ⟨h.1, ?_⟩
  rcases h.2 with h1 | ⟨g, c, cur, hv, hb, hgb, rest⟩
  · exact Or.inl h1
  · exact Or.inr ⟨g, c, cur, hv, hb, grown_cells hg hr hgb, rest⟩
/-- What stands: the table, the model, what is told, what came anew. -/
structure CM (B bt bb b sz us : Nat) (E : List (Vl × Vl × Int)) (last : Int) (am : Option Addr) (cm : Nat) (T Bn : DataW Unit) (n : Nat) (w0 w : World) : Prop where
  t : IsTab B b w E last sz us
  m : OwnM B am cm w (prs E)
  tt : SetW w bt n T
  bn : SetW w bb n Bn
  z : Below w0.heap.size w0 w
  hB : B ≤ w.heap.size
  low : w0.heap.size ≤ B ∧ w0.heap.size ≤ bt ∧ w0.heap.size ≤ bb ∧ bt ≠ bb
theorem cm_st {B bt bb b sz us cm sz' us' cm' n : Nat} {E E' : List (Vl × Vl × Int)} {last last' : Int} {am am' : Option Addr} {T Bn : DataW Unit} {w0 w w' : World} (h : CM B bt bb b sz us E last am cm T Bn n w0 w) (hst : St B w w') (ht : IsTab B b w' E' last' sz' us') (hm : OwnM B am' cm' w' (prs E')) : CM B bt bb b sz' us' E' last' am' cm' T Bn n w0 w' :=
  ⟨ht, hm, setW_fr h.tt hst.f, setW_fr h.bn hst.f, h.z.trans (hst.b.mono h.low.1), Nat.le_trans h.hB hst.f.size, h.low⟩
theorem cm_next {B bt bb b sz us cm n : Nat} {E : List (Vl × Vl × Int)} {last : Int} {am : Option Addr} {T Bn : DataW Unit} {w0 w w' : World} (h : CM B bt bb b sz us E last am cm T Bn n w0 w) (hst : St B w w') (ht : IsTab B b w' E last sz us) : CM B bt bb b sz us E last am cm T Bn n w0 w' := cm_st h hst ht (ownM_fr h.m hst.f)
theorem cm_below {B bt bb b sz us cm n : Nat} {E : List (Vl × Vl × Int)} {last : Int} {am : Option Addr} {T Bn : DataW Unit} {w0 w w' : World} (h : CM B bt bb b sz us E last am cm T Bn n w0 w) (hb : Below w.heap.size w w') : CM B bt bb b sz us E last am cm T Bn n w0 w' := cm_next h (st_below hb h.hB) (isTab_below h.t hb)
/-- One of the two maps turns. -/
theorem cm_told {B bt bb b sz us cm n n' : Nat} {E : List (Vl × Vl × Int)} {last : Int} {am : Option Addr} {T T' Bn : DataW Unit} {w0 w w' : World} (h : CM B bt bb b sz us E last am cm T Bn n w0 w) (hg : w.grownBy w' (some bt)) (hT : SetW w' bt n' T') (hn : n ≤ n') : CM B bt bb b sz us E last am cm T' Bn n' w0 w' := by
  have hr : ∀ r, some bt = some r → 0 ≤ r ∧ ∃ o : Obj, w.heap[r]? = some o ∧ o.isCells = false := fun r e => by cases e; exact ⟨Nat.zero_le _, setW_obj h.tt⟩
  exact ⟨isTab_grown h.t hg hr, ownM_grown h.m hg hr, hT, (World.ownsMap.kept h.bn hg (fun e => h.low.2.2.2 (by cases e; rfl))).mono hn, h.z.grown hg h.z.size (fun k e => by cases e; exact h.low.2.1), Nat.le_trans h.hB hg.size, h.low⟩
theorem cm_born {B bt bb b sz us cm n n' : Nat} {E : List (Vl × Vl × Int)} {last : Int} {am : Option Addr} {T Bn Bn' : DataW Unit} {w0 w w' : World} (h : CM B bt bb b sz us E last am cm T Bn n w0 w) (hg : w.grownBy w' (some bb)) (hT : SetW w' bb n' Bn') (hn : n ≤ n') : CM B bt bb b sz us E last am cm T Bn' n' w0 w' := by
  have hr : ∀ r, some bb = some r → 0 ≤ r ∧ ∃ o : Obj, w.heap[r]? = some o ∧ o.isCells = false := fun r e => by cases e; exact ⟨Nat.zero_le _, setW_obj h.bn⟩
  exact ⟨isTab_grown h.t hg hr, ownM_grown h.m hg hr, (World.ownsMap.kept h.tt hg (fun e => h.low.2.2.2 (by cases e; rfl))).mono hn, hT, h.z.grown hg h.z.size (fun k e => by cases e; exact h.low.2.2.1), Nat.le_trans h.hB hg.size, h.low⟩
theorem turned_grown {w w' : World} {b : Nat} (h : w.mapTurned w' b) : w.grownBy w' (some b) := h.grown

theorem isTab_cur {B b sz us : Nat} {w : World} {E : List (Vl × Vl × Int)} {last : Int} (h : IsTab B b w E last sz us) {j : Nat} {k v : Vl} {c : Int} (hj : E[j]? = some (k, v, c)) : 0 < c ∧ c ≤ last := by
  obtain ⟨ar, cr, ap, cp, R, P, n, hT, rfl, _, _⟩ := h
  obtain ⟨i, r, hi, _, _, rfl, _, _⟩ := ents_row hj
  exact hT.g.cur i r hi
theorem cm_mono {B bt bb b sz us cm n n' : Nat} {E : List (Vl × Vl × Int)} {last : Int} {am : Option Addr} {T Bn : DataW Unit} {w0 w : World} (h : CM B bt bb b sz us E last am cm T Bn n w0 w) (hn : n ≤ n') : CM B bt bb b sz us E last am cm T Bn n' w0 w :=
  ⟨h.t, h.m, World.ownsMap.mono h.tt hn, World.ownsMap.mono h.bn hn, h.z, h.hB, h.low⟩
def WfL (L : List (Int × Vl × Vl)) : Prop := ∀ (i : Nat) (kd : Int) (k v : Vl), L[i]? = some (kd, k, v) → (Lit.int .i64 k.2.1).wf = true
theorem cm_iter {B bt bb b sz us cm n : Nat} {E : List (Vl × Vl × Int)} {last : Int} {am : Option Addr} {T Bn : DataW Unit} {w0 w w' : World} {row : Option Nat} (h : CM B bt bb b sz us E last am cm T Bn n w0 w) (hg : w.grownBy w' row) (hr : ∀ r, row = some r → (w0.heap.size ≤ r ∧ r ≠ bt ∧ r ≠ bb) ∧ ∃ o : Obj, w.heap[r]? = some o ∧ o.isCells = false) : CM B bt bb b sz us E last am cm T Bn n w0 w' := by
  have hr' : ∀ r, row = some r → 0 ≤ r ∧ ∃ o : Obj, w.heap[r]? = some o ∧ o.isCells = false := fun r e => ⟨Nat.zero_le _, (hr r e).2⟩
  exact ⟨isTab_grown h.t hg hr', ownM_grown h.m hg hr', World.ownsMap.kept h.tt hg (fun e => (hr _ e.symm).1.2.1 rfl), World.ownsMap.kept h.bn hg (fun e => (hr _ e.symm).1.2.2 rfl), h.z.grown hg h.z.size (fun k e => (hr k e).1.1), Nat.le_trans h.hB hg.size, h.low⟩
theorem grown_below {w w' : World} (h : Below w.heap.size w w') : w.grownBy w' none := ⟨h.os, h.tape, h.output, h.size, fun k hk _ => h.block k hk⟩
/-- A range over what came anew, under way. -/
def RgW (w : World) (b r n : Nat) (D : DataW Unit) (left : Lit → Bool) (cnt : Nat) : Prop := w.ranges Try.prog 30 (plainElem Try.prog 4) b r n D left cnt
theorem rgW_obj {w : World} {b r n : Nat} {D : DataW Unit} {left : Lit → Bool} {cnt : Nat} (h : RgW w b r n D left cnt) : ∃ o : Obj, w.heap[r]? = some o ∧ o.isCells = false := by
  obtain ⟨es, clock, since, seen, c0, hb, _, _, _, hr, _⟩ := h
  exact ⟨_, hr, rfl⟩
theorem rgW_below {w w' : World} {b r n : Nat} {D : DataW Unit} {left : Lit → Bool} {cnt : Nat} (h : RgW w b r n D left cnt) (hb : Below w.heap.size w w') : RgW w' b r n D left cnt := World.ranges.kept h (grown_below hb) (by simp) (by simp)
/-- A key that isn't there goes. -/
theorem tel_sweep {T Bn : DataW Unit} {E : List (Vl × Vl × Int)} {cur : Int} {k : Vl} (ht : Tel T Bn E cur) (hw : WfE E) (hk : WfK k) (hno : ∀ (j : Nat) (v : Vl) (c : Int), E[j]? ≠ some (k, v, c)) : Tel T (Bn.del (klit k)) E cur :=
  tel_same ht fun j x v c hj => by
    have hne : x ≠ k := fun e => by subst e; exact hno j v c hj
    rw [inS_del hk (hw j x v c hj), if_neg hne]
/-- A step of such a range has told a key. -/
structure Told (w : World) (b r n : Nat) (D : DataW Unit) (cnt : Nat) where
  k : Vl
  c : Bool
  x : World
  left : Lit → Bool
  m : Nat
  wf : WfK k
  rg : RgW x b r n D left m
  lt : m < cnt
  gr : w.grownBy x (some r)
  sz : x.heap.size = w.heap.size
  en : (Instr.entry (.pointer (some ⟨r, 0, none⟩))).run Try.prog x = .ok (.tuple #[.agg #[.int .i64 k.1, .int .i64 k.2.1, .string k.2.2], .bool c]) x
theorem next_set {w : World} {ops : Array Oper} {rest : List Oper} {o : Oper} {a : Act} {Q : Exit → Act → World → Prop} (hg : o.guard = none) (it : Operand) (hop : o.op = Op.next it false) {b r n : Nat} {D : DataW Unit} {left : Lit → Bool} {cnt : Nat}
    (hit : a.eval it = .pointer (some ⟨r, 0, none⟩)) (h : RgW w b r n D left cnt) (hDone : wpList Try.prog ops Q rest (a.put o.dst (.tuple #[.bool false])) w)
    (hMore : ∀ s : Told w b r n D cnt, wpList Try.prog ops Q rest (a.put o.dst (.tuple #[.bool true, .agg #[.int .i64 s.k.1, .int .i64 s.k.2.1, .string s.k.2.2], .bool s.c])) s.x) :
    wpList Try.prog ops Q (o :: rest) a w := by
  refine wpList_next_ranges w hg it hop 30 lawK (plainElem Try.prog 4) agV Value.bool (fun key kl h => by obtain ⟨k, rfl, _⟩ := key_inv h; exact ⟨k, rfl⟩) (fun v z h => by obtain ⟨c, rfl, _⟩ := plain_bool_inv h; exact ⟨c, rfl⟩) _ _ _ _ _ _ hit h (fun _ _ => hDone) ?_
  intro kx cx kl yx wB cnt1 hkey hlk hv hat hrg1 hlt1 hg1 hs1 hen
  obtain ⟨k', he, hwk⟩ := key_inv hkey
  obtain rfl := agV_inj he
  exact hMore ⟨kx, cx, wB, _, cnt1, hwk, hrg1, hlt1, hg1, hs1, hen⟩
end Go.Proofs.Ytipdjjgpcmbpdaa.Ta
