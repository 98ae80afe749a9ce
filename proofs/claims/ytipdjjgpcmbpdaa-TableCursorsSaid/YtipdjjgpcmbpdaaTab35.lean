/- Sets of keys, as maps. -/
import Derived.Test.YtipdjjgpcmbpdaaTab30
import Derived.Maps.RangeWalk
import Derived.Maps.OwnSet
import Derived.DeepKeys4
set_option linter.unusedVariables false
namespace Go.Proofs.Ytipdjjgpcmbpdaa.Ta
open Go.RowKit Go.ChangeShapes Go.WideShapes Go.ChangeAt Go.Proofs.Ytipdjjgpcmbpdaa.Va Go.Maps Go.WideMaps

set_option maxRecDepth 100000 in
theorem A.laidK : laidOutB Try.prog = true := by kernel_rfl
set_option maxRecDepth 100000 in
theorem A.rowK : (30 : TypeId) < Try.prog.types.size := of_decide_eq_true (by kernel_rfl)
set_option maxRecDepth 100000 in
theorem A.wideK : (match Try.prog.underlying 30 with | some (.array _ _) | some (.struct _) => true | _ => false) = true := by rw [Try.underlying30]
set_option maxRecDepth 100000 in
theorem A.typeK : Try.prog.keyType 30 = true := by kernel_rfl
set_option maxRecDepth 100000 in
theorem A.cellsK : Try.prog.cellsOf 30 = 3 := by kernel_rfl
set_option maxRecDepth 100000 in
theorem A.cellI : Try.prog.cellsOf 3 = 1 := by kernel_rfl
set_option maxRecDepth 100000 in
theorem A.cellL : Try.prog.cellsOf 2 = 1 := by kernel_rfl
set_option maxRecDepth 100000 in
theorem A.cellS : Try.prog.cellsOf 9 = 1 := by kernel_rfl
set_option maxRecDepth 100000 in
theorem lawK : Keyed Try.prog 30 := Keyed.of_law (deep_law_laid A.laidK (m := 2) (by omega) A.rowK (by kernel_rfl) A.wideK)
set_option maxRecDepth 100000 in
theorem zeroB (w : World) : (zeroValue 4).run Try.prog w = .ok (.bool false) w := by kernel_rfl
def agV (k : Vl) : Value := .agg #[.int .i64 k.1, .int .i64 k.2.1, .string k.2.2]
/-- May a key be one of a map? -/
def WfK (k : Vl) : Prop := (Lit.int .i64 k.1).wf = true ∧ (Lit.int .i64 k.2.1).wf = true ∧ k.2.2.size ≤ maxLen
set_option maxRecDepth 100000 in
theorem key_of {k : Vl} (h : WfK k) : ∃ l, keyOf Try.prog 30 (agV k) = some l := by
  obtain ⟨h1, h2, h3⟩ := h
  have hf : (agV k).formed Try.prog 30 = true := by unfold agV; simp [Value.formed, Try.underlying30, A.cellsK]
  have e1 : keyOf Try.prog 30 (agV k) = (Try.prog.keyLits (Try.prog.types.size + 1) 30 (agV k).cells.toList).map fun ls => .string (keyBytes ls) := by
    unfold keyOf
    rw [Try.underlying30]
    simp [A.typeK, hf]
  obtain ⟨d, hd⟩ : ∃ d, Try.prog.types.size = d + 1 := ⟨_, (Nat.succ_pred_eq_of_pos (Nat.lt_of_le_of_lt (Nat.zero_le _) A.rowK)).symm⟩
  rw [e1, hd]
  unfold agV
  simp [Program.keyLits, Try.underlying30, A.cellsK, Value.cells, A.cellI, A.cellL, A.cellS, Try.underlying3, Try.underlying2, Try.underlying9, h1, h2, h3]
/-- What a key reads as. -/
noncomputable def klit (k : Vl) : Lit := (keyOf Try.prog 30 (agV k)).getD (.bool false)
set_option maxRecDepth 100000 in
theorem klit_of {k : Vl} (h : WfK k) : keyOf Try.prog 30 (agV k) = some (klit k) := by
  obtain ⟨l, hl⟩ := key_of h
  unfold klit; rw [hl]; rfl
set_option maxRecDepth 100000 in
theorem agV_inj {a b : Vl} (h : agV a = agV b) : a = b := by
  unfold agV at h
  simp only [Value.agg.injEq, Array.mk.injEq, List.cons.injEq, Value.int.injEq, Value.string.injEq, true_and, and_true] at h
  obtain ⟨h1, h2, h3⟩ := h
  exact Prod.ext h1 (Prod.ext h2 h3)
set_option maxRecDepth 100000 in
theorem klit_ne {a b : Vl} (ha : WfK a) (hb : WfK b) (h : a ≠ b) : klit a ≠ klit b := fun e =>
  h (agV_inj (lawK.inj (klit_of ha) (by rw [e]; exact klit_of hb)))
set_option maxRecDepth 100000 in
theorem key_inv {v : Value} {l : Lit} (h : keyOf Try.prog 30 v = some l) : ∃ k, v = agV k ∧ WfK k := by
  unfold keyOf at h
  rw [Try.underlying30] at h
  simp only [A.typeK, Bool.true_and] at h
  split at h
  · rename_i hf
    obtain ⟨d, hd⟩ : ∃ d, Try.prog.types.size = d + 1 := ⟨_, (Nat.succ_pred_eq_of_pos (Nat.lt_of_le_of_lt (Nat.zero_le _) A.rowK)).symm⟩
    rw [hd] at h
    cases v <;> simp [Value.formed, Try.underlying30] at hf
    rename_i cs
    rw [A.cellsK] at hf
    obtain ⟨l, rfl⟩ : ∃ l : List Value, cs = l.toArray := ⟨cs.toList, by simp⟩
    match l, hf with
    | [a, b, c], _ =>
      simp [Program.keyLits, Try.underlying30, A.cellsK, Value.cells, A.cellI, A.cellL, A.cellS] at h
      cases a <;> simp at h
      split at h
      · rename_i h1
        obtain ⟨rfl, w1⟩ := h1
        simp only [Option.bind_some, Function.comp_apply] at h
        cases b <;> simp at h
        split at h
        · rename_i h2
          obtain ⟨rfl, w2⟩ := h2
          simp only [Option.bind_some] at h
          cases c <;> simp at h
          split at h
          · rename_i h3
            exact ⟨(_, _, _), rfl, w1, w2, h3⟩
          · simp at h
        · simp at h
      · simp at h
  · cases h
/-- The set that a map of bools is. -/
noncomputable def inS (D : DataW Unit) (k : Vl) : Bool := match D.atKey (klit k) (.lit (.bool false)) with | .lit (.bool b) => b | _ => false
set_option maxRecDepth 100000 in
theorem inS_put {D : DataW Unit} (hD : IsMap D) {k x : Vl} (hk : WfK k) (hx : WfK x) : inS (D.put (klit k) (.lit (.bool true))) x = if x = k then true else inS D x := by
  unfold inS
  by_cases e : x = k
  · subst e
    rw [if_pos rfl, atKey_put_same hD (lawK.key (klit_of hk))]
  · rw [if_neg e, atKey_put_other (klit_ne hx hk e)]
set_option maxRecDepth 100000 in
theorem inS_del {D : DataW Unit} {k x : Vl} (hk : WfK k) (hx : WfK x) : inS (D.del (klit k)) x = if x = k then false else inS D x := by
  unfold inS
  by_cases e : x = k
  · subst e
    rw [if_pos rfl, atKey_del_same]
  · rw [if_neg e, atKey_del_other (klit_ne hx hk e)]
set_option maxRecDepth 100000 in
theorem inS_empty (x : Vl) : inS (.map []) x = false := rfl
set_option maxRecDepth 100000 in
theorem plain_bool_inv {v : Value} {z : DataW Unit × List MemPlace} (h : plainElem Try.prog 4 v = some z) : ∃ b, v = .bool b ∧ z = (.lit (.bool b), []) := by
  unfold plainElem at h
  rw [Try.underlying4] at h
  cases v <;> simp at h
  exact ⟨_, rfl, h.symm⟩
set_option maxRecDepth 100000 in
theorem look_in {w : World} {b n : Nat} {D : DataW Unit} (h : w.ownsMap Try.prog 30 (plainElem Try.prog 4) b n D) {k : Vl} (hk : WfK k) :
    (Instr.lookup 39 (.map (some b)) (agV k) false).run Try.prog w = .ok (.bool (inS D k)) w := by
  obtain ⟨v, ps, hr, hv⟩ := h.lookup lawK Try.underlying39 (zeroB w) (plainElem_bool Try.underlying4 false) (klit_of hk)
  obtain ⟨c, rfl, hc⟩ := plain_bool_inv hv
  rw [hr]
  have e : D.atKey (klit k) (.lit (.bool false)) = .lit (.bool c) := (Prod.mk.inj hc).1
  unfold inS
  rw [e]
end Go.Proofs.Ytipdjjgpcmbpdaa.Ta
