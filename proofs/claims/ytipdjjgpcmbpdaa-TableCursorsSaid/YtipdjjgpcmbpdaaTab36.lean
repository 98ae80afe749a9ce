/- What is told, and what came anew: of keys. -/
import Derived.Test.YtipdjjgpcmbpdaaTab35
import Derived.Test.YtipdjjgpcmbpdaaTab31
set_option linter.unusedVariables false
namespace Go.Proofs.Ytipdjjgpcmbpdaa.Ta
open Go.RowKit Go.ChangeShapes Go.WideShapes Go.ChangeAt Go.Proofs.Ytipdjjgpcmbpdaa.Va Go.Maps Go.WideMaps

/-- A key isn't told, or came anew, just if it stands behind the cursor. -/
def Tel (T Bn : DataW Unit) (E : List (Vl × Vl × Int)) (cur : Int) : Prop := ∀ (j : Nat) (k v : Vl) (c : Int), E[j]? = some (k, v, c) → ((inS T k = false ∨ inS Bn k = true) ↔ cur < c)
def WfE (E : List (Vl × Vl × Int)) : Prop := ∀ (j : Nat) (k v : Vl) (c : Int), E[j]? = some (k, v, c) → WfK k
theorem wf_small {n : Int} (h0 : 0 ≤ n) (h4 : n ≤ 4) : (Lit.int .i64 n).wf = true := by
  have : n = 0 ∨ n = 1 ∨ n = 2 ∨ n = 3 ∨ n = 4 := by omega
  rcases this with rfl | rfl | rfl | rfl | rfl <;> decide
theorem wf_ok {k v : Vl} (h : Ok1 k v) (hn : (Lit.int .i64 k.2.1).wf = true) : WfK k := ⟨wf_small h.1.1 h.1.2.1, hn, by have := h.2.2; unfold maxLen; omega⟩
theorem isTab_nodup {B b sz us : Nat} {w : World} {E : List (Vl × Vl × Int)} {last : Int} (h : IsTab B b w E last sz us) : (E.map (·.1)).Nodup := by
  obtain ⟨ar, cr, ap, cp, R, P, n, hT, rfl, _, _⟩ := h
  exact ents_nodup hT.g
theorem key_one {E : List (Vl × Vl × Int)} (h : (E.map (·.1)).Nodup) {i j : Nat} {k v v' : Vl} {c c' : Int} (hi : E[i]? = some (k, v, c)) (hj : E[j]? = some (k, v', c')) : i = j := by
  obtain ⟨h1, h2⟩ := List.getElem?_eq_some_iff.1 hi
  obtain ⟨h3, h4⟩ := List.getElem?_eq_some_iff.1 hj
  have e : (E.map (·.1))[i]'(by simpa using h1) = (E.map (·.1))[j]'(by simpa using h3) := by simp [h2, h4]
  exact (List.getElem_inj h).1 e
theorem first_above (cur : Int) : ∀ (E : List (Vl × Vl × Int)), (∀ (j : Nat) (k v : Vl) (c : Int), E[j]? = some (k, v, c) → c ≤ cur) ∨ ∃ (j : Nat) (k v : Vl) (c : Int), E[j]? = some (k, v, c) ∧ cur < c ∧ ∀ (i : Nat) (k' v' : Vl) (c' : Int), i < j → E[i]? = some (k', v', c') → c' ≤ cur
  | [] => Or.inl fun j k v c h => by simp at h
  | (k, v, c) :: E => by
    by_cases hc : cur < c
    · exact Or.inr ⟨0, k, v, c, rfl, hc, fun i _ _ _ hi _ => by omega⟩
    · rcases first_above cur E with h | ⟨j, k1, v1, c1, h1, h2, h3⟩
      · refine Or.inl fun j k' v' c' hj => ?_
        cases j with
        | zero => simp at hj; omega
        | succ j => exact h j k' v' c' (by simpa using hj)
      · refine Or.inr ⟨j + 1, k1, v1, c1, by simpa using h1, h2, fun i k' v' c' hi hij => ?_⟩
        cases i with
        | zero => simp at hij; omega
        | succ i => exact h3 i k' v' c' (by omega) (by simpa using hij)
theorem tel_start (E : List (Vl × Vl × Int)) (hp : ∀ (j : Nat) (k v : Vl) (c : Int), E[j]? = some (k, v, c) → 0 < c) : Tel (.map []) (.map []) E 0 := fun j k v c hj =>
  ⟨fun _ => hp j k v c hj, fun _ => Or.inl (inS_empty k)⟩
theorem tel_next {T Bn : DataW Unit} {E : List (Vl × Vl × Int)} {cur : Int} (h : Tel T Bn E cur) (hT : IsMap T) (hw : WfE E) (hnd : (E.map (·.1)).Nodup) (hr : ∀ (i j : Nat) (k v : Vl) (c : Int) (k' v' : Vl) (c' : Int), E[i]? = some (k, v, c) → E[j]? = some (k', v', c') → i < j → c < c')
    {j : Nat} {k v : Vl} {c : Int} (hj : E[j]? = some (k, v, c)) (hc : cur < c) (hb : ∀ (i : Nat) (k' v' : Vl) (c' : Int), i < j → E[i]? = some (k', v', c') → c' ≤ cur) :
    Tel (T.put (klit k) (.lit (.bool true))) (Bn.del (klit k)) E c := fun i k' v' c' hi => by
  rw [inS_put hT (hw j k v c hj) (hw i k' v' c' hi), inS_del (hw j k v c hj) (hw i k' v' c' hi)]
  by_cases e : k' = k
  · subst e
    obtain rfl := key_one hnd hi hj
    rw [hi] at hj; cases hj
    rw [if_pos rfl, if_pos rfl]
    refine ⟨fun h => ?_, fun h => by omega⟩
    rcases h with h | h
    · cases h
    · cases h
  · rw [if_neg e, if_neg e, h i k' v' c' hi]
    rcases Nat.lt_trichotomy i j with hij | hij | hij
    · have := hb i k' v' c' hij hi
      exact ⟨fun h => by omega, fun h => by omega⟩
    · subst hij; rw [hi] at hj; cases hj; exact absurd rfl e
    · have := hr j i _ _ _ _ _ _ hj hi hij
      exact ⟨fun h => by omega, fun h => by omega⟩
/-- Where no key is new, each that is there was. -/
theorem does_old {kd : Int} {k v : Vl} {E E' : List (Vl × Vl × Int)} {last last' : Int} (h : Does kd k v E last E' last') (hn : ¬ (kd = 0 ∧ k ≠ nul ∧ NoKey E k)) {j : Nat} {x y : Vl} {c : Int} (hj : E'[j]? = some (x, y, c)) : ∃ (i : Nat) (y' : Vl), E[i]? = some (x, y', c) := by
  cases h with
  | none _ _ => exact ⟨j, y, hj⟩
  | new h0 h1 h2 => exact absurd ⟨h0, h1, h2⟩ hn
  | @set i v0 c0 hi =>
    rw [List.getElem?_set] at hj
    split at hj
    · rename_i e
      subst e
      split at hj
      · cases hj; exact ⟨_, v0, hi⟩
      · cases hj
    · exact ⟨j, y, hj⟩
  | @del i v0 c0 hi =>
    rw [List.getElem?_eraseIdx] at hj
    split at hj
    · exact ⟨j, y, hj⟩
    · exact ⟨j + 1, y, hj⟩
  | clear _ => simp at hj
theorem does_new {kd : Int} {k v : Vl} {E E' : List (Vl × Vl × Int)} {last last' : Int} (h : Does kd k v E last E' last') (hn : kd = 0 ∧ k ≠ nul ∧ NoKey E k) : E' = E ++ [(k, v, last + 1)] ∧ last' = last + 1 := by
  have hno : ∀ (j : Nat) (v : Vl) (c : Int), E[j]? ≠ some (k, v, c) := by
    rcases hn.2.2 with h | h
    · exact absurd h hn.2.1
    · exact h
  cases h with
  | none h _ => exact absurd hn h
  | new _ _ _ => exact ⟨rfl, rfl⟩
  | set hj => exact absurd hj (hno _ _ _)
  | del hj => exact absurd hj (hno _ _ _)
  | clear h => exact absurd (h.symm.trans hn.1) (by decide)
theorem does_last {kd : Int} {k v : Vl} {E E' : List (Vl × Vl × Int)} {last last' : Int} (h : Does kd k v E last E' last') : last ≤ last' := by cases h <;> omega
theorem wf_does {kd : Int} {k v : Vl} {E E' : List (Vl × Vl × Int)} {last last' : Int} (h : Does kd k v E last E' last') (hw : WfE E) (hk : WfK k) : WfE E' := fun j x y c hj => by
  by_cases hn : kd = 0 ∧ k ≠ nul ∧ NoKey E k
  · obtain ⟨rfl, _⟩ := does_new h hn
    rw [List.getElem?_append] at hj
    split at hj
    · exact hw j x y c hj
    · have := List.mem_of_getElem? hj
      simp at this
      obtain ⟨rfl, _, _⟩ := this
      exact hk
  · obtain ⟨i, y', hi⟩ := does_old h hn hj
    exact hw i x y' c hi
theorem tel_old {T Bn : DataW Unit} {kd : Int} {k v : Vl} {E E' : List (Vl × Vl × Int)} {last last' cur : Int} (ht : Tel T Bn E cur) (h : Does kd k v E last E' last') (hn : ¬ (kd = 0 ∧ k ≠ nul ∧ NoKey E k)) : Tel T Bn E' cur := fun j x y c hj => by
  obtain ⟨i, y', hi⟩ := does_old h hn hj
  exact ht i x y' c hi
theorem tel_new {T Bn : DataW Unit} {kd : Int} {k v : Vl} {E E' : List (Vl × Vl × Int)} {last last' cur : Int} (ht : Tel T Bn E cur) (hB : IsMap Bn) (hw : WfE E) (hk : WfK k) (hc : cur ≤ last) (h : Does kd k v E last E' last') (hn : kd = 0 ∧ k ≠ nul ∧ NoKey E k) : Tel T (Bn.put (klit k) (.lit (.bool true))) E' cur := fun j x y c hj => by
  have hw' := wf_does h hw hk j x y c hj
  obtain ⟨rfl, _⟩ := does_new h hn
  rw [inS_put hB hk hw']
  rw [List.getElem?_append] at hj
  split at hj
  · have hne : x ≠ k := fun e => by
      subst e
      rcases hn.2.2 with h | h
      · exact hn.2.1 h
      · exact h j y c hj
    rw [if_neg hne]
    exact ht j x y c hj
  · have := List.mem_of_getElem? hj
    simp at this
    obtain ⟨rfl, rfl, rfl⟩ := this
    rw [if_pos rfl]
    exact ⟨fun _ => by omega, fun _ => Or.inr rfl⟩
/-- A sweep that takes no key away that is there. -/
theorem tel_same {T Bn Bn' : DataW Unit} {E : List (Vl × Vl × Int)} {cur : Int} (ht : Tel T Bn E cur) (h : ∀ (j : Nat) (k v : Vl) (c : Int), E[j]? = some (k, v, c) → inS Bn' k = inS Bn k) : Tel T Bn' E cur := fun j k v c hj => by
  rw [h j k v c hj]; exact ht j k v c hj
end Go.Proofs.Ytipdjjgpcmbpdaa.Ta
