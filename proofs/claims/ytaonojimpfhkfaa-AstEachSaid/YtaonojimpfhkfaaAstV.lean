/- One field of one node is stored. -/
import Derived.Test.YtaonojimpfhkfaaAstT
import Derived.Test.YtaonojimpfhkfaaAstU
namespace Go.Proofs.Ytaonojimpfhkfaa.As
open Go.RowKit Go.ChangeShapes Go.WideShapes Go.ChangeAt

theorem flatN_setk : ∀ (L : List Nd) (k q : Nat) (n n' : Nd) (v : Value), L[k]? = some n → q < 5 → celN n' = (celN n).set q v → (flatN L).set (k * 5 + q) v = flatN (L.set k n')
  | [], k, q, n, n', v, h, _, _ => by simp at h
  | m :: L, 0, q, n, n', v, h, hq, hc => by
    obtain rfl : m = n := by simpa using h
    rw [Nat.zero_mul, Nat.zero_add, flatN_cons, List.set_cons_zero, flatN_cons, hc, List.set_append_left _ _ (by simpa [celN] using hq)]
  | m :: L, k + 1, q, n, n', v, h, hq, hc => by
    have ih := flatN_setk L k q n n' v (by simpa using h) hq hc
    rw [flatN_cons, List.set_cons_succ, flatN_cons, ← ih, show (k + 1) * 5 + q = (k * 5 + q) + 5 by omega, List.set_append_right _ _ (by simp [celN])]
    simp [celN]
theorem OwT.setk {lo g c : Nat} {w : World} {L : List Nd} (h : OwT lo (some ⟨g, 0, none⟩) c w L) {k q : Nat} {n n' : Nd} {v : Value} (hn : L[k]? = some n) (hq : q < 5) (hc : celN n' = (celN n).set q v) (hk : n'.kids = n.kids ∧ n'.ka = n.ka ∧ n'.kc = n.kc) :
    OwT lo (some ⟨g, 0, none⟩) c (w.setCell ⟨g, k * 5 + q, none⟩ v) (L.set k n') := by
  have hnb := (ownN_facts h.n hn).2.2.1
  have h1 := (World.ownsRow.stored h.n (k * 5 + q) v).1
  rw [flatN_setk L k q n n' v hn hq hc] at h1
  refine ⟨by unfold OwN; rw [List.length_set]; exact h1, fun p hp => ?_⟩
  rcases List.mem_or_eq_of_mem_set hp with hp | rfl
  · exact own_setN (h.k p hp) hnb
  · have := h.k n (List.mem_of_getElem? hn)
    unfold OwI at this ⊢
    rw [hk.1, hk.2.1, hk.2.2]
    exact own_setN this hnb
theorem Alk.sim {L M : List Nd} (h : Alk L M) : Sim L M := by
  refine ⟨h.1, fun j n hn => ?_⟩
  obtain ⟨a, c, hm⟩ := h.2 j n hn
  exact ⟨_, hm, rfl, rfl, rfl, rfl⟩
theorem Sim.setloc {L U : List Nd} (h : Sim L U) {k : Nat} {n : Nd} (hn : U[k]? = some n) (v : Int) : Sim L (U.set k { n with loc := v }) := by
  refine ⟨by rw [List.length_set]; exact h.1, fun j p hp => ?_⟩
  obtain ⟨m, hm, e⟩ := h.2 j p hp
  by_cases hjk : k = j
  · subst hjk
    rw [hn, Option.some.injEq] at hm
    subst hm
    exact ⟨_, List.getElem?_set_self (get_lt hn), e⟩
  · exact ⟨m, by rw [List.getElem?_set_ne hjk]; exact hm, e⟩
theorem field0 (c a : Int) : ∀ W, (Instr.field 31 (.agg #[.int .i64 c, .int .i64 a]) 0).run Try.prog W = .ok (.int .i64 c) W := by
  intro W
  rfl
/-- The nodes stand where they stand. -/
structure Mov (lo bt bu : Nat) (A : Option Addr) (cap g c : Nat) (W wr : World) (L U : List Nd) (k : Nat) : Prop where
  o : OwT lo (some ⟨g, 0, none⟩) c wr U
  s : Sim L U
  l : ∀ (j : Nat) (n : Nd), j < k → U[j]? = some n → n.loc = (j : Int)
  t : wr.heap[bt]? = some (.cells #[.slice A L.length cap] 24 (0, 0))
  u : wr.heap[bu]? = some (.cells #[.slice (some ⟨g, 0, none⟩) L.length c] 24 (0, 0))
  z : Below W.heap.size W wr
  q : W.heap.size ≤ lo
end Go.Proofs.Ytaonojimpfhkfaa.As
