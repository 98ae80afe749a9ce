/- 'ListFinds': the walk. -/
import Derived.Test.YtipdjjgpcmbpdaaList8
namespace Go.Proofs.Ytipdjjgpcmbpdaa.Li
open Go.RowKit Go.ChangeShapes Go.WideShapes Go.ChangeAt Go.Proofs.Ytipdjjgpcmbpdaa.Va

/-- The values of a slice that came in. -/
def In (ad : Option Addr) (w : World) (L : List (Int × Int × ByteArray)) : Prop := L = [] ∨ ∃ g off, ad = some ⟨g, off, none⟩ ∧ g < w.heap.size ∧ At w g off L
theorem in_below {ad : Option Addr} {w w' : World} {L : List (Int × Int × ByteArray)} (h : In ad w L) (hb : Below w.heap.size w w') : In ad w' L := by
  rcases h with h | ⟨g, off, e, hg, ha⟩
  · exact Or.inl h
  · exact Or.inr ⟨g, off, e, Nat.lt_of_lt_of_le hg hb.size, at_below ha hb hg⟩
theorem in_src {ad : Option Addr} {w : World} {L : List (Int × Int × ByteArray)} (h : In ad w L) : Src ad w L := by
  rcases h with h | ⟨g, off, rfl, hg, ha⟩
  · exact Or.inl h
  · exact at_src ha
theorem lit_at {W : World} {t : TypeId} (e : Int × Int × ByteArray) : At (W.alloc (.cells (flat [e]).toArray t)) W.heap.size 0 [e] := by
  intro i hi
  obtain rfl : i = 0 := by simp at hi; omega
  have hw := heap_alloc_new W (.cells (flat [e]).toArray t)
  exact ⟨by rw [cell_of_row _ _ _ _ _ _ hw]; rfl, by rw [cell_of_row _ _ _ _ _ _ hw]; rfl, by rw [cell_of_row _ _ _ _ _ _ hw]; rfl⟩
theorem refs_four {L : List (Int × Int × ByteArray)} {k : Nat} (h : k < L.length) (h4 : (L[k]).1 = 4) : (refs (kd L) (nm L) (k + 1)).length = (refs (kd L) (nm L) k).length + 1 := by
  have : kd L k = 4 := by unfold kd; rw [getD_at L k h]; exact h4
  simp [refs, this]
theorem refs_else {L : List (Int × Int × ByteArray)} {k : Nat} (h : k < L.length) (h4 : ¬ (L[k]).1 = 4) : (refs (kd L) (nm L) (k + 1)).length = (refs (kd L) (nm L) k).length := by
  have : ¬ kd L k = 4 := by unfold kd; rw [getD_at L k h]; exact h4
  simp [refs, this]
/-- What the law's loop knows at a place. -/
def Sofar (v : Int × Int × ByteArray) (L : List (Int × Int × ByteArray)) (k : Nat) (a : Int) : Prop := (a = -1 ∧ findN v L 0 = findN v (L.drop k) k) ∨ (0 ≤ a ∧ findN v L 0 = a)
theorem sofar_end {v : Int × Int × ByteArray} {L : List (Int × Int × ByteArray)} {a : Int} (h : Sofar v L L.length a) : findN v L 0 = a := by
  rcases h with ⟨rfl, h⟩ | ⟨_, h⟩
  · rw [h, List.drop_length, findN]
  · exact h
theorem sofar_here {v : Int × Int × ByteArray} {L : List (Int × Int × ByteArray)} {k : Nat} (h : Sofar v L k (-1)) (hk : k < L.length) (hx : L[k].1 = v.1 ∧ L[k].2.1 = v.2.1 ∧ L[k].2.2 = v.2.2) : Sofar v L (k + 1) (k : Int) := by
  rcases h with ⟨_, h⟩ | ⟨h0, _⟩
  · refine Or.inr ⟨by omega, ?_⟩
    rw [h, List.drop_eq_getElem_cons hk, findN, if_pos hx]
  · omega
theorem sofar_not {v : Int × Int × ByteArray} {L : List (Int × Int × ByteArray)} {k : Nat} {a : Int} (h : Sofar v L k a) (hk : k < L.length) (hx : ¬ (L[k].1 = v.1 ∧ L[k].2.1 = v.2.1 ∧ L[k].2.2 = v.2.2)) : Sofar v L (k + 1) a := by
  rcases h with ⟨e, h⟩ | h
  · refine Or.inl ⟨e, ?_⟩
    rw [h, List.drop_eq_getElem_cons hk, findN, if_neg hx]
  · exact Or.inr h
theorem sofar_have {v : Int × Int × ByteArray} {L : List (Int × Int × ByteArray)} {k : Nat} {a : Int} (h : Sofar v L k a) (ha : 0 ≤ a) : Sofar v L (k + 1) a := by
  rcases h with ⟨e, _⟩ | h
  · omega
  · exact Or.inr h

theorem vals_in {ad : Option Addr} {len : Nat} {K N : Nat → Int} {S : Nat → ByteArray} {w : World} (h : len = 0 ∨ ∃ g off, ad = some ⟨g, off, none⟩ ∧ g < w.heap.size ∧ Vals w g off len K N S) : ∃ L, len = L.length ∧ In ad w L := by
  refine ⟨(List.range len).map fun i => (K i, N i, S i), by simp, ?_⟩
  rcases h with rfl | ⟨g, off, e, hg, hv⟩
  · exact Or.inl rfl
  · refine Or.inr ⟨g, off, e, hg, fun i hi => ?_⟩
    have hi' : i < len := by simpa using hi
    simpa using hv i hi'
end Go.Proofs.Ytipdjjgpcmbpdaa.Li
