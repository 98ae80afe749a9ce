/- A slice of values as an argument: what its reading says. -/
import Derived.Test.YtipdjjgpcmbpdaaValOpen
import Derived.Test.YtipdjjgpcmbpdaaValCells
namespace Go.Proofs.Ytipdjjgpcmbpdaa.Va
open Go.ChangeShapes Go.WideShapes Go.ChangeAt Go.RowKit Go.Deep

theorem cell_size {w : World} {a : Addr} {v : Value} (h : w.cell? a = some v) : a.block < w.heap.size := by
  by_cases hs : a.block < w.heap.size
  · exact hs
  · exfalso
    unfold World.cell? at h
    simp [Array.getElem?_eq_none (Nat.not_lt.1 hs)] at h
section
variable {H : Type} {enc : TypeId × Value → H} {W : World} {sp : Nat → Bool} {held : Bool}
set_option maxRecDepth 100000 in
theorem open_vals {r : Reach} {b0 : Nat} {v : Value} {d : DataW H} {ps : List MemPlace} (hval : Value.okWide Try.prog W r b0 74 v) (hd : DataW.Trod enc Try.prog W 0 sp held 74 v d ps) :
    ∃ ad len cap K N S, v = .slice ad len cap ∧ len ≤ maxLen ∧ (∀ i, i < len → (Lit.int .i64 (K i)).wf = true ∧ (Lit.int .i64 (N i)).wf = true) ∧ (len = 0 ∨ ∃ g off, ad = some ⟨g, off, none⟩ ∧ g < W.heap.size ∧ Vals W g off len K N S) := by
  obtain ⟨a0, len, cap, rfl⟩ := okWide_slice Try.underlying74 hval
  obtain ⟨fuel, hf⟩ := hd
  rcases open_slice Try.underlying74 hf with ⟨hcs, hx⟩ | ⟨a, len', cap', m, n, D, Pl, hcs, _, hl, hm, hmm, hx, hcell⟩
  · simp [Value.cells] at hcs
    obtain ⟨rfl, rfl, rfl⟩ := hcs
    exact ⟨none, 0, 0, fun _ => 0, fun _ => 0, fun _ => ⟨#[]⟩, rfl, Nat.zero_le _, fun i hi => absurd hi (Nat.not_lt_zero _), Or.inl rfl⟩
  · simp [Value.cells] at hcs
    obtain ⟨rfl, rfl, rfl⟩ := hcs
    have hlm : len ≤ m := by rw [hmm]; split <;> omega
    have each : ∀ i, i < len → ∃ q : Int × Int × ByteArray, (W.cell? (a.add (i * 3)) = some (.int .i64 q.1) ∧ W.cell? (a.add (i * 3 + 1)) = some (.int .i64 q.2.1) ∧ W.cell? (a.add (i * 3 + 2)) = some (.string q.2.2)) ∧ (Lit.int .i64 q.1).wf = true ∧ (Lit.int .i64 q.2.1).wf = true := by
      intro i hi
      obtain ⟨cs', h1, h2⟩ := hcell i (by omega)
      obtain ⟨k, n, s, rfl, _, wk, wn, _⟩ := trod_val h2
      rw [A.cV] at h1
      obtain ⟨_, _, hc⟩ := World.cells?_some h1
      have h0 := hc 0 (by omega)
      have h1' := hc 1 (by omega)
      have h2' := hc 2 (by omega)
      rw [add_add] at h0 h1' h2'
      exact ⟨(k, n, s), ⟨h0, h1', h2'⟩, wk, wn⟩
    obtain ⟨q, hq⟩ := choose_lt each
    refine ⟨some a, len, cap, fun i => (q i).1, fun i => (q i).2.1, fun i => (q i).2.2, rfl, by omega, fun i hi => (hq i hi).2, ?_⟩
    by_cases h0 : len = 0
    · exact Or.inl h0
    · right
      obtain ⟨g, off, spot⟩ := a
      have hs : spot = none := by
        have := World.cell?_spot (hq 0 (by omega)).1.1
        simpa [Addr.add] using this
      subst hs
      have hg : g < W.heap.size := by
        have := cell_size (hq 0 (by omega)).1.1
        simpa [Addr.add] using this
      refine ⟨g, off, rfl, hg, fun i hi => ?_⟩
      obtain ⟨h1, h2, h3⟩ := (hq i hi).1
      rw [Go.WideShapes.add_plain] at h1 h2 h3
      exact ⟨h1, h2, h3⟩
end
end Go.Proofs.Ytipdjjgpcmbpdaa.Va
