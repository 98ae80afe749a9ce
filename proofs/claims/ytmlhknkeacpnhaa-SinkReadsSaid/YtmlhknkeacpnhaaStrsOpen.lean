/- A slice of texts, and one of such slices, as an argument: what its reading says. -/
import Derived.Test.YtmlhknkeacpnhaaSink1
import Derived.ProofKit
import Derived.OpenShut
import Derived.Deep.Strs
import Derived.SizedLaws
namespace Go.Proofs.Ytmlhknkeacpnhaa.Sk
open Go.ChangeShapes Go.WideShapes Go.ChangeAt Go.RowKit Go.Deep

theorem cell_size {w : World} {a : Addr} {v : Value} (h : w.cell? a = some v) : a.block < w.heap.size := by
  by_cases hs : a.block < w.heap.size
  · exact hs
  · exfalso
    unfold World.cell? at h
    simp [Array.getElem?_eq_none (Nat.not_lt.1 hs)] at h
theorem A.c9 : Try.prog.cellsOf 9 = 1 := by kernel_rfl
theorem A.c27 : Try.prog.cellsOf 27 = 1 := by kernel_rfl
theorem at_none {W : World} {a : Addr} {v : Value} (h : W.cell? (a.add 0) = some v) : ∃ g o, a = ⟨g, o, none⟩ ∧ g < W.heap.size := by
  obtain ⟨g, o, spot⟩ := a
  have h' : W.cell? ⟨g, o, spot⟩ = some v := by simpa [Addr.add] using h
  obtain rfl : spot = none := World.cell?_spot h'
  exact ⟨g, o, rfl, cell_size h'⟩
theorem mem_weights {H : Type} {P : Program} {e : TypeId} {n : Nat} : ∀ {l : List (DataW H)} {d : DataW H}, d ∈ l → n ∈ d.weights P e → n ∈ DataW.weightsAll P e l
  | x :: l, d, h, hn => by
    rw [DataW.weightsAll, List.mem_append]
    rcases List.mem_cons.1 h with rfl | h
    · exact .inl hn
    · exact .inr (mem_weights h hn)
theorem reach_le {H : Type} {P : Program} {ts : List TypeId} {ds : List (DataW H)} (h : (DataW.weightsEach P ts ds).all (· ≤ reachBytes) = true) {j : Nat} {t : TypeId} {d : DataW H} (ht : ts[j]? = some t) (hd : ds[j]? = some d) {n : Nat} (hn : n ∈ d.weights P t) : n ≤ 140737488351232 := by
  have := List.all_eq_true.1 h _ (DataW.weights_mem_each ht hd n hn)
  exact of_decide_eq_true this
section
variable {H : Type} {enc : TypeId × Value → H} {W : World} {sp : Nat → Bool} {held : Bool}
theorem strs_of {fuel : Nat} {cs : List Value} {x : DataW H × List MemPlace} (h : DataW.trod enc Try.prog W 0 sp held fuel 27 cs = some x) :
    ∃ ad cap L, cs = [.slice ad (L : List ByteArray).length cap] ∧ (L.length ≤ maxLen ∧ L.length ≤ cap) ∧ (∀ y ∈ L, y.data.toList.length ∈ x.1.weights Try.prog 27) ∧ StrS W.heap.size ad W L := by
  rcases open_strs Try.underlying27 Try.underlying9 A.c9 h with ⟨rfl, _⟩ | ⟨a, len, cap, m, Sx, rfl, _, hl, hm, hmm, rfl, hc⟩
  · exact ⟨none, 0, [], rfl, ⟨Nat.zero_le _, Nat.zero_le _⟩, by simp, Or.inl rfl⟩
  · have hlm : len ≤ m := by rw [hmm]; split <;> omega
    refine ⟨some a, cap, (List.range len).map Sx, by simp, ⟨by simp; omega, by simp; omega⟩, ?_, ?_⟩
    · intro y hy
      obtain ⟨i, hi, rfl⟩ := List.mem_map.1 hy
      simp only [DataW.weights, Try.underlying27, List.mem_cons, List.mem_append]
      exact .inr (.inl (mem_weights (List.mem_map.2 ⟨i, hi, rfl⟩) (by simp [DataW.weights])))
    · by_cases h0 : len = 0
      · subst h0; exact Or.inl rfl
      · obtain ⟨g, o, rfl, hg⟩ := at_none (hc 0 (by omega)).1
        refine Or.inr ⟨g, o, rfl, hg, Or.inl hg, fun j hj => ?_⟩
        have := (hc j (by simp at hj; omega)).1
        rw [Go.WideShapes.add_plain] at this
        rw [this]; simp
theorem open_strsS {r : Reach} {b0 : Nat} {v : Value} {d : DataW H} {ps : List MemPlace} (hval : Value.okWide Try.prog W r b0 27 v) (hd : DataW.Trod enc Try.prog W 0 sp held 27 v d ps) :
    ∃ ad cap L, v = .slice ad (L : List ByteArray).length cap ∧ L.length ≤ maxLen ∧ (∀ y ∈ L, y.data.toList.length ∈ d.weights Try.prog 27) ∧ StrS W.heap.size ad W L := by
  obtain ⟨a0, len, cap, rfl⟩ := okWide_slice Try.underlying27 hval
  obtain ⟨fuel, hf⟩ := hd
  obtain ⟨ad, cap', L, hcs, h1, h2, h3⟩ := strs_of hf
  simp [Value.cells] at hcs
  obtain ⟨rfl, rfl, rfl⟩ := hcs
  exact ⟨_, _, L, rfl, h1.1, h2, h3⟩
/-- Slices of texts that lie in memory as a slice's. -/
def StrSS (B : Nat) (ad : Option Addr) (w : World) (LL : List (List ByteArray)) : Prop :=
  LL = [] ∨ ∃ g o, ad = some ⟨g, o, none⟩ ∧ g < B ∧ ∀ (j : Nat) (h : j < LL.length), ∃ adj capj, w.cell? ⟨g, o + j, none⟩ = some (.slice adj LL[j].length capj) ∧ LL[j].length ≤ capj ∧ StrS B adj w LL[j]
theorem open_strssS {r : Reach} {b0 : Nat} {v : Value} {d : DataW H} {ps : List MemPlace} (hval : Value.okWide Try.prog W r b0 22 v) (hd : DataW.Trod enc Try.prog W 0 sp held 22 v d ps) :
    ∃ ad cap LL, v = .slice ad (LL : List (List ByteArray)).length cap ∧ LL.length ≤ maxLen ∧ (∀ L ∈ LL, L.length ≤ maxLen) ∧ StrSS W.heap.size ad W LL := by
  obtain ⟨a0, len, cap, rfl⟩ := okWide_slice Try.underlying22 hval
  obtain ⟨fuel, hf⟩ := hd
  rcases open_slice1 Try.underlying22 A.c27 hf with ⟨hcs, _⟩ | ⟨a, len', cap', m, n, V, D, Pl, hcs, _, hl, hm, hmm, _, hx⟩
  · simp [Value.cells] at hcs
    obtain ⟨rfl, rfl, rfl⟩ := hcs
    exact ⟨none, 0, [], rfl, Nat.zero_le _, by simp, Or.inl rfl⟩
  · simp [Value.cells] at hcs
    obtain ⟨rfl, rfl, rfl⟩ := hcs
    have hlm : len ≤ m := by rw [hmm]; split <;> omega
    have each : ∀ i, i < len → ∃ q : Option Addr × Nat × List ByteArray, V i = .slice q.1 q.2.2.length q.2.1 ∧ (q.2.2.length ≤ maxLen ∧ q.2.2.length ≤ q.2.1) ∧ StrS W.heap.size q.1 W q.2.2 := fun i hi => by
      obtain ⟨ad, cap, L, h1, h2, h3, h4⟩ := strs_of (hx i (by omega)).2
      simp at h1
      exact ⟨(ad, cap, L), h1, h2, h4⟩
    obtain ⟨q, hq⟩ := choose_lt each
    refine ⟨some a, cap, (List.range len).map fun i => (q i).2.2, by simp, by simp; omega, ?_, ?_⟩
    · intro L hL
      obtain ⟨i, hi, rfl⟩ := List.mem_map.1 hL
      obtain ⟨_, h2, _⟩ := hq i (List.mem_range.1 hi)
      exact h2.1
    · by_cases h0 : len = 0
      · subst h0; exact Or.inl rfl
      · obtain ⟨g, o, rfl, hg⟩ := at_none (hx 0 (by omega)).1
        refine Or.inr ⟨g, o, rfl, hg, fun j hj => ?_⟩
        have hj' : j < len := by simpa using hj
        obtain ⟨h1, h2, h4⟩ := hq j hj'
        have := (hx j (by omega)).1
        rw [Go.WideShapes.add_plain, h1] at this
        refine ⟨(q j).1, (q j).2.1, ?_, ?_, ?_⟩
        · rw [this]; simp
        · simpa using h2.2
        · simpa using h4
end
end Go.Proofs.Ytmlhknkeacpnhaa.Sk
