/- An act on a table (kind, key, value), and a slice of these, as an argument: what its reading says. -/
import Derived.Test.YtipdjjgpcmbpdaaValsOpen
import Derived.Test.YtipdjjgpcmbpdaaTab28
import Derived.Deep.Slices
namespace Go.Proofs.Ytipdjjgpcmbpdaa.Ta
open Go.ChangeShapes Go.WideShapes Go.ChangeAt Go.RowKit Go.Deep Go.Proofs.Ytipdjjgpcmbpdaa.Va

theorem A.cT : Try.prog.cellsOf 32 = 7 := by kernel_rfl
section
variable {H : Type} {enc : TypeId × Value → H} {W : World} {base : Nat} {sp : Nat → Bool} {held : Bool}
set_option maxRecDepth 100000 in
theorem trod_top {fuel : Nat} {cs : List Value} {x : DataW H × List MemPlace} (h : DataW.trod enc Try.prog W base sp held fuel 32 cs = some x) :
    ∃ a k1 k2 k3 v1 v2 v3, cs = [.int .i64 a, .int .i64 k1, .int .i64 k2, .string k3, .int .i64 v1, .int .i64 v2, .string v3] ∧ x.2 = [] ∧ (Lit.int .i64 k2).wf = true := by
  obtain ⟨y0, y1, y2, m, hx, hl, hy0, hy1, hy2⟩ := trod_struct3 Try.underlying32 h
  rw [A.cT] at hl
  match cs, hl with
  | [c0, c1, c2, c3, c4, c5, c6], _ =>
  obtain ⟨a, e0, rfl, wa⟩ := DataW.trod_int Try.underlying3 hy0
  obtain ⟨k, n, s, e1, f1, _, wn, _⟩ := trod_val hy1
  obtain ⟨k', n', s', e2, f2, _⟩ := trod_val hy2
  simp [Va.A.cI, Va.A.cV] at e0 e1 e2
  obtain ⟨e1, e3, e4⟩ := e1
  obtain ⟨e2, e5, e6⟩ := e2
  subst e0 e1 e2 e3 e4 e5 e6
  exact ⟨a, k, n, s, k', n', s', rfl, by rw [hx]; simp [f1, f2], wn⟩
set_option maxRecDepth 100000 in
theorem open_top {r : Reach} {b0 : Nat} {v : Value} {d : DataW H} {ps : List MemPlace} (hval : Value.okWide Try.prog W r b0 32 v) (hd : DataW.Trod enc Try.prog W base sp held 32 v d ps) :
    ∃ kd k x, v = opV kd k x ∧ ps = [] := by
  obtain ⟨cs, rfl, hsz⟩ := okWide_struct Try.underlying32 hval
  obtain ⟨fuel, hf⟩ := hd
  obtain ⟨a, k1, k2, k3, v1, v2, v3, e, hx, _⟩ := trod_top hf
  simp [Value.cells] at e
  exact ⟨a, (k1, k2, k3), (v1, v2, v3), by unfold opV; rw [← e], hx⟩
end
section
variable {H : Type} {enc : TypeId × Value → H} {W : World} {sp : Nat → Bool} {held : Bool}
set_option maxRecDepth 100000 in
theorem open_topsw {r : Reach} {b0 : Nat} {v : Value} {d : DataW H} {ps : List MemPlace} (hval : Value.okWide Try.prog W r b0 22 v) (hd : DataW.Trod enc Try.prog W 0 sp held 22 v d ps) :
    ∃ ad cap L, v = .slice ad L.length cap ∧ L.length ≤ maxLen ∧ InO ad W L ∧ (∀ (i : Nat) (kd : Int) (k v : Vl), L[i]? = some (kd, k, v) → (Lit.int .i64 k.2.1).wf = true) := by
  obtain ⟨a0, len, cap, rfl⟩ := okWide_slice Try.underlying22 hval
  obtain ⟨fuel, hf⟩ := hd
  rcases open_slice Try.underlying22 hf with ⟨hcs, hx⟩ | ⟨a, len', cap', m, n, D, Pl, hcs, _, hl, hm, hmm, hx, hcell⟩
  · simp [Value.cells] at hcs
    obtain ⟨rfl, rfl, rfl⟩ := hcs
    exact ⟨none, 0, [], rfl, Nat.zero_le _, Or.inl rfl, fun i _ _ _ h => by simp at h⟩
  · simp [Value.cells] at hcs
    obtain ⟨rfl, rfl, rfl⟩ := hcs
    have hlm : len ≤ m := by rw [hmm]; split <;> omega
    have each : ∀ i, i < len → ∃ q : Int × Vl × Vl, W.cell? (a.add (i * 7)) = some (.int .i64 q.1) ∧ W.cell? (a.add (i * 7 + 1)) = some (.int .i64 q.2.1.1) ∧ W.cell? (a.add (i * 7 + 2)) = some (.int .i64 q.2.1.2.1) ∧ W.cell? (a.add (i * 7 + 3)) = some (.string q.2.1.2.2) ∧ W.cell? (a.add (i * 7 + 4)) = some (.int .i64 q.2.2.1) ∧ W.cell? (a.add (i * 7 + 5)) = some (.int .i64 q.2.2.2.1) ∧ W.cell? (a.add (i * 7 + 6)) = some (.string q.2.2.2.2) ∧ (Lit.int .i64 q.2.1.2.1).wf = true := by
      intro i hi
      obtain ⟨cs', h1, h2⟩ := hcell i (by omega)
      obtain ⟨a', k1, k2, k3, v1, v2, v3, rfl, _, wn⟩ := trod_top h2
      rw [A.cT] at h1
      obtain ⟨_, _, hc⟩ := World.cells?_some h1
      have h0 := hc 0 (by omega)
      have h1' := hc 1 (by omega)
      have h2' := hc 2 (by omega)
      have h3' := hc 3 (by omega)
      have h4' := hc 4 (by omega)
      have h5' := hc 5 (by omega)
      have h6' := hc 6 (by omega)
      rw [add_add] at h0 h1' h2' h3' h4' h5' h6'
      exact ⟨(a', (k1, k2, k3), (v1, v2, v3)), h0, h1', h2', h3', h4', h5', h6', wn⟩
    obtain ⟨q, hq⟩ := choose_lt each
    refine ⟨some a, cap, (List.range len).map q, by simp, by simp; omega, ?_, fun i kd k v hi => ?_⟩
    rotate_left
    · have hi' : i < len := by have := (List.getElem?_eq_some_iff.1 hi).1; simpa using this
      rw [List.getElem?_map, List.getElem?_range hi'] at hi
      simp only [Option.map_some, Option.some.injEq] at hi
      have h8 := (hq i hi').2.2.2.2.2.2.2
      rw [hi] at h8
      exact h8
    by_cases h0 : len = 0
    · subst h0; exact Or.inl rfl
    · right
      obtain ⟨g, off, spot⟩ := a
      have hs : spot = none := by
        have := World.cell?_spot (hq 0 (by omega)).1
        simpa [Addr.add] using this
      subst hs
      have hg : g < W.heap.size := by
        have := cell_size (hq 0 (by omega)).1
        simpa [Addr.add] using this
      refine ⟨g, off, rfl, hg, fun i kd k v hi => ?_⟩
      have hi' : i < len := by have := (List.getElem?_eq_some_iff.1 hi).1; simpa using this
      rw [List.getElem?_map, List.getElem?_range hi'] at hi
      simp only [Option.map_some, Option.some.injEq] at hi
      obtain ⟨h1, h2, h3, h4, h5, h6, h7, _⟩ := hq i hi'
      rw [hi] at h1 h2 h3 h4 h5 h6 h7
      rw [Go.WideShapes.add_plain] at h1 h2 h3 h4 h5 h6 h7
      exact ⟨h1, h2, h3, h4, h5, h6, h7⟩
set_option maxRecDepth 100000 in
theorem open_tops {r : Reach} {b0 : Nat} {v : Value} {d : DataW H} {ps : List MemPlace} (hval : Value.okWide Try.prog W r b0 22 v) (hd : DataW.Trod enc Try.prog W 0 sp held 22 v d ps) :
    ∃ ad cap L, v = .slice ad L.length cap ∧ L.length ≤ maxLen ∧ InO ad W L := by
  obtain ⟨ad, cap, L, h1, h2, h3, _⟩ := open_topsw hval hd
  exact ⟨ad, cap, L, h1, h2, h3⟩
end
end Go.Proofs.Ytipdjjgpcmbpdaa.Ta
