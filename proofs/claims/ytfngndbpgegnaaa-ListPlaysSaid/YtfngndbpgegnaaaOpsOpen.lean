/- A slice of acts (kind, place, value) as an argument: what its reading says. -/
import Derived.Test.YtfngndbpgegnaaaValsOpen
import Derived.Test.YtfngndbpgegnaaaList18
namespace Go.Proofs.Ytfngndbpgegnaaa.Li
open Go.ChangeShapes Go.WideShapes Go.ChangeAt Go.RowKit Go.Deep Go.Proofs.Ytfngndbpgegnaaa.Va

theorem A.cO : Try.prog.cellsOf 32 = 5 := by kernel_rfl
section
variable {H : Type} {enc : TypeId × Value → H} {W : World} {base : Nat} {sp : Nat → Bool} {held : Bool}
set_option maxRecDepth 100000 in
theorem trod_op {fuel : Nat} {cs : List Value} {x : DataW H × List MemPlace} (h : DataW.trod enc Try.prog W base sp held fuel 32 cs = some x) :
    ∃ a b k n s, cs = [.int .i64 a, .int .i64 b, .int .i64 k, .int .i64 n, .string s] := by
  obtain ⟨y0, y1, y2, m, hx, hl, hy0, hy1, hy2⟩ := trod_struct3 Try.underlying32 h
  rw [A.cO] at hl
  match cs, hl with
  | [c0, c1, c2, c3, c4], _ =>
  obtain ⟨a, e0, rfl, wa⟩ := DataW.trod_int Try.underlying3 hy0
  obtain ⟨b, e1, rfl, wb⟩ := DataW.trod_int Try.underlying2 hy1
  obtain ⟨k, n, s, e2, _⟩ := trod_val hy2
  simp [Va.A.cI, Va.A.cL, Va.A.cV] at e0 e1 e2
  obtain ⟨e2, e3, e4⟩ := e2
  subst e0 e1 e2 e3 e4
  exact ⟨a, b, k, n, s, rfl⟩
end
section
variable {H : Type} {enc : TypeId × Value → H} {W : World} {sp : Nat → Bool} {held : Bool}
set_option maxRecDepth 100000 in
theorem open_ops {r : Reach} {b0 : Nat} {v : Value} {d : DataW H} {ps : List MemPlace} (hval : Value.okWide Try.prog W r b0 22 v) (hd : DataW.Trod enc Try.prog W 0 sp held 22 v d ps) :
    ∃ ad cap L, v = .slice ad L.length cap ∧ InOp ad W L := by
  obtain ⟨a0, len, cap, rfl⟩ := okWide_slice Try.underlying22 hval
  obtain ⟨fuel, hf⟩ := hd
  rcases open_slice Try.underlying22 hf with ⟨hcs, hx⟩ | ⟨a, len', cap', m, n, D, Pl, hcs, _, hl, hm, hmm, hx, hcell⟩
  · simp [Value.cells] at hcs
    obtain ⟨rfl, rfl, rfl⟩ := hcs
    exact ⟨none, 0, [], rfl, Or.inl rfl⟩
  · simp [Value.cells] at hcs
    obtain ⟨rfl, rfl, rfl⟩ := hcs
    have hlm : len ≤ m := by rw [hmm]; split <;> omega
    have each : ∀ i, i < len → ∃ q : Int × Int × Int × Int × ByteArray, W.cell? (a.add (i * 5)) = some (.int .i64 q.1) ∧ W.cell? (a.add (i * 5 + 1)) = some (.int .i64 q.2.1) ∧ W.cell? (a.add (i * 5 + 2)) = some (.int .i64 q.2.2.1) ∧ W.cell? (a.add (i * 5 + 3)) = some (.int .i64 q.2.2.2.1) ∧ W.cell? (a.add (i * 5 + 4)) = some (.string q.2.2.2.2) := by
      intro i hi
      obtain ⟨cs', h1, h2⟩ := hcell i (by omega)
      obtain ⟨x, y, k, n, s, rfl⟩ := trod_op h2
      rw [A.cO] at h1
      obtain ⟨_, _, hc⟩ := World.cells?_some h1
      have h0 := hc 0 (by omega)
      have h1' := hc 1 (by omega)
      have h2' := hc 2 (by omega)
      have h3' := hc 3 (by omega)
      have h4' := hc 4 (by omega)
      rw [add_add] at h0 h1' h2' h3' h4'
      exact ⟨(x, y, k, n, s), h0, h1', h2', h3', h4'⟩
    obtain ⟨q, hq⟩ := choose_lt each
    refine ⟨some a, cap, (List.range len).map q, by simp, ?_⟩
    by_cases h0 : len = 0
    · subst h0; exact Or.inl rfl
    · right
      obtain ⟨g, off, spot⟩ := a
      have hs : spot = none := by
        have := World.cell?_spot (hq 0 (by omega)).1
        simpa [Addr.add] using this
      subst hs
      have hg : g < W.heap.size := by
        have := cell_size (hq 0 (by omega)).1
        simpa [Addr.add] using this
      refine ⟨g, off, rfl, hg, fun i hi => ?_⟩
      have hi' : i < len := by simpa using hi
      obtain ⟨h1, h2, h3, h4, h5⟩ := hq i hi'
      rw [Go.WideShapes.add_plain] at h1 h2 h3 h4 h5
      simp only [List.getElem_map, List.getElem_range]
      exact ⟨h1, h2, h3, h4, h5⟩
end
end Go.Proofs.Ytfngndbpgegnaaa.Li
