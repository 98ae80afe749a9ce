/- small; a tree as an argument. -/
import Derived.Test.YtaonojimpfhkfaaAstP
import Derived.ProofKit
import Derived.OpenShut
import Derived.Deep.Slices
import Derived.ChangeSame
namespace Go.Proofs.Ytaonojimpfhkfaa.As
open Go.RowKit Go.ChangeShapes Go.WideShapes Go.ChangeAt Go.Deep

def I64 (x : Int) : Prop := -9223372036854775808 ≤ x ∧ x ≤ 9223372036854775807
/-- What the reading of a tree says of its nodes. -/
def TreeOk (L : List Nd) : Prop := L.length ≤ 9223372036854775807 ∧ ∀ n ∈ L, n.kids.length ≤ 9223372036854775807 ∧ n.text.size ≤ 9223372036854775807 ∧ n.kids.length ≤ n.kc ∧ I64 n.kind ∧ I64 n.num ∧ I64 n.loc
theorem A.cI : Try.prog.cellsOf 3 = 1 := by kernel_rfl
theorem A.c64 : Try.prog.cellsOf 2 = 1 := by kernel_rfl
theorem A.cS : Try.prog.cellsOf 9 = 1 := by kernel_rfl
theorem A.cK : Try.prog.cellsOf 35 = 1 := by kernel_rfl
theorem A.cR : Try.prog.cellsOf 22 = 1 := by kernel_rfl
theorem A.cN : Try.prog.cellsOf 37 = 5 := by kernel_rfl
theorem A.cT : Try.prog.cellsOf 24 = 1 := by kernel_rfl
section
variable {H : Type} {enc : TypeId × Value → H} {W : World} {sp : Nat → Bool} {held : Bool}
theorem trod_struct5 {P : Program} {base : Nat} {t : TypeId} {f0 f1 f2 f3 f4 : Field} {fuel : Nat} {cs : List Value} {x : DataW H × List MemPlace} (ht : P.underlying t = some (.struct #[f0, f1, f2, f3, f4])) (h : DataW.trod enc P W base sp held fuel t cs = some x) :
    ∃ y0 y1 y2 y3 y4 n, cs.length = P.cellsOf t ∧ DataW.trod enc P W base sp held n f0.type ((cs.drop f0.offset).take (P.cellsOf f0.type)) = some y0 ∧
      DataW.trod enc P W base sp held n f1.type ((cs.drop f1.offset).take (P.cellsOf f1.type)) = some y1 ∧ DataW.trod enc P W base sp held n f2.type ((cs.drop f2.offset).take (P.cellsOf f2.type)) = some y2 ∧
      DataW.trod enc P W base sp held n f3.type ((cs.drop f3.offset).take (P.cellsOf f3.type)) = some y3 ∧ DataW.trod enc P W base sp held n f4.type ((cs.drop f4.offset).take (P.cellsOf f4.type)) = some y4 := by
  obtain ⟨xs, n, _, rfl, hl, hlen, hf⟩ := DataW.trod_struct ht h
  match xs, hlen with
  | [y0, y1, y2, y3, y4], _ => exact ⟨y0, y1, y2, y3, y4, n, hl, by simpa using hf 0 f0 rfl, by simpa using hf 1 f1 rfl, by simpa using hf 2 f2 rfl, by simpa using hf 3 f3 rfl, by simpa using hf 4 f4 rfl⟩
set_option maxRecDepth 100000 in
theorem field_kids {fuel : Nat} {c : Value} {x : DataW H × List MemPlace} (hf : DataW.trod enc Try.prog W 0 sp held fuel 35 [c] = some x) :
    ∃ ad cap L, c = .slice ad L.length cap ∧ L.length ≤ 9223372036854775807 ∧ L.length ≤ cap ∧ RowI W W.heap.size ad L := by
  rcases open_slice Try.underlying35 hf with ⟨hcs, hx⟩ | ⟨a, len, cap, m, n, D, Pl, hcs, _, hl, hm, hmm, hx, hcell⟩
  · simp at hcs
    subst hcs
    exact ⟨none, 0, [], rfl, Nat.zero_le _, Nat.zero_le _, Or.inl rfl⟩
  · simp at hcs
    subst hcs
    have hlm : len ≤ m := by rw [hmm]; split <;> omega
    have each : ∀ i, i < len → ∃ q : Int, W.cell? (a.add i) = some (.int .i64 q) := by
      intro i hi
      obtain ⟨cs', h1, h2⟩ := hcell i (by omega)
      obtain ⟨q, rfl, _, _⟩ := DataW.trod_int Try.underlying3 h2
      rw [A.cI] at h1
      obtain ⟨_, _, hc⟩ := World.cells?_some h1
      have h0 := hc 0 (by omega)
      rw [add_add, Nat.mul_one, Nat.add_zero] at h0
      exact ⟨q, h0⟩
    obtain ⟨q, hq⟩ := choose_lt each
    refine ⟨some a, cap, (List.range len).map q, by simp, by unfold maxLen at hm; simp; omega, by simp; omega, ?_⟩
    by_cases h0 : len = 0
    · subst h0; exact Or.inl rfl
    · right
      obtain ⟨g, off, spot⟩ := a
      have hs : spot = none := by
        have := World.cell?_spot (hq 0 (by omega))
        simpa [Addr.add] using this
      subst hs
      have hg : g < W.heap.size := by
        have h := hq 0 (by omega)
        rw [Go.WideShapes.add_plain] at h
        exact Nat.lt_of_not_le fun hle => by
          unfold World.cell? at h
          simp [Array.getElem?_eq_none hle] at h
      refine ⟨g, off, rfl, hg, fun j x hx => ?_⟩
      have hj : j < len := by have := get_lt hx; simpa using this
      rw [List.getElem?_map, List.getElem?_range hj] at hx
      simp only [Option.map_some, Option.some.injEq] at hx
      have h := hq j hj
      rw [Go.WideShapes.add_plain, hx] at h
      exact h
instance : Inhabited Nd := ⟨⟨0, 0, ⟨#[]⟩, 0, [], none, 0⟩⟩
theorem wf_i64 {a : Int} (h : (Lit.int .i64 a).wf = true) : I64 a := i64_range h
set_option maxRecDepth 100000 in
theorem trod_nd {fuel : Nat} {cs : List Value} {x : DataW H × List MemPlace} (h : DataW.trod enc Try.prog W 0 sp held fuel 37 cs = some x) :
    ∃ n : Nd, cs = celN n ∧ RowI W W.heap.size n.ka n.kids ∧ n.kids.length ≤ 9223372036854775807 ∧ n.text.size ≤ 9223372036854775807 ∧ n.kids.length ≤ n.kc ∧ I64 n.kind ∧ I64 n.num ∧ I64 n.loc := by
  obtain ⟨y0, y1, y2, y3, y4, n, hl, hy0, hy1, hy2, hy3, hy4⟩ := trod_struct5 Try.underlying37 h
  rw [A.cN] at hl
  match cs, hl with
  | [c0, c1, c2, c3, c4], _ =>
  simp [A.cI, A.c64, A.cS, A.cK] at hy0 hy1 hy2 hy3 hy4
  obtain ⟨k, e0, _, w0⟩ := DataW.trod_int Try.underlying3 hy0
  obtain ⟨l, e1, _, w1⟩ := DataW.trod_int Try.underlying3 hy1
  obtain ⟨s, e2, _, w2⟩ := DataW.trod_string Try.underlying9 hy2
  obtain ⟨m, e3, _, w3⟩ := DataW.trod_int Try.underlying2 hy3
  obtain ⟨ka, kc, ks, e4, h1, h2, h3⟩ := field_kids hy4
  simp at e0 e1 e2 e3
  subst e0 e1 e2 e3 e4
  exact ⟨⟨k, l, s, m, ks, ka, kc⟩, rfl, h3, h1, by unfold maxLen at w2; exact w2, h2, wf_i64 w0, wf_i64 w3, wf_i64 w1⟩
set_option maxRecDepth 100000 in
theorem open_tree {r : Reach} {b0 : Nat} {v : Value} {d : DataW H} {ps : List MemPlace} (hval : Value.okWide Try.prog W r b0 24 v) (hd : DataW.Trod enc Try.prog W 0 sp held 24 v d ps) :
    ∃ ad cap L, v = .agg #[.slice ad (L : List Nd).length cap] ∧ Tr W W.heap.size ad L ∧ TreeOk L := by
  obtain ⟨cs, rfl, hsz⟩ := okWide_struct Try.underlying24 hval
  obtain ⟨fuel, hf⟩ := hd
  obtain ⟨y0, n, hx, hl, hy0⟩ := trod_struct1 Try.underlying24 hf
  rw [A.cT] at hl
  obtain ⟨l, rfl⟩ : ∃ l : List Value, cs = l.toArray := ⟨cs.toList, by simp⟩
  simp only [Value.cells] at hl hy0
  match l, hl with
  | [c0], _ =>
  simp [A.cR] at hy0
  rcases open_slice Try.underlying22 hy0 with ⟨hcs, hx⟩ | ⟨a, len, cap, m, n, D, Pl, hcs, _, hl, hm, hmm, hx, hcell⟩
  · simp at hcs
    subst hcs
    exact ⟨none, 0, [], rfl, Or.inl rfl, Nat.zero_le _, fun n hn => by simp at hn⟩
  · simp at hcs
    subst hcs
    have hlm : len ≤ m := by rw [hmm]; split <;> omega
    have each : ∀ i, i < len → ∃ q : Nd, (∀ k, k < 5 → W.cell? (a.add (i * 5 + k)) = (celN q)[k]?) ∧ RowI W W.heap.size q.ka q.kids ∧ q.kids.length ≤ 9223372036854775807 ∧ q.text.size ≤ 9223372036854775807 ∧ q.kids.length ≤ q.kc ∧ I64 q.kind ∧ I64 q.num ∧ I64 q.loc := by
      intro i hi
      obtain ⟨cs', h1, h2⟩ := hcell i (by omega)
      obtain ⟨q, rfl, h3⟩ := trod_nd h2
      rw [A.cN] at h1
      obtain ⟨_, _, hc⟩ := World.cells?_some h1
      refine ⟨q, fun k hk => ?_, h3⟩
      have := hc k hk
      rw [add_add] at this
      exact this
    obtain ⟨q, hq⟩ := choose_lt each
    refine ⟨some a, cap, (List.range len).map q, by simp, ?_, by unfold maxLen at hm; simp; omega, fun n hn => ?_⟩
    · by_cases h0 : len = 0
      · subst h0; exact Or.inl rfl
      · right
        obtain ⟨g, off, spot⟩ := a
        have h00 := (hq 0 (by omega)).1 0 (by omega)
        have hs : spot = none := by
          have := World.cell?_spot h00
          simpa [Addr.add] using this
        subst hs
        have hg : g < W.heap.size := by
          rw [Go.WideShapes.add_plain] at h00
          exact Nat.lt_of_not_le fun hle => by
            unfold World.cell? at h00
            simp [Array.getElem?_eq_none hle, celN] at h00
        refine ⟨g, off, rfl, hg, fun j n hn => ?_⟩
        have hj : j < len := by have := get_lt hn; simpa using this
        rw [List.getElem?_map, List.getElem?_range hj] at hn
        simp only [Option.map_some, Option.some.injEq] at hn
        obtain ⟨hc, hr, _⟩ := hq j hj
        rw [hn] at hc hr
        have c := fun k hk => by
          have := hc k hk
          rw [Go.WideShapes.add_plain, ← Nat.add_assoc] at this
          exact this
        exact ⟨c 0 (by omega), c 1 (by omega), c 2 (by omega), c 3 (by omega), c 4 (by omega), hr⟩
    · obtain ⟨j, hj⟩ := List.getElem?_of_mem hn
      have hjl : j < len := by have := get_lt hj; simpa using this
      rw [List.getElem?_map, List.getElem?_range hjl] at hj
      simp only [Option.map_some, Option.some.injEq] at hj
      rw [← hj]
      exact (hq j hjl).2.2
end
end Go.Proofs.Ytaonojimpfhkfaa.As
