/- A value (kind, number, text) as an argument: what its reading says. -/
import Derived.Test.YtipdjjgpcmbpdaaRows
import Derived.ProofKit
import Derived.OpenShut
import Derived.ShutString
import Derived.Below
import Derived.Deep.Strs
import Derived.Deep.Slices
namespace Go.Proofs.Ytipdjjgpcmbpdaa.Va
open Go.ChangeShapes Go.WideShapes Go.ChangeAt Go.RowKit Go.Deep
open Go.ChangeMaps (open_string shut_string)

theorem A.cV : Try.prog.cellsOf 30 = 3 := by kernel_rfl
theorem A.cI : Try.prog.cellsOf 3 = 1 := by kernel_rfl
theorem A.cL : Try.prog.cellsOf 2 = 1 := by kernel_rfl
theorem A.cS : Try.prog.cellsOf 9 = 1 := by kernel_rfl
section
variable {H : Type} {enc : TypeId × Value → H} {W : World} {base : Nat} {sp : Nat → Bool} {held : Bool}
set_option maxRecDepth 100000 in
theorem trod_val {fuel : Nat} {cs : List Value} {x : DataW H × List MemPlace} (h : DataW.trod enc Try.prog W base sp held fuel 30 cs = some x) :
    ∃ k n s, cs = [.int .i64 k, .int .i64 n, .string s] ∧ x.2 = [] ∧ (Lit.int .i64 k).wf = true ∧ (Lit.int .i64 n).wf = true ∧ s.size ≤ maxLen := by
  obtain ⟨y0, y1, y2, m, hx, hl, hy0, hy1, hy2⟩ := trod_struct3 Try.underlying30 h
  rw [A.cV] at hl
  match cs, hl with
  | [c0, c1, c2], _ =>
  obtain ⟨a, e0, rfl, wa⟩ := DataW.trod_int Try.underlying3 hy0
  obtain ⟨b, e1, rfl, wb⟩ := DataW.trod_int Try.underlying2 hy1
  obtain ⟨s, e2, rfl, ws⟩ := DataW.trod_string Try.underlying9 hy2
  simp [A.cI, A.cL, A.cS] at e0 e1 e2
  subst e0 e1 e2
  exact ⟨a, b, s, rfl, by rw [hx]; rfl, wa, wb, ws⟩
set_option maxRecDepth 100000 in
theorem open_val {r : Reach} {b0 : Nat} {v : Value} {d : DataW H} {ps : List MemPlace} (hval : Value.okWide Try.prog W r b0 30 v) (hd : DataW.Trod enc Try.prog W base sp held 30 v d ps) :
    ∃ k n s, v = .agg #[.int .i64 k, .int .i64 n, .string s] ∧ ps = [] ∧ (Lit.int .i64 k).wf = true ∧ (Lit.int .i64 n).wf = true ∧ s.size ≤ maxLen := by
  obtain ⟨cs, rfl, hsz⟩ := okWide_struct Try.underlying30 hval
  obtain ⟨fuel, hf⟩ := hd
  obtain ⟨k, n, s, e, hx, h1, h2, h3⟩ := trod_val hf
  simp [Value.cells] at e
  exact ⟨k, n, s, by rw [← e], hx, h1, h2, h3⟩
end
end Go.Proofs.Ytipdjjgpcmbpdaa.Va
