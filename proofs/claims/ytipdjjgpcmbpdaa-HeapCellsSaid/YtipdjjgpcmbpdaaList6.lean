/- What dreylaw04.keeps asks. -/
import Derived.Test.YtipdjjgpcmbpdaaList5
namespace Go.Proofs.Ytipdjjgpcmbpdaa.Li
open Go.RowKit Go.ChangeShapes Go.WideShapes Go.ChangeAt Go.Proofs.Ytipdjjgpcmbpdaa.Va

theorem lit_src {W : World} {t : TypeId} (M : List (Int × Int × ByteArray)) : ∀ j u, (flat M)[j]? = some u → (W.alloc (.cells (flat M).toArray t)).cell? ((⟨W.heap.size, 0, none⟩ : Addr).add j) = some u := by
  intro j u hj
  rw [Go.WideShapes.add_plain, Nat.zero_add]
  simp only [World.cell?, heap_alloc_new W (.cells (flat M).toArray t)]
  simpa using hj
theorem now_low {B b : Nat} {ad : Option Addr} {w0 w w' : World} {L L' : List (Int × Int × ByteArray)} {cap : Nat} (hz : Below B w0 w) (hB : B ≤ w0.heap.size) (h : IsL B b ad cap w L) (hn : Now B b ad w w' L') : Below B w0 w' := by
  obtain ⟨_, _, _, hu, _⟩ := hn
  exact upd_below hz hu h.low (own_low h.own) hz.size hB
theorem placed_a : placed (-2) ((4 : Nat) : Int) = ((2 : Nat) : Int) := by unfold placed; rw [if_pos (by omega)]; unfold wrap64; omega
theorem placed_b : placed 4 ((4 : Nat) : Int) = ((4 : Nat) : Int) := by unfold placed; rw [if_neg (by omega)]; rfl
def E1 : Int × Int × ByteArray := (2, 1, ⟨#[]⟩)
def E2 : Int × Int × ByteArray := (2, 2, ⟨#[]⟩)
def E3 : Int × Int × ByteArray := (2, 3, ⟨#[]⟩)
def EA : Int × Int × ByteArray := (3, 0, ⟨#[97]⟩)

end Go.Proofs.Ytipdjjgpcmbpdaa.Li
