/- dreylaw04.same: a list that has just these values; dreylaw04.right. -/
import Derived.Test.YtipdjjgpcmbpdaaList6
namespace Go.Proofs.Ytipdjjgpcmbpdaa.Li
open Go.RowKit Go.ChangeShapes Go.WideShapes Go.ChangeAt Go.Proofs.Ytipdjjgpcmbpdaa.Va

/-- Values at a place of memory. -/
def At (w : World) (g off : Nat) (L : List (Int × Int × ByteArray)) : Prop :=
  ∀ (i : Nat) (h : i < L.length), w.cell? ⟨g, off + i * 3, none⟩ = some (.int .i64 (L[i]).1) ∧ w.cell? ⟨g, off + i * 3 + 1, none⟩ = some (.int .i64 (L[i]).2.1) ∧ w.cell? ⟨g, off + i * 3 + 2, none⟩ = some (.string (L[i]).2.2)
theorem at_below {w w' : World} {B g off : Nat} {L : List (Int × Int × ByteArray)} (h : At w g off L) (hb : Below B w w') (hg : g < B) : At w' g off L := fun i hi =>
  ⟨cell_below hb hg (h i hi).1, cell_below hb hg (h i hi).2.1, cell_below hb hg (h i hi).2.2⟩

end Go.Proofs.Ytipdjjgpcmbpdaa.Li
