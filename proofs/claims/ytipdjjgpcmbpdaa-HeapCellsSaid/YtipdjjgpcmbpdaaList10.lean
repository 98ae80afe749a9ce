/- slices.Reverse, list.Reverse: as many values as before, in the old row. -/
import Derived.Test.YtipdjjgpcmbpdaaList9
import Derived.BigRegion
namespace Go.Proofs.Ytipdjjgpcmbpdaa.Li
open Go.RowKit Go.ChangeShapes Go.WideShapes Go.ChangeAt Go.Proofs.Ytipdjjgpcmbpdaa.Va

theorem flat_set : ∀ (L : List (Int × Int × ByteArray)) (i : Nat) (e : Int × Int × ByteArray), flat (L.set i e) = (((flat L).set (i * 3) (.int .i64 e.1)).set (i * 3 + 1) (.int .i64 e.2.1)).set (i * 3 + 2) (.string e.2.2)
  | [], i, e => by simp [flat]
  | x :: L, 0, e => by simp [flat_cons, cel]
  | x :: L, i + 1, e => by
    have ih := flat_set L i e
    rw [List.set_cons_succ, flat_cons, ih, flat_cons]
    have h0 : (i + 1) * 3 = (cel x).length + i * 3 := by simp [cel]; omega
    rw [h0, List.set_append_right _ _ (by omega), List.set_append_right _ _ (by omega), List.set_append_right _ _ (by omega)]
    congr 1
    rw [show (cel x).length + i * 3 - (cel x).length = i * 3 by omega, show (cel x).length + i * 3 + 1 - (cel x).length = i * 3 + 1 by omega, show (cel x).length + i * 3 + 2 - (cel x).length = i * 3 + 2 by omega]
theorem own_set {B g cap : Nat} {w : World} {L : List (Int × Int × ByteArray)} (h : Own B (some ⟨g, 0, none⟩) cap w L) (i : Nat) (e : Int × Int × ByteArray) :
    Own B (some ⟨g, 0, none⟩) cap (((w.setCell ⟨g, i * 3, none⟩ (.int .i64 e.1)).setCell ⟨g, i * 3 + 1, none⟩ (.int .i64 e.2.1)).setCell ⟨g, i * 3 + 2, none⟩ (.string e.2.2)) (L.set i e) := by
  show World.ownsRow _ _ _ _ _ _ _
  rw [flat_set, List.length_set]
  have h1 := (World.ownsRow.stored h (i * 3) (.int .i64 e.1)).1
  have h2 := (World.ownsRow.stored h1 (i * 3 + 1) (.int .i64 e.2.1)).1
  exact (World.ownsRow.stored h2 (i * 3 + 2) (.string e.2.2)).1
theorem upd_set {b g : Nat} {w w' : World} (h : Upd b (some ⟨g, 0, none⟩) w w') (o : Nat) (v : Value) : Upd b (some ⟨g, 0, none⟩) w (w'.setCell ⟨g, o, none⟩ v) :=
  ⟨h.os, h.tape, h.output, by simpa [World.setCell] using h.size, fun k hk h1 h2 => by
    have : (w'.setCell ⟨g, o, none⟩ v).heap[k]? = w'.heap[k]? := by
      simp only [World.setCell, Array.getElem?_modify]
      rw [if_neg (fun e => h2 (congrArg some e))]
    rw [this]; exact h.block k hk h1 h2⟩

/-- A row has as many values as before; nothing else has turned. -/
def RowSame (B g cap : Nat) (w w' : World) (L : List (Int × Int × ByteArray)) : Prop := Own B (some ⟨g, 0, none⟩) cap w' L ∧ w.grownBy w' (some g)
theorem grown_set {g : Nat} {w w' : World} (h : w.grownBy w' (some g)) (o : Nat) (v : Value) : w.grownBy (w'.setCell ⟨g, o, none⟩ v) (some g) :=
  ⟨h.os, h.tape, h.output, by simpa [World.setCell] using h.size, fun k hk h2 => by
    have : (w'.setCell ⟨g, o, none⟩ v).heap[k]? = w'.heap[k]? := by
      simp only [World.setCell, Array.getElem?_modify]
      rw [if_neg (fun e => h2 (congrArg some (Eq.symm e)))]
    rw [this]; exact h.block k hk h2⟩
theorem rows_set {B g cap : Nat} {w w' : World} {L : List (Int × Int × ByteArray)} (h : RowSame B g cap w w' L) (i : Nat) (e : Int × Int × ByteArray) :
    RowSame B g cap w (((w'.setCell ⟨g, i * 3, none⟩ (.int .i64 e.1)).setCell ⟨g, i * 3 + 1, none⟩ (.int .i64 e.2.1)).setCell ⟨g, i * 3 + 2, none⟩ (.string e.2.2)) (L.set i e) :=
  ⟨own_set h.1 i e, grown_set (grown_set (grown_set h.2 _ _) _ _) _ _⟩

theorem rows_drew {B g cap : Nat} {w w' : World} {L : List (Int × Int × ByteArray)} (h : RowSame B g cap w w' L) : RowSame B g cap w w'.drew L := ⟨⟨h.1.1, h.1.2⟩, ⟨h.2.os, h.2.tape, h.2.output, h.2.size, h.2.block⟩⟩
theorem upd_row {b g : Nat} {w w' : World} (h : w.grownBy w' (some g)) : Upd b (some ⟨g, 0, none⟩) w w' := ⟨h.os, h.tape, h.output, h.size, fun k hk _ h2 => h.block k hk (fun e => h2 (by rw [e]; rfl))⟩
end Go.Proofs.Ytipdjjgpcmbpdaa.Li
