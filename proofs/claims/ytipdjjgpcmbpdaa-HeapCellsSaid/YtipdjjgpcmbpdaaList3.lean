/- slices.Insert of one value into a list's row. -/
import Derived.Test.YtipdjjgpcmbpdaaList2
import Derived.Shelf.Spec.SlicesInsert
import Derived.Deep.RegionLaw
namespace Go.Proofs.Ytipdjjgpcmbpdaa.Li
open Go.RowKit Go.ChangeShapes Go.WideShapes Go.ChangeAt Go.Proofs.Ytipdjjgpcmbpdaa.Va

theorem run_copy3 (w : World) (ty : TypeId) (g o dLen dCap : Nat) (a : Addr) (sLen sCap : Nat) (cur : Array Value) (M : List (Int × Int × ByteArray)) (hg : w.heap[g]? = some (.cells cur 30 (0, 0)))
    (hn : M.length = Nat.min sLen dLen) (hsrc : ∀ j u, (flat M)[j]? = some u → w.cell? (a.add j) = some u) (hfit : o + M.length * 3 ≤ cur.size) :
    (Builtin.copy_ #[74, 74] ty #[.slice (some ⟨g, o, none⟩) dLen dCap, .slice (some a) sLen sCap]).run Try.prog w = .ok (goInt M.length) (w.setRow g (cur.toList.take o ++ flat M ++ cur.toList.drop (o + M.length * 3)).toArray) := by
  obtain ⟨i0, hi, hz0, hz1, hz2⟩ := info_parts A.infoE
  have hl := run_firstCells_some (P := Try.prog) w 3 M.length a sLen sCap (flat M) (flat_len M) hsrc
  have hst := run_storeCells_at Try.prog g o 30 (flat M) 0 cur w hg (by rw [flat_len]; simpa using hfit) (flat_cells M)
  simp only [Nat.add_zero, flat_len] at hst
  simp [Builtin.copy_, run_underlying Try.underlying74, Builtin.lenOf, sizeOf, typeInfo, hi, hz1, ← hn, hl, hst]

theorem take_flat (L : List (Int × Int × ByteArray)) (i : Nat) (hi : i ≤ L.length) : (flat L).take (i * 3) = flat (L.take i) := by
  have h : flat L = flat (L.take i) ++ flat (L.drop i) := by rw [← flat_append, List.take_append_drop]
  rw [h, List.take_left' (by rw [flat_len, List.length_take]; omega)]
theorem drop_flat (L : List (Int × Int × ByteArray)) (i : Nat) (hi : i ≤ L.length) : (flat L).drop (i * 3) = flat (L.drop i) := by
  have h : flat L = flat (L.take i) ++ flat (L.drop i) := by rw [← flat_append, List.take_append_drop]
  rw [h, List.drop_left' (by rw [flat_len, List.length_take]; omega)]
def ins (L : List (Int × Int × ByteArray)) (i : Nat) (e : Int × Int × ByteArray) : List (Int × Int × ByteArray) := L.take i ++ e :: L.drop i
theorem ins_len (L : List (Int × Int × ByteArray)) (i : Nat) (e : Int × Int × ByteArray) (hi : i ≤ L.length) : (ins L i e).length = L.length + 1 := by
  unfold ins; rw [List.length_append, List.length_take, List.length_cons, List.length_drop]; omega
theorem flat_ins (L : List (Int × Int × ByteArray)) (i : Nat) (e : Int × Int × ByteArray) : flat (ins L i e) = flat (L.take i) ++ (cel e ++ flat (L.drop i)) := by
  unfold ins; rw [flat_append, flat_cons]
theorem cel_len (e : Int × Int × ByteArray) : (cel e).length = 3 := rfl
/-- The row behind both copies. -/
theorem two_copies (A : List Value) (L : List (Int × Int × ByteArray)) (i : Nat) (e : Int × Int × ByteArray) (hi : i ≤ L.length) (hA : A.take (L.length * 3) = flat L) (hl : (L.length + 1) * 3 ≤ A.length) (A1 : List Value)
    (h1 : A1 = A.take ((i + 1) * 3) ++ flat (L.drop i) ++ A.drop ((i + 1) * 3 + (L.drop i).length * 3)) :
    (A1.take (i * 3) ++ flat [e] ++ A1.drop (i * 3 + [e].length * 3)).take ((L.length + 1) * 3) = flat (ins L i e) ∧ (A1.take (i * 3) ++ flat [e] ++ A1.drop (i * 3 + [e].length * 3)).length = A.length := by
  have hd : (L.drop i).length = L.length - i := List.length_drop ..
  have ht : A.take (i * 3) = flat (L.take i) := by
    rw [← take_flat L i hi, ← hA, List.take_take]; congr 1; omega
  have hlen1 : (A.take ((i + 1) * 3)).length = (i + 1) * 3 := by rw [List.length_take]; omega
  have e1 : A1.take (i * 3) = flat (L.take i) := by
    rw [h1, List.append_assoc, List.take_append_of_le_length (by omega), List.take_take, show min (i * 3) ((i + 1) * 3) = i * 3 by omega, ht]
  have e2 : A1.drop (i * 3 + [e].length * 3) = flat (L.drop i) ++ A.drop ((i + 1) * 3 + (L.drop i).length * 3) := by
    rw [h1, List.append_assoc, List.drop_left' (by rw [hlen1]; simp; omega)]
  have hft : (flat (L.take i)).length = i * 3 := by rw [flat_len, List.length_take]; omega
  have hfd : (flat (L.drop i)).length = (L.length - i) * 3 := by rw [flat_len, hd]
  rw [e1, e2, flat_one]
  refine ⟨?_, ?_⟩
  · rw [List.append_assoc, ← List.append_assoc (cel e), ← List.append_assoc (flat (L.take i)), List.take_left' (by simp only [List.length_append, hft, hfd, cel_len]; omega), flat_ins]
  · simp only [List.length_append, hft, hfd, cel_len, List.length_drop, hd]; omega

/-- What slices.Insert leaves. -/
def Ins (B : Nat) (ad : Option Addr) (w w' : World) (L : List (Int × Int × ByteArray)) (v : Value) : Prop :=
  ∃ ad' cap', v = .slice ad' L.length cap' ∧ Own B ad' cap' w' L ∧ w.grownBy w' (ad.map (·.block)) ∧ ∀ g, ad'.map (·.block) = some g → ad.map (·.block) = some g ∨ w.heap.size ≤ g

end Go.Proofs.Ytipdjjgpcmbpdaa.Li
