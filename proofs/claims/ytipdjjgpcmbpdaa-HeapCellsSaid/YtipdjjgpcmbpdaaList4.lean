/- slices.Insert of one value where there is no room; list.Insert. -/
import Derived.Test.YtipdjjgpcmbpdaaList3
import Derived.BigRegion
namespace Go.Proofs.Ytipdjjgpcmbpdaa.Li
open Go.RowKit Go.ChangeShapes Go.WideShapes Go.ChangeAt Go.Proofs.Ytipdjjgpcmbpdaa.Va

theorem run_room {B cap g i k : Nat} {w : World} {L : List (Int × Int × ByteArray)} (hl : L.length ≤ 1048576) (hi : i < L.length) (hk : i + k = L.length + 1) (hc : cap < L.length + 1) (h : Own B (some ⟨g, 0, none⟩) cap w L) :
    ∃ (nc : Nat) (cur : Array Value), (Builtin.append_ #[74, 3] 74 #[.slice (some ⟨g, 0, none⟩) i cap, .int .i64 (k : Int)]).run Try.prog w = .ok (.slice (some ⟨w.heap.size, 0, none⟩) (L.length + 1) nc) (w.drew.alloc (.cells cur 30)) ∧
      cur.size = nc * 3 ∧ cur.toList.take (i * 3) = flat (L.take i) ∧ L.length + 1 ≤ nc ∧ nc ≤ maxLen := by
  obtain ⟨i0, hi0, hz0, hz1, hz2⟩ := info_parts A.infoE
  have hcells := World.ownsRow.cells h (g := g) rfl
  have hft : (flat (L.take i)).length = i * 3 := by rw [flat_len, List.length_take]; omega
  have hold : (Builtin.firstCells i0.size i (.slice (some ⟨g, 0, none⟩) i cap)).run Try.prog w.drew = .ok (flat (L.take i)).toArray w.drew := by
    rw [hz1]
    refine run_firstCells_some (P := Try.prog) w.drew 3 i ⟨g, 0, none⟩ i cap _ hft fun j v hj => ?_
    have hj' : (flat L)[j]? = some v := by
      rw [← take_flat L i (by omega)] at hj
      rw [List.getElem?_take] at hj
      split at hj
      · exact hj
      · cases hj
    exact hcells j v hj'
  have hr := Lib.run_append_grow_zeros (P := Try.prog) w 74 3 74 30 i0 _ .i64 .i64 Try.underlying74 Try.underlying3 hi0 hz0 (some ⟨g, 0, none⟩) i cap (flat (L.take i)) hold k (by omega) (by omega) (by omega) (by omega) (by rw [hz2]; omega) (growslice_fits (by omega) (by rw [hz2]; omega))
  rw [hk] at hr
  have hge := grownCap_ge w (L.length + 1) cap 30
  have hle := grownCap_le_maxLen w (L.length + 1) cap 30 (by unfold maxLen; omega)
  refine ⟨_, _, hr, ?_, ?_, hge, hle⟩
  · have hz : (Value.agg #[.int .i64 0, .int .i64 0, .string ⟨#[]⟩]).cells.size = 3 := rfl
    simp only [Array.size_append, List.size_toArray, hft, size_zeroCells, hz]
    omega
  · simp only [Array.toList_append, List.append_assoc]
    rw [List.take_left' hft]

theorem two_copies' (A : List Value) (L : List (Int × Int × ByteArray)) (i : Nat) (e : Int × Int × ByteArray) (hi : i ≤ L.length) (hA : A.take (i * 3) = flat (L.take i)) (hl : (L.length + 1) * 3 ≤ A.length) (A1 : List Value)
    (h1 : A1 = A.take (i * 3) ++ flat [e] ++ A.drop (i * 3 + [e].length * 3)) :
    (A1.take ((i + 1) * 3) ++ flat (L.drop i) ++ A1.drop ((i + 1) * 3 + (L.drop i).length * 3)).take ((L.length + 1) * 3) = flat (ins L i e) ∧ (A1.take ((i + 1) * 3) ++ flat (L.drop i) ++ A1.drop ((i + 1) * 3 + (L.drop i).length * 3)).length = A.length ∧ A1.length = A.length := by
  have hd : (L.drop i).length = L.length - i := List.length_drop ..
  have hft : (flat (L.take i)).length = i * 3 := by rw [flat_len, List.length_take]; omega
  have hfd : (flat (L.drop i)).length = (L.length - i) * 3 := by rw [flat_len, hd]
  rw [hA, flat_one] at h1
  have hA1 : A1.length = A.length := by rw [h1]; simp only [List.length_append, hft, cel_len, List.length_drop, List.length_singleton]; omega
  have e1 : A1.take ((i + 1) * 3) = flat (L.take i) ++ cel e := by
    rw [h1, List.take_left' (by simp only [List.length_append, hft, cel_len]; omega)]
  rw [e1]
  refine ⟨?_, ?_, hA1⟩
  · rw [List.take_left' (by simp only [List.length_append, hft, hfd, cel_len]; omega), flat_ins, List.append_assoc]
  · simp only [List.length_append, hft, hfd, cel_len, List.length_drop, hd, hA1]; omega

theorem ins_split {B : Nat} {ad : Option Addr} {W w1 : World} {L' : List (Int × Int × ByteArray)} {v : Value} (hI : Ins B ad W w1 L' v) : ∃ ad' cap', v = .slice ad' L'.length cap' := by
  obtain ⟨ad', cap', h, _⟩ := hI
  exact ⟨ad', cap', h⟩
theorem ins_cell {B b cap : Nat} {ad : Option Addr} {W w1 : World} {L L' : List (Int × Int × ByteArray)} {v : Value} (hI : Ins B ad W w1 L' v) (h : IsL B b ad cap W L) : w1.heap[b]? = some (.cells #[.slice ad L.length cap] 120 (0, 0)) := by
  obtain ⟨ad', cap', rfl, ho, hg, hf⟩ := hI
  exact (hg.block b (lt_of_block h.blk) (fun e => own_apart h.own h.blk e.symm)).trans h.blk
theorem now_ins {B b cap : Nat} {ad : Option Addr} {w W w1 : World} {L L' : List (Int × Int × ByteArray)} {v : Value} (hb : Below w.heap.size w W) (h : IsL B b ad cap W L) (hI : Ins B ad W w1 L' v) : Now B b ad w (w1.setCell ⟨b, 0, none⟩ v) L' := by
  have hc := ins_cell hI h
  obtain ⟨ad', cap', rfl, ho, hg, hf⟩ := hI
  obtain ⟨a1, c1, h1, hu, hfr⟩ := now_store h.low ho hc hg hf L'.length rfl
  exact ⟨a1, c1, h1, ⟨hu.os.trans hb.os, hu.tape.trans hb.tape, hu.output.trans hb.output, Nat.le_trans hb.size hu.size, fun k hk h1 h2 => (hu.block k (Nat.lt_of_lt_of_le hk hb.size) h1 h2).trans (hb.block k hk)⟩, fun g hg => (hfr g hg).imp id fun h => Nat.le_trans hb.size h⟩

end Go.Proofs.Ytipdjjgpcmbpdaa.Li
