/- slices.Grow: as much room as is asked. -/
import Derived.Test.YtipdjjgpcmbpdaaList10
namespace Go.Proofs.Ytipdjjgpcmbpdaa.Li
open Go.RowKit Go.ChangeShapes Go.WideShapes Go.ChangeAt Go.Proofs.Ytipdjjgpcmbpdaa.Va

theorem run_more {B cap k : Nat} {ad : Option Addr} {w : World} {L : List (Int × Int × ByteArray)} (hk : 0 < k) (hc : cap + k ≤ 4194304) (h : Own B ad cap w L) :
    ∃ (nc : Nat) (cur : Array Value), (Builtin.append_ #[74, 3] 74 #[.slice ad cap cap, .int .i64 (k : Int)]).run Try.prog w = .ok (.slice (some ⟨w.heap.size, 0, none⟩) (cap + k) nc) (w.drew.alloc (.cells cur 30)) ∧
      cur.size = nc * 3 ∧ cur.toList.take (L.length * 3) = flat L ∧ cap + k ≤ nc ∧ nc ≤ maxLen := by
  obtain ⟨i0, hi0, hz0, hz1, hz2⟩ := info_parts A.infoE
  obtain ⟨olds, ho, hlo, hold⟩ : ∃ olds : List Value, olds.take (L.length * 3) = flat L ∧ olds.length = cap * 3 ∧ (Builtin.firstCells i0.size cap (.slice ad cap cap)).run Try.prog w.drew = .ok olds.toArray w.drew := by
    rw [hz1]
    rcases h.2 with ⟨hv, hn⟩ | ⟨g, c, cur, hv, _, hg, _, _, hcs, htake⟩
    · simp only [Value.slice.injEq] at hv
      obtain ⟨rfl, _, rfl⟩ := hv
      refine ⟨[], ?_, rfl, ?_⟩
      · rw [List.length_eq_zero_iff.1 hn]; rfl
      · simp [Builtin.firstCells]
    · simp only [Value.slice.injEq] at hv
      obtain ⟨rfl, _, rfl⟩ := hv
      refine ⟨cur.toList, htake, by rw [Array.length_toList, hcs], ?_⟩
      refine run_firstCells_some (P := Try.prog) w.drew 3 cap ⟨g, 0, none⟩ cap cap cur.toList (by rw [Array.length_toList, hcs]) fun j v hj => ?_
      rw [Go.WideShapes.add_plain]
      have hg' : w.drew.heap[g]? = some (.cells cur 30 (0, 0)) := hg
      simp only [World.cell?, hg', Nat.zero_add]
      simpa using hj
  have hr := Lib.run_append_grow_zeros (P := Try.prog) w 74 3 74 30 i0 _ .i64 .i64 Try.underlying74 Try.underlying3 hi0 hz0 ad cap cap olds hold k hk (by omega) (by omega) (by omega) (by rw [hz2]; omega) (growslice_fits (by omega) (by rw [hz2]; omega))
  have hge := grownCap_ge w (cap + k) cap 30
  have hle := grownCap_le_maxLen w (cap + k) cap 30 (by unfold maxLen; omega)
  have hLc : L.length * 3 ≤ cap * 3 := by
    have := congrArg List.length ho
    rw [List.length_take, flat_len, hlo] at this
    omega
  refine ⟨_, _, hr, ?_, ?_, hge, hle⟩
  · have hz : (Value.agg #[.int .i64 0, .int .i64 0, .string ⟨#[]⟩]).cells.size = 3 := rfl
    simp only [Array.size_append, List.size_toArray, hlo, size_zeroCells, hz]
    omega
  · simp only [Array.toList_append, List.append_assoc]
    rw [List.take_append_of_le_length (by rw [hlo]; exact hLc)]
    exact ho

theorem alloc_more (w : World) (A : Obj) : w.heap.size < (w.drew.alloc A).heap.size := by
  have h : (w.drew.alloc A).heap.size = w.drew.heap.size + 1 := by simp
  have h2 : w.drew.heap.size = w.heap.size := rfl
  omega
/-- A row as it was, in the old place or a new one. -/
def Gr (B : Nat) (ad ad' : Option Addr) (cap' : Nat) (w w' : World) (L : List (Int × Int × ByteArray)) : Prop :=
  Own B ad' cap' w' L ∧ Below w.heap.size w w' ∧ ∀ g, ad'.map (·.block) = some g → ad.map (·.block) = some g ∨ w.heap.size ≤ g
theorem own_cap {B cap : Nat} {ad : Option Addr} {w : World} {L : List (Int × Int × ByteArray)} (h : Own B ad cap w L) : L.length ≤ cap := by
  rcases h.2 with ⟨hv, e⟩ | ⟨g, c, cur, hv, _, _, hc, _⟩
  · omega
  · simp only [Value.slice.injEq] at hv; omega
end Go.Proofs.Ytipdjjgpcmbpdaa.Li
