/- slices.Grow: as much room as is asked. -/
import Derived.Test.YtfngndbpgegnaaaList10
namespace Go.Proofs.Ytfngndbpgegnaaa.Li
open Go.RowKit Go.ChangeShapes Go.WideShapes Go.ChangeAt Go.Proofs.Ytfngndbpgegnaaa.Va

theorem run_more {B cap k : Nat} {ad : Option Addr} {w : World} {L : List (Int × Int × ByteArray)} (hk : 0 < k) (hc : cap + k ≤ 4194304) (h : Own B ad cap w L) :
    ∃ (nc : Nat) (cur : Array Value), (Builtin.append_ #[25, 3] 25 #[.slice ad cap cap, .int .i64 (k : Int)]).run Try.prog w = .ok (.slice (some ⟨w.heap.size, 0, none⟩) (cap + k) nc) (w.drew.alloc (.cells cur 30)) ∧
      cur.size = nc * 3 ∧ cur.toList.take (L.length * 3) = flat L ∧ cap + k ≤ nc ∧ nc ≤ maxLen := by
  obtain ⟨i0, hi0, hz0, hz1, hz2⟩ := info_parts A.infoE
  obtain ⟨olds, ho, hlo, hold⟩ : ∃ olds : List Value, olds.take (L.length * 3) = flat L ∧ olds.length = cap * 3 ∧ (Builtin.firstCells i0.size cap (.slice ad cap cap)).run Try.prog w.drew = .ok olds.toArray w.drew := by
    rw [hz1]
    rcases h.2 with ⟨hv, hn⟩ | ⟨g, c, cur, hv, _, hg, _, _, hcs, htake⟩
    · simp only [Value.slice.injEq] at hv
      obtain ⟨rfl, _, rfl⟩ := hv
      refine ⟨[], ?_, rfl, ?_⟩
      · rw [List.length_eq_zero_iff.1 hn]; rfl
      · simp [Builtin.firstCells]
    · simp only [Value.slice.injEq] at hv
      obtain ⟨rfl, _, rfl⟩ := hv
      refine ⟨cur.toList, htake, by rw [Array.length_toList, hcs], ?_⟩
      refine run_firstCells_some (P := Try.prog) w.drew 3 cap ⟨g, 0, none⟩ cap cap cur.toList (by rw [Array.length_toList, hcs]) fun j v hj => ?_
      rw [Go.WideShapes.add_plain]
      have hg' : w.drew.heap[g]? = some (.cells cur 30 (0, 0)) := hg
      simp only [World.cell?, hg', Nat.zero_add]
      simpa using hj
  have hr := Lib.run_append_grow_zeros (P := Try.prog) w 25 3 25 30 i0 _ .i64 .i64 Try.underlying25 Try.underlying3 hi0 hz0 ad cap cap olds hold k hk (by omega) (by omega) (by omega) (by rw [hz2]; omega) (growslice_fits (by omega) (by rw [hz2]; omega))
  have hge := grownCap_ge w (cap + k) cap 30
  have hle := grownCap_le_maxLen w (cap + k) cap 30 (by unfold maxLen; omega)
  have hLc : L.length * 3 ≤ cap * 3 := by
    have := congrArg List.length ho
    rw [List.length_take, flat_len, hlo] at this
    omega
  refine ⟨_, _, hr, ?_, ?_, hge, hle⟩
  · have hz : (Value.agg #[.int .i64 0, .int .i64 0, .string ⟨#[]⟩]).cells.size = 3 := rfl
    simp only [Array.size_append, List.size_toArray, hlo, size_zeroCells, hz]
    omega
  · simp only [Array.toList_append, List.append_assoc]
    rw [List.take_append_of_le_length (by rw [hlo]; exact hLc)]
    exact ho

theorem alloc_more (w : World) (A : Obj) : w.heap.size < (w.drew.alloc A).heap.size := by
  have h : (w.drew.alloc A).heap.size = w.drew.heap.size + 1 := by simp
  have h2 : w.drew.heap.size = w.heap.size := rfl
  omega
/-- A row as it was, in the old place or a new one. -/
def Gr (B : Nat) (ad ad' : Option Addr) (cap' : Nat) (w w' : World) (L : List (Int × Int × ByteArray)) : Prop :=
  Own B ad' cap' w' L ∧ Below w.heap.size w w' ∧ ∀ g, ad'.map (·.block) = some g → ad.map (·.block) = some g ∨ w.heap.size ≤ g
theorem own_cap {B cap : Nat} {ad : Option Addr} {w : World} {L : List (Int × Int × ByteArray)} (h : Own B ad cap w L) : L.length ≤ cap := by
  rcases h.2 with ⟨hv, e⟩ | ⟨g, c, cur, hv, _, _, hc, _⟩
  · omega
  · simp only [Value.slice.injEq] at hv; omega
set_option maxRecDepth 100000 in
set_option maxHeartbeats 1000000 in
theorem grow_any (B n : Nat) (ad : Option Addr) (cap : Nat) (L : List (Int × Int × ByteArray)) (hl : L.length ≤ 1048576) (hn : n ≤ 1048576) (hcm : cap ≤ maxLen) (w : World) (hB : B ≤ w.heap.size) (h : Own B ad cap w L) :
    Calls Try.prog 70 #[.slice ad L.length cap, .int .i64 (n : Int)] w fun e w' => ∃ ad' cap', e = .returned (.slice ad' L.length cap') ∧ Gr B ad ad' cap' w w' L := by
  have hcap := own_cap h
  have hcap2 : (L.length : Int) ≤ (cap : Int) := by omega
  by_cases hroom : n + L.length ≤ cap
  · have HG : Hid (Gr B ad ad cap w w L) := ⟨h, Below.refl _ _, fun g e => Or.inl e⟩
    clear h
    have hw1 : IntKind.i64.wrap ((cap : Int) - (L.length : Int)) = (cap : Int) - (L.length : Int) := by rw [IntKind.wrap_i64]; unfold maxLen at hcm; omega
    have hw2 : IntKind.i64.wrap ((n : Int) - ((cap : Int) - (L.length : Int))) = (n : Int) - ((cap : Int) - (L.length : Int)) := by rw [IntKind.wrap_i64]; unfold maxLen at hcm; omega
    have h0 : ¬ (0 : Int) < (n : Int) - ((cap : Int) - (L.length : Int)) := by omega
    go_enter Try.func70, Try.ntmps70
    go_wp2_with fail
    go_ret
    exact ⟨ad, cap, rfl, HG.out⟩
  · obtain ⟨k, hk⟩ : ∃ k, k + cap = n + L.length := ⟨n + L.length - cap, by omega⟩
    obtain ⟨nc, cur, hr, hsz, htk, hnc, hncm⟩ := run_more (k := k) (by omega) (by omega) h
    have HG : Hid (Gr B ad (some ⟨w.heap.size, 0, none⟩) nc w (w.drew.alloc (.cells cur 30)) L) :=
      ⟨⟨flat_len _, .inr ⟨w.heap.size, nc, cur, rfl, hB, heap_alloc_new w.drew _, by omega, hncm, hsz, htk⟩⟩, ⟨rfl, rfl, rfl, Nat.le_of_lt (alloc_more w _), fun j hj => heap_alloc_old w.drew _ hj⟩, fun g e => Or.inr (by simp at e; omega)⟩
    have hk1 : (n : Int) - ((cap : Int) - (L.length : Int)) = (k : Int) := by omega
    have hk0 : (0 : Int) < (k : Int) := by omega
    have hb1 : (L.length : Int) ≤ (nc : Int) := by omega
    have hb2 : L.length ≤ nc := by omega
    clear h htk hsz
    go_enter Try.func70, Try.ntmps70
    go_wp2_with (at_builtin; refine Lib.wpList_append_run _ rfl _ _ _ _ rfl _ _ rfl rfl _ _ hr ?_)
    go_ret
    exact ⟨_, nc, rfl, HG.out⟩
end Go.Proofs.Ytfngndbpgegnaaa.Li
