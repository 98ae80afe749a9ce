/- Contracts of dreyref01.Bits, Number: a number's bits as a row of 64 cells, and back. -/
import Derived.Test.YtofodcnfdmlemaaRows
import Derived.Test.YtofodcnfdmlemaaPlain
import Derived.LoopTactic
import Derived.RegionTactic
import Derived.Outline
import Derived.Handy
import Derived.Laws.Rows
import Derived.Laws.CopyOwn
import Derived.Lib.Hide
namespace Go.Proofs.Ytofodcnfdmlemaa
open Go.RowKit Go.ChangeShapes Go.WideShapes Go.ChangeAt

theorem A.info64 : (Try.prog.info? 29).map (·.size) = some 64 := by kernel_rfl

set_option maxRecDepth 100000 in
set_option maxHeartbeats 400000 in
theorem bits_any (a : Int) (w : World) :
    Calls Try.prog 22 #[.int .i64 a] w fun e w' => e = .returned (.agg (row (bit (U a)))) ∧ Below w.heap.size w w' := by
  go_enter Try.func22, Try.ntmps22
  go_wp2
  go_loopw [4, 5] (fun u i wr => ∃ k x : Nat, k ≤ 64 ∧ i = .int .i64 k ∧ u = .int .u64 x ∧ x ≤ 18446744073709551615 ∧ Hid (x = U a / 2 ^ k) ∧ wr.heap[w.heap.size]? = some (.cells (row fun _ => 0) 29 (0, 0)) ∧ wr.heap[w.heap.size + 1]? = some (.cells (row (upto (bit (U a)) k)) 29 (0, 0)) ∧ Below w.heap.size w wr)
    (fun _ i _ => 64 - (intOf i).toNat)
  case atStart => exact ⟨0, U a, by omega, rfl, by rw [U_cast, ← IntKind.wrap_u64], by have := U_lt a; omega, by simp [Hid], (heap_alloc2_old _ _ _).trans (congrArg (fun c => some (Obj.cells c 29 (0, 0))) (by kernel_rfl)), (heap_alloc2_new _ _ _).trans (congrArg (fun c => some (Obj.cells c 29 (0, 0))) (by rw [row_zero]; kernel_rfl)), by go_grown⟩
  case round =>
    obtain ⟨k, x, hk, rfl, rfl, hx, HX, hres, hrow, hb⟩ := hrel
    by_cases hlt : k < 64
    · have hc : wr.cell? ⟨w.heap.size + 1, k, none⟩ = some (.int .i64 ((upto (bit (U a)) k k : Nat) : Int)) := by
        rw [cell_of_row wr _ _ _ _ _ hrow]; exact row_get _ _ hlt
      have hf : wr.frozen? ⟨w.heap.size + 1, k, none⟩ = false := frozen_of_row wr _ _ _ _ hrow
      have HR := Lib.hid hrow
      have HS := Lib.hid hres
      clear hrow hres
      go_wp2
      go_roundw
      case rel =>
        refine ⟨k + 1, x / 2, by omega, by go_num, by go_num, by omega, by rw [Hid, HX.out, bit_step], ?_, ?_, hb.setCell (by simp) _⟩
        · rw [heap_setCell_other _ _ _ _ (by simp), HS.out]
        · rw [heap_setCell_same _ _ _ _ _ _ HR.out, ← row_upto, bit, ← HX.out]; rfl
      case measure => simp [intOf]; omega
    · have HR := Lib.hid hrow
      have HS := Lib.hid hres
      clear hrow hres
      go_wp2_with (first | (refine wpList_load_row rfl 29 (.tmp 3) rfl _ rfl _ _ _ _ HR.out Try.underlying29 rfl (by rw [row_size]; exact A.info64) ?_) | (refine wpList_store_row rfl 29 (.tmp 2) (.tmp 19) rfl _ _ rfl rfl _ _ HS.out (by rw [row_size]; exact A.info64) (by simp only [row_size]) (row_one _) ?_))
      refine bodyPost_ret (results_cell_row rfl _ _ _ 29 (row (bit (U a))) (0, 0) _ rfl ?_ Try.underlying29 rfl (by rw [row_size]; exact A.info64)) rfl ⟨rfl, below_setRow hb (Nat.le_refl _) _⟩
      obtain rfl : k = 64 := by omega
      rw [setRow_heap _ _ _ _ _ _ HS.out, row_full]

set_option maxHeartbeats 400000 in
theorem number_any (f : Nat → Nat) (hf : ∀ j, j < 64 → f j ≤ 1) (w : World) :
    Calls Try.prog 38 #[.agg (row f)] w fun e w' => e = .returned (.int .i64 (wrap64 ((lo f 64 : Nat) : Int))) ∧ Below w.heap.size w w' := by
  have HF := Lib.hid hf
  clear hf
  go_enter Try.func38, Try.ntmps38
  go_wp2
  go_loop [3, 4] (fun u i => ∃ (z : Int) (k : Nat), i = .int .i64 z ∧ z + k = 63 ∧ -1 ≤ z ∧ u = .int .u64 ((hi f k : Nat) : Int))
    (fun _ i => (intOf i + 1).toNat)
  case atStart => exact ⟨63, 0, rfl, by omega, by omega, rfl⟩
  case round =>
    obtain ⟨z, k, rfl, hz, hz1, rfl⟩ := hrel
    by_cases h0 : 0 ≤ z
    · obtain ⟨j, rfl⟩ := Int.eq_ofNat_of_zero_le h0
      have hj : j < 64 := by omega
      have hs := hi_small (n := k) (by omega) HF.out
      have h1 := HF.out j hj
      have HK : Hid (63 - k = j) := by show 63 - k = j; omega
      have hc : (w.alloc (.cells (row f) 29)).cell? ⟨w.heap.size, j, none⟩ = some (.int .i64 ((f j : Nat) : Int)) := by
        rw [cell_of_row _ _ _ _ _ _ (heap_alloc_new _ _)]; exact row_get _ _ hj
      have HZ := Lib.hid hz
      clear hz
      go_wp2
      go_round
      case rel =>
        have hz := HZ.out
        exact ⟨(j : Int) - 1, k + 1, rfl, by omega, by omega, by rw [hi, HK.out]; rfl⟩
      case measure => simp [intOf]
    · have HZ := Lib.hid hz
      clear hz
      go_wp2
      go_ret
      have hk : k = 64 := by have := HZ.out; omega
      subst hk
      exact ⟨by rw [hi_64]; rfl, by go_grown⟩
end Go.Proofs.Ytofodcnfdmlemaa
