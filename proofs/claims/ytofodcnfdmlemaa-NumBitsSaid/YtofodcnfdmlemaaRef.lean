/- Contracts of dreyref01.Add, Not, Neg, Mul: bit by bit they come to the sum, the other bits, the other sign and the product, going round. -/
import Derived.Test.YtofodcnfdmlemaaBits
import Derived.Deep.QuietTactic
import Derived.BigQuiet
import Derived.WalkSmall
namespace Go.Proofs.Ytofodcnfdmlemaa
open Go.RowKit Go.ChangeShapes Go.WideShapes Go.ChangeAt

theorem lits : (List.replicate 64 (Value.int .i64 0)).toArray = row (fun _ => 0) := by kernel_rfl

/-- Two rows laid and filled, a third one laid: what stands where. -/
theorem three (w : World) (Z X Y : Array Value) (t : TypeId) :
    (((((w.alloc (.cells Z t)).alloc (.cells Z t)).setRow w.heap.size X).setRow (w.heap.size + 1) Y).alloc (.cells Z t)).heap[w.heap.size]? = some (.cells X t (0, 0)) ∧
    (((((w.alloc (.cells Z t)).alloc (.cells Z t)).setRow w.heap.size X).setRow (w.heap.size + 1) Y).alloc (.cells Z t)).heap[w.heap.size + 1]? = some (.cells Y t (0, 0)) ∧
    (((((w.alloc (.cells Z t)).alloc (.cells Z t)).setRow w.heap.size X).setRow (w.heap.size + 1) Y).alloc (.cells Z t)).heap[w.heap.size + 1 + 1]? = some (.cells Z t (0, 0)) ∧
    Below w.heap.size w (((((w.alloc (.cells Z t)).alloc (.cells Z t)).setRow w.heap.size X).setRow (w.heap.size + 1) Y).alloc (.cells Z t)) := by
  have s0 : ((((w.alloc (.cells Z t)).alloc (.cells Z t)).setRow w.heap.size X).setRow (w.heap.size + 1) Y).heap.size = w.heap.size + 1 + 1 := by simp
  refine ⟨?_, ?_, ?_, ?_⟩
  · rw [heap_alloc_old _ _ (by omega), setRow_other _ _ _ _ (by omega), setRow_heap _ _ _ _ _ _ (heap_alloc2_old w _ _)]
  · rw [heap_alloc_old _ _ (by omega), setRow_heap _ _ _ _ _ _ ((setRow_other _ _ _ _ (by omega)).trans (heap_alloc2_new w _ _))]
  · have := heap_alloc_new ((((w.alloc (.cells Z t)).alloc (.cells Z t)).setRow w.heap.size X).setRow (w.heap.size + 1) Y) (.cells Z t)
    rwa [s0] at this
  · exact (below_setRow (below_setRow (((Below.refl _ _).alloc (Nat.le_refl _) _).alloc (by simp) _) (Nat.le_refl _) _) (by omega) _).alloc (by omega) _

set_option maxRecDepth 100000 in
set_option maxHeartbeats 800000 in
theorem radd_any (a b : Int) (w : World) :
    Calls Try.prog 12 #[.int .i64 a, .int .i64 b] w fun e w' => e = .returned (.int .i64 (wrap64 (a + b))) ∧ Below w.heap.size w w' := by
  go_enter Try.func12, Try.ntmps12
  go_wp2_with fail
  refine (bits_any a _).mono ?_
  rintro e w1 ⟨rfl, hb1⟩
  go_wp2_with fail
  refine (bits_any b _).mono ?_
  rintro e w2 ⟨rfl, hb2⟩
  go_wp2_with (first | (refine wpList_store_row rfl 29 (.tmp 5) (.tmp 12) rfl w2.heap.size (row (bit (U a))) rfl rfl 29 _ (heap_alloc2_old w2 _ _) (by rw [row_size]; exact A.info64) (by rw [row_size]; rfl) (row_one _) ?_) | (refine wpList_store_row rfl 29 (.tmp 6) (.tmp 14) rfl (w2.heap.size + 1) (row (bit (U b))) rfl rfl 29 _ ((setRow_other _ _ _ _ (by omega)).trans (heap_alloc2_new w2 _ _)) (by rw [row_size]; exact A.info64) (by rw [row_size]; rfl) (row_one _) ?_))
  obtain ⟨hx0, hy0, hz0, hb3⟩ := three w2 (List.replicate 64 (Value.int .i64 0)).toArray (row (bit (U a))) (row (bit (U b))) 29
  go_loopw [8, 9] (fun c i wr => ∃ k : Nat, k ≤ 64 ∧ i = .int .i64 k ∧ c = .int .i64 ((carry (bit (U a)) (bit (U b)) k : Nat) : Int) ∧ wr.heap[w2.heap.size]? = some (.cells (row (bit (U a))) 29 (0, 0)) ∧ wr.heap[w2.heap.size + 1]? = some (.cells (row (bit (U b))) 29 (0, 0)) ∧ wr.heap[w2.heap.size + 1 + 1]? = some (.cells (row (upto (sum (bit (U a)) (bit (U b))) k)) 29 (0, 0)) ∧ Below w2.heap.size w2 wr)
    (fun _ i _ => 64 - (intOf i).toNat)
  case atStart => exact ⟨0, by omega, rfl, rfl, hx0, hy0, hz0.trans (congrArg (fun c => some (Obj.cells c 29 (0, 0))) (by rw [row_zero]; kernel_rfl)), hb3⟩
  case round =>
    obtain ⟨k, hk, rfl, rfl, hx, hy, ho, hb⟩ := hrel
    clear hx0 hy0 hz0 hb3
    by_cases hlt : k < 64
    · have cx : wr.cell? ⟨w2.heap.size, k, none⟩ = some (.int .i64 ((bit (U a) k : Nat) : Int)) := by rw [cell_of_row wr _ _ _ _ _ hx]; exact row_get _ _ hlt
      have cy : wr.cell? ⟨w2.heap.size + 1, k, none⟩ = some (.int .i64 ((bit (U b) k : Nat) : Int)) := by rw [cell_of_row wr _ _ _ _ _ hy]; exact row_get _ _ hlt
      have co : wr.cell? ⟨w2.heap.size + 1 + 1, k, none⟩ = some (.int .i64 ((upto (sum (bit (U a)) (bit (U b))) k k : Nat) : Int)) := by rw [cell_of_row wr _ _ _ _ _ ho]; exact row_get _ _ hlt
      have fo : wr.frozen? ⟨w2.heap.size + 1 + 1, k, none⟩ = false := frozen_of_row wr _ _ _ _ ho
      have HX := Lib.hid hx
      have HY := Lib.hid hy
      have HO := Lib.hid ho
      have lx := bit_le (U a) k
      have ly := bit_le (U b) k
      have lc := carry_le (bit_le (U a)) (bit_le (U b)) k
      clear hx hy ho
      go_wp2
      go_quiet (fail)
      go_wp2
      go_roundw
      case rel =>
        refine ⟨k + 1, by omega, by go_num, ?_, ?_, ?_, ?_, (below_drewN hb _).setCell (by simp; omega) _⟩
        · simp only [carry]; congr 1
        · rw [heap_setCell_other _ _ _ _ (by first | (simp; done) | (simp; omega))]; exact HX.out
        · rw [heap_setCell_other _ _ _ _ (by first | (simp; done) | (simp; omega))]; exact HY.out
        · refine (heap_setCell_same (wr.drewN nq) _ _ _ _ _ HO.out).trans ?_
          rw [← row_upto]
          have e : (((bit (U a) k : Nat) : Int) + ((bit (U b) k : Nat) : Int) + ((carry (bit (U a)) (bit (U b)) k : Nat) : Int)) % 2 = ((sum (bit (U a)) (bit (U b)) k : Nat) : Int) := by unfold sum; omega
          rw [e]
      case measure => simp [intOf]; omega
    · have HO := Lib.hid ho
      clear hx hy ho
      go_wp2_with (first | (go_at_call 38; refine (number_any _ (fun j _ => upto_le (sum_le _ _) k j) _).mono ?_; rintro e w' ⟨rfl, hb4⟩) | (refine wpList_load_row rfl 29 (.tmp 7) rfl _ rfl _ _ _ _ HO.out Try.underlying29 rfl (by rw [row_size]; exact A.info64) ?_))
      go_ret
      have s1 := hb1.size; have s2 := hb2.size; have s3 := hb.size
      exact ⟨ret_i64 (sum_full a b (by omega)), ((hb1.trans (hb2.mono s1)).trans (hb.mono (by omega))).trans (hb4.mono (by omega))⟩

end Go.Proofs.Ytofodcnfdmlemaa
