/- Contract of dreyref01.Shift. -/
import Derived.Test.YtofodcnfdmlemaaRef2
import Derived.Test.YtofodcnfdmlemaaShift
namespace Go.Proofs.Ytofodcnfdmlemaa
open Go.RowKit Go.ChangeShapes Go.WideShapes Go.ChangeAt

/-- The bits of a number, moved by so many, with a bit put in on the right side. -/
def mv (u : Nat) (m : Int) (d i : Nat) : Nat := if 0 ≤ (i : Int) - m ∧ (i : Int) - m < 64 then bit u ((i : Int) - m).toNat else if 0 ≤ m then 0 else d
theorem mv_le (u : Nat) (m : Int) (d : Nat) (h : d ≤ 1) (i : Nat) : mv u m d i ≤ 1 := by unfold mv; split; exact bit_le _ _; split; omega; exact h
theorem row_put (g : Nat → Nat) (k : Nat) (v : Int) (h : v = ((g k : Nat) : Int)) : (row (upto g k)).setIfInBounds k (.int .i64 v) = row (upto g (k + 1)) := by rw [h, row_upto]
theorem row_over (f : Nat → Nat) (k a : Nat) (v : Int) : ((row f).setIfInBounds k (.int .i64 (a : Int))).setIfInBounds k (.int .i64 v) = (row f).setIfInBounds k (.int .i64 v) := by simp

theorem row_over0 (f : Nat → Nat) (k : Nat) (v : Int) : ((row f).setIfInBounds k (.int .i64 0)).setIfInBounds k (.int .i64 v) = (row f).setIfInBounds k (.int .i64 v) := by simp

set_option maxRecDepth 100000 in
set_option maxHeartbeats 2000000 in
theorem rshift_any (a m : Int) (d : Nat) (hd : d ≤ 1) (h1 : -64 < m) (h2 : m < 64) (w : World) :
    Calls Try.prog 27 #[.int .i64 a, .int .i64 m, .int .i64 (d : Int)] w fun e w' => e = .returned (.int .i64 (wrap64 ((lo (mv (U a) m d) 64 : Nat) : Int))) ∧ Below w.heap.size w w' := by
  go_enter Try.func27, Try.ntmps27
  go_wp2_with fail
  refine (bits_any a _).mono ?_
  rintro e w1 ⟨rfl, hb1⟩
  go_wp2_with (refine wpList_store_row rfl 29 _ _ rfl w1.heap.size (row (bit (U a))) rfl rfl 29 _ (heap_alloc_new w1 _) (by rw [row_size]; exact A.info64) (by rw [row_size]; rfl) (row_one _) ?_)
  obtain ⟨hx0, hbx⟩ := onerow w1 (List.replicate 64 (Value.int .i64 0)).toArray (row (bit (U a))) 29
  obtain ⟨W, hW⟩ : ∃ W, W = (w1.alloc (.cells (List.replicate 64 (Value.int .i64 0)).toArray 29)).setRow w1.heap.size (row (bit (U a))) := ⟨_, rfl⟩
  have hWs : W.heap.size = w1.heap.size + 1 := by rw [hW]; simp [World.setRow]
  have q0 : (W.alloc (.cells (List.replicate 64 (Value.int .i64 0)).toArray 29)).heap[w1.heap.size]? = some (.cells (row (bit (U a))) 29 (0, 0)) := by
    rw [Below.heap_alloc W _ _ (by omega), hW]; exact hx0
  have q1 : (W.alloc (.cells (List.replicate 64 (Value.int .i64 0)).toArray 29)).heap[w1.heap.size + 1]? = some (.cells (row (upto (mv (U a) m d) 0)) 29 (0, 0)) := by
    rw [← hWs, heap_alloc_new W, row_zero]; exact congrArg (fun c => some (Obj.cells c 29 (0, 0))) (by kernel_rfl)
  have q2 : Below w1.heap.size w1 (W.alloc (.cells (List.replicate 64 (Value.int .i64 0)).toArray 29)) := by
    refine Below.alloc ?_ (by omega) _
    rw [hW]; exact hbx
  rw [hW] at q0 q1 q2
  clear hW hWs
  have gle := mv_le (U a) m d hd
  go_loopw [9] (fun i wr => ∃ k : Nat, k ≤ 64 ∧ i = .int .i64 k ∧ wr.heap[w1.heap.size]? = some (.cells (row (bit (U a))) 29 (0, 0)) ∧ wr.heap[w1.heap.size + 1]? = some (.cells (row (upto (mv (U a) m d) k)) 29 (0, 0)) ∧ Below w1.heap.size w1 wr)
    (fun i _ => 64 - (intOf i).toNat)
  case atStart => exact ⟨0, by omega, rfl, q0, q1, q2⟩
  case round =>
    clear q0 q1 q2 hx0 hbx
    obtain ⟨k, hk, rfl, hx, ho, hb⟩ := hrel
    by_cases hlt : k < 64
    · have co : wr.cell? ⟨w1.heap.size + 1, k, none⟩ = some (.int .i64 ((upto (mv (U a) m d) k k : Nat) : Int)) := by
        rw [cell_of_row wr _ _ _ _ _ ho, row_get _ _ hlt]
      have fo : wr.frozen? ⟨w1.heap.size + 1, k, none⟩ = false := frozen_of_row wr _ _ _ _ ho
      have HX := Lib.hid hx
      have HO := Lib.hid ho
      have h4 : (0 ≤ m ∧ (k : Int) < m) ∨ (0 ≤ m ∧ m ≤ (k : Int)) ∨ (m < 0 ∧ (k : Int) - m < 64) ∨ (m < 0 ∧ 64 ≤ (k : Int) - m) := by omega
      rcases h4 with ⟨p1, p2⟩ | ⟨p1, p2⟩ | ⟨p1, p2⟩ | ⟨p1, p2⟩
      · have hv : Hid ((0 : Int) = ((mv (U a) m d k : Nat) : Int)) := by show _ = _; unfold mv; rw [if_neg (by omega), if_pos p1]; rfl
        clear hx ho
        go_wp2_with fail
        go_roundw
        case rel =>
          refine ⟨k + 1, by omega, by go_num, ?_, ?_, (hb.setCell (by simp) _).setCell (by simp) _⟩
          · rw [heap_setCell_other _ _ _ _ (by simp), heap_setCell_other _ _ _ _ (by simp)]; exact HX.out
          · rw [heap_setCell_same _ _ _ _ _ _ (heap_setCell_same _ _ _ _ _ _ HO.out), row_over, row_put _ _ _ hv.out]
        case measure => simp [intOf]; omega
      · obtain ⟨n, hn⟩ := Int.eq_ofNat_of_zero_le (a := (k : Int) - m) (by omega)
        have hn64 : n < 64 := by omega
        have hv : Hid (((bit (U a) n : Nat) : Int) = ((mv (U a) m d k : Nat) : Int)) := by show _ = _; unfold mv; rw [if_pos (by omega), hn]; rfl
        have cx : wr.cell? ⟨w1.heap.size, n, none⟩ = some (.int .i64 ((bit (U a) n : Nat) : Int)) := by
          rw [cell_of_row wr _ _ _ _ _ hx, row_get _ _ hn64]
        clear hx ho
        go_wp2_with fail
        go_roundw
        case rel =>
          refine ⟨k + 1, by omega, by go_num, ?_, ?_, ((hb.setCell (by simp) _).setCell (by simp) _).setCell (by simp) _⟩
          · rw [heap_setCell_other _ _ _ _ (by simp), heap_setCell_other _ _ _ _ (by simp), heap_setCell_other _ _ _ _ (by simp)]; exact HX.out
          · rw [heap_setCell_same _ _ _ _ _ _ (heap_setCell_same _ _ _ _ _ _ (heap_setCell_same _ _ _ _ _ _ HO.out)), row_over, row_over0, row_put _ _ _ hv.out]
        case measure => simp [intOf]; omega
      · obtain ⟨n, hn⟩ := Int.eq_ofNat_of_zero_le (a := (k : Int) - m) (by omega)
        have hn64 : n < 64 := by omega
        have hv : Hid (((bit (U a) n : Nat) : Int) = ((mv (U a) m d k : Nat) : Int)) := by show _ = _; unfold mv; rw [if_pos (by omega), hn]; rfl
        have cx : wr.cell? ⟨w1.heap.size, n, none⟩ = some (.int .i64 ((bit (U a) n : Nat) : Int)) := by
          rw [cell_of_row wr _ _ _ _ _ hx, row_get _ _ hn64]
        clear hx ho
        go_wp2_with fail
        go_roundw
        case rel =>
          refine ⟨k + 1, by omega, by go_num, ?_, ?_, (hb.setCell (by simp) _).setCell (by simp) _⟩
          · rw [heap_setCell_other _ _ _ _ (by simp), heap_setCell_other _ _ _ _ (by simp)]; exact HX.out
          · rw [heap_setCell_same _ _ _ _ _ _ (heap_setCell_same _ _ _ _ _ _ HO.out), row_over, row_put _ _ _ hv.out]
        case measure => simp [intOf]; omega
      · have hv : Hid ((d : Int) = ((mv (U a) m d k : Nat) : Int)) := by show _ = _; unfold mv; rw [if_neg (by omega), if_neg (by omega)]
        clear hx ho
        go_wp2_with fail
        go_roundw
        case rel =>
          refine ⟨k + 1, by omega, by go_num, ?_, ?_, hb.setCell (by simp) _⟩
          · rw [heap_setCell_other _ _ _ _ (by simp)]; exact HX.out
          · rw [heap_setCell_same _ _ _ _ _ _ HO.out, row_put _ _ _ hv.out]
        case measure => simp [intOf]; omega
    · obtain rfl : k = 64 := by omega
      rw [row_full] at ho
      have HO := Lib.hid ho
      clear hx ho
      go_wp2_with (first | (go_at_call 38; refine (number_any _ (fun j _ => gle j) _).mono ?_; rintro e w' ⟨rfl, hb4⟩) | (refine wpList_load_row rfl 29 (.tmp 8) rfl _ rfl _ _ _ _ HO.out Try.underlying29 rfl (by rw [row_size]; exact A.info64) ?_))
      go_ret
      have s1 := hb1.size; have s3 := hb.size
      exact ⟨rfl, (hb1.trans (hb.mono s1)).trans (hb4.mono (by omega))⟩

/-- To the left; to the right, with a bit put in. -/
theorem mv_left (u m d : Nat) : lo (mv u (m : Int) d) 64 = lo (shl u m) 64 := by
  refine lo_congr 64 fun j hj => ?_
  unfold mv shl
  by_cases h : m ≤ j
  · rw [if_pos (by omega), if_pos h]; congr 1; omega
  · rw [if_neg (by omega), if_pos (by omega), if_neg h]
theorem mv_right (u m d : Nat) (hm : m < 64) : lo (mv u (-(m : Int)) d) 64 = lo (shr u m d) 64 := by
  refine lo_congr 64 fun j hj => ?_
  unfold mv shr
  by_cases h : j + m < 64
  · rw [if_pos (by omega), if_pos h]; congr 1; omega
  · rw [if_neg (by omega), if_neg h, if_neg (by omega)]
end Go.Proofs.Ytofodcnfdmlemaa
