/- Contracts of dreyref01.Not, Neg, Mul, Shift. -/
import Derived.Test.YtofodcnfdmlemaaRef
import Derived.OneCell
namespace Go.Proofs.Ytofodcnfdmlemaa
open Go.RowKit Go.ChangeShapes Go.WideShapes Go.ChangeAt

theorem onerow (w : World) (Z X : Array Value) (t : TypeId) :
    ((w.alloc (.cells Z t)).setRow w.heap.size X).heap[w.heap.size]? = some (.cells X t (0, 0)) ∧ Below w.heap.size w ((w.alloc (.cells Z t)).setRow w.heap.size X) :=
  ⟨setRow_heap _ _ _ _ _ _ (heap_alloc_new w _), below_setRow ((Below.refl _ _).alloc (Nat.le_refl _) _) (Nat.le_refl _) _⟩

set_option maxRecDepth 100000 in
set_option maxHeartbeats 800000 in
theorem rnot_any (a : Int) (w : World) :
    Calls Try.prog 19 #[.int .i64 a] w fun e w' => e = .returned (.int .i64 (wrap64 (-1 - a))) ∧ Below w.heap.size w w' := by
  go_enter Try.func19, Try.ntmps19
  go_wp2_with fail
  refine (bits_any a _).mono ?_
  rintro e w1 ⟨rfl, hb1⟩
  go_wp2_with (refine wpList_store_row rfl 29 _ _ rfl w1.heap.size (row (bit (U a))) rfl rfl 29 _ (heap_alloc_new w1 _) (by rw [row_size]; exact A.info64) (by rw [row_size]; rfl) (row_one _) ?_)
  obtain ⟨hx0, hbx⟩ := onerow w1 (List.replicate 64 (Value.int .i64 0)).toArray (row (bit (U a))) 29
  go_loopw [4] (fun i wr => ∃ k : Nat, k ≤ 64 ∧ i = .int .i64 k ∧ wr.heap[w1.heap.size]? = some (.cells (row (mix (fun j => 1 - bit (U a) j) (bit (U a)) k)) 29 (0, 0)) ∧ Below w1.heap.size w1 wr)
    (fun i _ => 64 - (intOf i).toNat)
  case atStart => exact ⟨0, by omega, rfl, by rw [row_start]; exact hx0, hbx⟩
  case round =>
    obtain ⟨k, hk, rfl, hx, hb⟩ := hrel
    clear hx0 hbx
    have HX := Lib.hid hx
    by_cases hlt : k < 64
    · have cx : wr.cell? ⟨w1.heap.size, k, none⟩ = some (.int .i64 ((bit (U a) k : Nat) : Int)) := by
        rw [cell_of_row wr _ _ _ _ _ hx, row_get _ _ hlt, mix_here]
      have fx : wr.frozen? ⟨w1.heap.size, k, none⟩ = false := frozen_of_row wr _ _ _ _ hx
      have lx := bit_le (U a) k
      clear hx
      go_wp2
      go_roundw
      case rel =>
        refine ⟨k + 1, by omega, by go_num, ?_, hb.setCell (by simp) _⟩
        refine (heap_setCell_same wr _ _ _ _ _ HX.out).trans ?_
        rw [← row_mix]
        have e : (1 : Int) - ((bit (U a) k : Nat) : Int) = ((1 - bit (U a) k : Nat) : Int) := by omega
        rw [e]
      case measure => simp [intOf]; omega
    · clear hx
      go_wp2_with (first | (go_at_call 38; refine (number_any _ (fun j _ => mix_le (fun j => Nat.sub_le 1 _) (bit_le _) k j) _).mono ?_; rintro e w' ⟨rfl, hb4⟩) | (refine wpList_load_row rfl 29 (.tmp 3) rfl _ rfl _ _ _ _ HX.out Try.underlying29 rfl (by rw [row_size]; exact A.info64) ?_))
      go_ret
      have s1 := hb1.size; have s3 := hb.size
      exact ⟨ret_i64 (not_full a (by omega)), (hb1.trans (hb.mono s1)).trans (hb4.mono (by omega))⟩

theorem rneg_any (a : Int) (w : World) :
    Calls Try.prog 14 #[.int .i64 a] w fun e w' => e = .returned (.int .i64 (wrap64 (-a))) ∧ Below w.heap.size w w' := by
  go_enter Try.func14, Try.ntmps14
  go_wp2_with fail
  refine (rnot_any a _).mono ?_
  rintro e w1 ⟨rfl, hb1⟩
  go_wp2_with fail
  refine (radd_any _ _ _).mono ?_
  rintro e w2 ⟨rfl, hb2⟩
  go_wp2_with fail
  go_ret
  exact ⟨ret_i64 (neg_wrap a), hb1.trans (hb2.mono hb1.size)⟩

set_option maxRecDepth 100000 in
set_option maxHeartbeats 800000 in
theorem rmul_any (a b : Int) (w : World) :
    Calls Try.prog 17 #[.int .i64 a, .int .i64 b] w fun e w' => e = .returned (.int .i64 (wrap64 (a * b))) ∧ Below w.heap.size w w' := by
  go_enter Try.func17, Try.ntmps17
  go_wp2_with fail
  refine (bits_any b _).mono ?_
  rintro e w1 ⟨rfl, hb1⟩
  go_wp2_with (refine wpList_store_row rfl 29 _ _ rfl w1.heap.size (row (bit (U b))) rfl rfl 29 _ (heap_alloc_new w1 _) (by rw [row_size]; exact A.info64) (by rw [row_size]; rfl) (row_one _) ?_)
  obtain ⟨hx0, hbx⟩ := onerow w1 (List.replicate 64 (Value.int .i64 0)).toArray (row (bit (U b))) 29
  go_loopw [5, 7] (fun o i wr => ∃ (z : Int) (k : Nat), i = .int .i64 z ∧ z + k = 63 ∧ -1 ≤ z ∧ o = .int .i64 (wrap64 (a * ((hi (bit (U b)) k : Nat) : Int))) ∧ wr.heap[w1.heap.size]? = some (.cells (row (bit (U b))) 29 (0, 0)) ∧ Below w1.heap.size w1 wr)
    (fun _ i _ => (intOf i + 1).toNat)
  case atStart => exact ⟨63, 0, rfl, by omega, by omega, by simp [hi, wrap64], hx0, hbx⟩
  case round =>
    obtain ⟨z, k, rfl, hz, hz1, rfl, hx, hb⟩ := hrel
    clear hx0 hbx
    have HX := Lib.hid hx
    have HZ := Lib.hid hz
    by_cases h0 : 0 ≤ z
    · obtain ⟨j, rfl⟩ := Int.eq_ofNat_of_zero_le h0
      have hj : j < 64 := by omega
      have HK : Hid (63 - k = j) := by show 63 - k = j; omega
      have hn := lt_of_block hx
      have hc : wr.cell? ⟨w1.heap.size, j, none⟩ = some (.int .i64 ((bit (U b) j : Nat) : Int)) := by
        rw [cell_of_row wr _ _ _ _ _ hx]; exact row_get _ _ hj
      have hbit := bit_lt (U b) j
      clear hx hz
      by_cases h1 : bit (U b) j = 1
      · rw [h1] at hc
        have H1 := Lib.hid h1
        have HC := Lib.hid hc
        clear h1 hc hbit
        go_wp2_with fail
        refine (radd_any _ _ _).mono ?_
        rintro e w3 ⟨rfl, hb3⟩
        have hc3 : w3.cell? ⟨w1.heap.size, j, none⟩ = some (.int .i64 1) := (hb3.cell hn).trans HC.out
        have s3 := hb3.size
        go_wp2_with fail
        refine (radd_any _ _ _).mono ?_
        rintro e w4 ⟨rfl, hb4⟩
        go_wp2_with fail
        go_roundw
        case rel =>
          have hz := HZ.out
          have s0 := hb.size
          exact ⟨(j : Int) - 1, k + 1, rfl, by omega, by omega, by rw [mul_step1 _ _ _ (HK.out ▸ H1.out)], (hb4.block _ (by omega)).trans ((hb3.block _ hn).trans HX.out), (hb.trans (hb3.mono (by omega))).trans (hb4.mono (by omega))⟩
        case measure => simp [intOf]
      · have h1' : bit (U b) j = 0 := by omega
        rw [h1'] at hc
        have H1 := Lib.hid h1'
        have HC := Lib.hid hc
        clear h1 h1' hc hbit
        go_wp2_with fail
        refine (radd_any _ _ _).mono ?_
        rintro e w3 ⟨rfl, hb3⟩
        have hc3 : w3.cell? ⟨w1.heap.size, j, none⟩ = some (.int .i64 0) := (hb3.cell hn).trans HC.out
        go_wp2_with fail
        go_roundw
        case rel =>
          have hz := HZ.out
          have s0 := hb.size
          exact ⟨(j : Int) - 1, k + 1, rfl, by omega, by omega, by rw [mul_step0 _ _ _ (HK.out ▸ H1.out)], (hb3.block _ hn).trans HX.out, hb.trans (hb3.mono (by omega))⟩
        case measure => simp [intOf]
    · clear hx hz
      go_wp2
      go_ret
      have s1 := hb1.size
      obtain rfl : k = 64 := by have := HZ.out; omega
      exact ⟨ret_i64 (mul_wrap a b), hb1.trans (hb.mono s1)⟩
end Go.Proofs.Ytofodcnfdmlemaa
