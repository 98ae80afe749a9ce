/- 'NumBits': the walk. -/
import Derived.Test.YtofodcnfdmlemaaBitw
import Derived.Test.YtofodcnfdmlemaaLawA
namespace Go.Proofs.Ytofodcnfdmlemaa
open Go.RowKit Go.ChangeShapes Go.WideShapes Go.ChangeAt

structure BelowBy (B : Nat) (W : World) where
  x : World
  h : Below B W x
instance (B : Nat) (W : World) : Inhabited (BelowBy B W) := ⟨⟨W, Below.refl _ _⟩⟩
theorem wp_region_quiet_below {P : Program} {id : Nat} {Q : Exit → Act → World → Prop} {a : Act} {w : World} {l : List Oper} (hm : P.follows .mixedOrders = true) (hB : Region.lexB .any l.toArray = true)
    (h : wpQuiet P l.toArray (fun w' => ∃ p : BelowBy w.heap.size w, w' = p.x) (fun a' => ∀ w', (∃ p : BelowBy w.heap.size w, w' = p.x) → Q .normal a' w') l a) : (Code.region id l.toArray true).wp P Q a w :=
  wp_region_quiet (C := fun w' => ∃ p : BelowBy w.heap.size w, w' = p.x) hm hB ⟨⟨w.drew, (Below.refl _ _).drew⟩, rfl⟩ (by simpa using h)
theorem Calls.below_of {P : Program} {f : FuncId} {args : Array Value} {W : World} {p : BelowBy W.heap.size W} {v : Value}
    (h : Calls P f args p.x fun e w' => e = .returned v ∧ Below p.x.heap.size p.x w') : Calls P f args p.x fun e w'' => e = .returned v ∧ ∃ p : BelowBy W.heap.size W, w'' = p.x :=
  h.mono fun _ w' ⟨he, hb⟩ => ⟨he, ⟨w', p.h.trans (hb.mono p.h.size)⟩, rfl⟩
theorem two_rows (w : World) (Z X Y : Array Value) (t : TypeId) :
    ∃ W, W = (((w.alloc (.cells Z t)).alloc (.cells Z t)).setRow w.heap.size X).setRow (w.heap.size + 1) Y ∧ W.heap[w.heap.size]? = some (.cells X t (0, 0)) ∧ W.heap[w.heap.size + 1]? = some (.cells Y t (0, 0)) ∧ W.heap.size = w.heap.size + 2 ∧ Below w.heap.size w W := by
  refine ⟨_, rfl, ?_, ?_, ?_, ?_⟩
  · rw [setRow_other _ _ _ _ (by omega)]; exact setRow_heap _ _ _ _ _ _ (heap_alloc2_old w _ _)
  · exact setRow_heap _ _ _ _ _ _ ((setRow_other _ _ _ _ (by omega)).trans (heap_alloc2_new w _ _))
  · simp [World.setRow]
  · exact below_setRow (below_setRow (((Below.refl _ _).alloc (Nat.le_refl _) _).alloc (by simp) _) (Nat.le_refl _) _) (by omega) _
theorem alloc3 (w : World) (o : Obj) : (((w.alloc o).alloc o).alloc o).heap[w.heap.size]? = some o ∧ (((w.alloc o).alloc o).alloc o).heap[w.heap.size + 1]? = some o ∧ (((w.alloc o).alloc o).alloc o).heap[w.heap.size + 2]? = some o := by
  have h1 := heap_alloc2_old w o o
  have h2 := heap_alloc2_new w o o
  have h3 := heap_alloc_new ((w.alloc o).alloc o) o
  have s : ((w.alloc o).alloc o).heap.size = w.heap.size + 2 := by simp
  refine ⟨(Below.heap_alloc _ _ _ (by omega)).trans h1, (Below.heap_alloc _ _ _ (by omega)).trans h2, ?_⟩
  rw [s] at h3
  exact h3
theorem three_rows (w : World) (Z X Y V : Array Value) (t : TypeId) :
    ∃ W, W = (((((w.alloc (.cells Z t)).alloc (.cells Z t)).alloc (.cells Z t)).setRow w.heap.size X).setRow (w.heap.size + 1) Y).setRow (w.heap.size + 2) V ∧ W.heap[w.heap.size]? = some (.cells X t (0, 0)) ∧ W.heap[w.heap.size + 1]? = some (.cells Y t (0, 0)) ∧ W.heap[w.heap.size + 2]? = some (.cells V t (0, 0)) ∧ Below w.heap.size w W := by
  obtain ⟨h1, h2, h3⟩ := alloc3 w (.cells Z t)
  refine ⟨_, rfl, ?_, ?_, ?_, ?_⟩
  · rw [setRow_other _ _ _ _ (by omega), setRow_other _ _ _ _ (by omega)]; exact setRow_heap _ _ _ _ _ _ h1
  · rw [setRow_other _ _ _ _ (by omega)]; exact setRow_heap _ _ _ _ _ _ ((setRow_other _ _ _ _ (by omega)).trans h2)
  · exact setRow_heap _ _ _ _ _ _ ((setRow_other _ _ _ _ (by omega)).trans ((setRow_other _ _ _ _ (by omega)).trans h3))
  · exact below_setRow (below_setRow (below_setRow ((((Below.refl _ _).alloc (Nat.le_refl _) _).alloc (by simp) _).alloc (by simp; omega) _) (Nat.le_refl _) _) (by omega) _) (by omega) _

set_option maxRecDepth 100000 in
set_option maxHeartbeats 8000000 in
theorem numBits_walk (a b : Int) (ha : (Lit.int .i64 a).wf = true) (_ : (Lit.int .i64 b).wf = true) (w : World) :
    Calls Try.prog 5 #[.int .i64 a, .int .i64 b] w fun e w' => e = .returned (.bool true) ∧ Below w.heap.size w w' := by
  obtain ⟨ha1, ha2⟩ := i64_range ha
  clear ha
  go_enter Try.func5, Try.ntmps5
  go_wp2_with fail
  refine (reckons_any _).mono ?_
  rintro e w0 ⟨rfl, hb0⟩
  go_wp2_with fail
  refine (bits_any a _).mono ?_
  rintro e w1 ⟨rfl, hb1⟩
  go_wp2_with fail
  refine (bits_any b _).mono ?_
  rintro e w2 ⟨rfl, hb2⟩
  have hbz : Below w.heap.size w w2 := (hb0.trans (hb1.mono hb0.size)).trans (hb2.mono (Nat.le_trans hb0.size hb1.size))
  clear hb0 hb1 hb2
  go_wp2_with (first | (refine wpList_store_row rfl 29 (.tmp 5) (.tmp 15) rfl w2.heap.size (row (bit (U a))) rfl rfl 29 _ (heap_alloc2_old w2 _ _) (by rw [row_size]; exact A.info64) (by rw [row_size]; rfl) (row_one _) ?_) | (refine wpList_store_row rfl 29 (.tmp 6) (.tmp 17) rfl (w2.heap.size + 1) (row (bit (U b))) rfl rfl 29 _ ((setRow_other _ _ _ _ (by omega)).trans (heap_alloc2_new w2 _ _)) (by rw [row_size]; exact A.info64) (by rw [row_size]; rfl) (row_one _) ?_))
  obtain ⟨W, hW, x0, y0, sW, bW⟩ := two_rows w2 (List.replicate 64 (Value.int .i64 0)).toArray (row (bit (U a))) (row (bit (U b))) 29
  refine (and_any a b _).mono ?_
  rintro e wx ⟨rfl, rfl⟩
  go_wp2_with fail
  refine (bits_any _ _).mono ?_
  rintro e w3 ⟨rfl, hb3⟩
  have hb3' : Below W.heap.size W w3 := by rw [hW]; exact hb3
  clear hb3 hW
  go_wp2_with fail
  refine (or_any a b _).mono ?_
  rintro e wx ⟨rfl, rfl⟩
  go_wp2_with fail
  refine (bits_any _ _).mono ?_
  rintro e w4 ⟨rfl, hb4⟩
  go_wp2_with fail
  refine (xor_any a b _).mono ?_
  rintro e wx ⟨rfl, rfl⟩
  go_wp2_with fail
  refine (bits_any _ _).mono ?_
  rintro e w5 ⟨rfl, hb5⟩
  have h35 : Below W.heap.size W w5 := (hb3'.trans (hb4.mono hb3'.size)).trans (hb5.mono (Nat.le_trans hb3'.size hb4.size))
  have s5 := h35.size
  have x5 := (h35.block w2.heap.size (by omega)).trans x0
  have y5 := (h35.block (w2.heap.size + 1) (by omega)).trans y0
  have hw5 : Below w.heap.size w w5 := (hbz.trans (bW.mono hbz.size)).trans (h35.mono (by have := hbz.size; omega))
  clear hb3' hb4 hb5 x0 y0 bW hbz
  obtain ⟨z1, z2, z3⟩ := alloc3 w5 (.cells (List.replicate 64 (Value.int .i64 0)).toArray 29)
  go_wp2_with (first | (refine wpList_store_row rfl 29 (.tmp 7) (.tmp 21) rfl w5.heap.size (row (bit (U (bits .and .i64 a b)))) rfl rfl 29 _ z1 (by rw [row_size]; exact A.info64) (by rw [row_size]; rfl) (row_one _) ?_) | (refine wpList_store_row rfl 29 (.tmp 8) (.tmp 25) rfl (w5.heap.size + 1) (row (bit (U (bits .or .i64 a b)))) rfl rfl 29 _ ((setRow_other _ _ _ _ (by omega)).trans z2) (by rw [row_size]; exact A.info64) (by rw [row_size]; rfl) (row_one _) ?_) | (refine wpList_store_row rfl 29 (.tmp 9) (.tmp 29) rfl (w5.heap.size + 2) (row (bit (U (bits .xor .i64 a b)))) rfl rfl 29 _ ((setRow_other _ _ _ _ (by omega)).trans ((setRow_other _ _ _ _ (by omega)).trans z3)) (by rw [row_size]; exact A.info64) (by rw [row_size]; rfl) (row_one _) ?_))
  clear z1 z2 z3
  obtain ⟨V, hV, v1, v2, v3, bV⟩ := three_rows w5 (List.replicate 64 (Value.int .i64 0)).toArray (row (bit (U (bits .and .i64 a b)))) (row (bit (U (bits .or .i64 a b)))) (row (bit (U (bits .xor .i64 a b)))) 29
  have x6 := (bV.block w2.heap.size (by omega)).trans x5
  have y6 := (bV.block (w2.heap.size + 1) (by omega)).trans y5
  have b6 : Below w.heap.size w V := hw5.trans (bV.mono hw5.size)
  rw [hV] at v1 v2 v3 x6 y6 b6
  clear hV x5 y5 h35 hw5 bV
  go_loopw [30] (fun i wr => ∃ k : Nat, k ≤ 64 ∧ i = .int .i64 k ∧ wr.heap[w2.heap.size]? = some (.cells (row (bit (U a))) 29 (0, 0)) ∧ wr.heap[w2.heap.size + 1]? = some (.cells (row (bit (U b))) 29 (0, 0)) ∧ wr.heap[w5.heap.size]? = some (.cells (row (bit (U (bits .and .i64 a b)))) 29 (0, 0)) ∧ wr.heap[w5.heap.size + 1]? = some (.cells (row (bit (U (bits .or .i64 a b)))) 29 (0, 0)) ∧ wr.heap[w5.heap.size + 2]? = some (.cells (row (bit (U (bits .xor .i64 a b)))) 29 (0, 0)) ∧ Below w.heap.size w wr)
    (fun i _ => 64 - (intOf i).toNat)
  case atStart => exact ⟨0, by omega, rfl, x6, y6, v1, v2, v3, b6⟩
  case round =>
    clear x6 y6 v1 v2 v3 b6
    obtain ⟨k, hk, rfl, hx, hy, hA, hO, hX, hb⟩ := hrel
    by_cases hlt : k < 64
    · have cx : wr.cell? ⟨w2.heap.size, k, none⟩ = some (.int .i64 ((bit (U a) k : Nat) : Int)) := by rw [cell_of_row wr _ _ _ _ _ hx]; exact row_get _ _ hlt
      have cy : wr.cell? ⟨w2.heap.size + 1, k, none⟩ = some (.int .i64 ((bit (U b) k : Nat) : Int)) := by rw [cell_of_row wr _ _ _ _ _ hy]; exact row_get _ _ hlt
      have cA : wr.cell? ⟨w5.heap.size, k, none⟩ = some (.int .i64 ((bit (U a) k * bit (U b) k : Nat) : Int)) := by rw [cell_of_row wr _ _ _ _ _ hA, row_get _ _ hlt, and_bit]
      have cO : wr.cell? ⟨w5.heap.size + 1, k, none⟩ = some (.int .i64 ((max (bit (U a) k) (bit (U b) k) : Nat) : Int)) := by rw [cell_of_row wr _ _ _ _ _ hO, row_get _ _ hlt, or_bit]
      have cX : wr.cell? ⟨w5.heap.size + 2, k, none⟩ = some (.int .i64 (((bit (U a) k + bit (U b) k) % 2 : Nat) : Int)) := by rw [cell_of_row wr _ _ _ _ _ hX, row_get _ _ hlt, xor_bit]
      have lx := bit_le (U a) k
      have ly := bit_le (U b) k
      have q1 := Lib.hid hx
      have q2 := Lib.hid hy
      have q3 := Lib.hid hA
      have q4 := Lib.hid hO
      have q5 := Lib.hid hX
      clear hx hy hA hO hX
      have hx2 : bit (U a) k = 0 ∨ bit (U a) k = 1 := by omega
      have hy2 : bit (U b) k = 0 ∨ bit (U b) k = 1 := by omega
      generalize bit (U a) k = p at *
      generalize bit (U b) k = r at *
      rcases hx2 with rfl | rfl
      all_goals rcases hy2 with rfl | rfl
      all_goals
        go_wp2_with fail
        go_quiet (fail)
        go_wp2_with fail
        go_roundw
        case rel => exact ⟨k + 1, by omega, by go_num, q1.out, q2.out, q3.out, q4.out, q5.out, below_drewN hb _⟩
        case measure => simp [intOf]; omega
    · have c63 : ∀ p : BelowBy wr.heap.size wr, p.x.cell? ⟨w2.heap.size, 63, none⟩ = some (.int .i64 ((bit (U a) 63 : Nat) : Int)) := fun p => by
        have hx' := (p.h.block w2.heap.size (lt_of_block hx)).trans hx
        rw [cell_of_row p.x _ _ _ _ _ hx']; exact row_get _ _ (by omega)
      have cy : ∀ i, i < 64 → wr.cell? ⟨w2.heap.size + 1, i, none⟩ = some (.int .i64 ((bit (U b) i : Nat) : Int)) := fun i hi => by rw [cell_of_row wr _ _ _ _ _ hy]; exact row_get _ _ hi
      have y0 := cy 0 (by omega)
      have y1 := cy 1 (by omega)
      have y2 := cy 2 (by omega)
      have y3 := cy 3 (by omega)
      have y4 := cy 4 (by omega)
      have y5 := cy 5 (by omega)
      have l0 := bit_le (U b) 0
      have l1 := bit_le (U b) 1
      have l2 := bit_le (U b) 2
      have l3 := bit_le (U b) 3
      have l4 := bit_le (U b) 4
      have l5 := bit_le (U b) 5
      have hfb := far_bits b
      have hf64 := far_lt b
      have HL : ∀ w, Calls Try.prog 26 #[.int .i64 a, .int .i64 b] w fun e w' => e = .returned (.int .i64 (wrap64 (a * 2 ^ far b))) ∧ Below w.heap.size w w' := fun w => (left_any a b w).mono fun _ _ h => ⟨h.1, by rw [← h.2]; exact Below.refl _ _⟩
      have HR : ∀ w, Calls Try.prog 28 #[.int .i64 a, .int .i64 b] w fun e w' => e = .returned (.int .i64 (a / 2 ^ far b)) ∧ Below w.heap.size w w' := fun w => (right_any a b w).mono fun _ _ h => ⟨h.1, by rw [← h.2]; exact Below.refl _ _⟩
      have HG : ∀ w, Calls Try.prog 29 #[.int .i64 a, .int .i64 b] w fun e w' => e = .returned (.int .i64 (wrap64 (((U a / 2 ^ far b : Nat)) : Int))) ∧ Below w.heap.size w w' := fun w => (logical_any a b w).mono fun _ _ h => ⟨h.1, by rw [← h.2]; exact Below.refl _ _⟩
      have SL : ∀ w, Calls Try.prog 27 #[.int .i64 a, .int .i64 (far b : Int), .int .i64 0] w fun e w' => e = .returned (.int .i64 (wrap64 (a * 2 ^ far b))) ∧ Below w.heap.size w w' := fun w => by
        have h := rshift_any a (far b : Int) 0 (by omega) (by omega) (by omega) w
        rw [mv_left, left_wrap a _ hf64] at h
        exact h
      have SR : ∀ w, Calls Try.prog 27 #[.int .i64 a, .int .i64 (-(far b : Int)), .int .i64 ((bit (U a) 63 : Nat) : Int)] w fun e w' => e = .returned (.int .i64 (a / 2 ^ far b)) ∧ Below w.heap.size w w' := fun w => by
        have h := rshift_any a (-(far b : Int)) (bit (U a) 63) (bit_le _ _) (by omega) (by omega) w
        rw [mv_right _ _ _ hf64, right_wrap a ha1 ha2 _ hf64] at h
        exact h
      have SG : ∀ w, Calls Try.prog 27 #[.int .i64 a, .int .i64 (-(far b : Int)), .int .i64 0] w fun e w' => e = .returned (.int .i64 (wrap64 (((U a / 2 ^ far b : Nat)) : Int))) ∧ Below w.heap.size w w' := fun w => by
        have h := rshift_any a (-(far b : Int)) 0 (by omega) (by omega) (by omega) w
        rw [mv_right _ _ _ hf64, logic_wrap a _ hf64] at h
        exact h
      clear cy hx hy hA hO hX
      generalize wrap64 (a * 2 ^ far b) = r1 at *
      generalize a / 2 ^ far b = r2 at *
      generalize wrap64 (((U a / 2 ^ far b : Nat)) : Int) = r3 at *
      generalize far b = f at *
      generalize bit (U a) 63 = d at *
      generalize bit (U b) 0 = b0 at *
      generalize bit (U b) 1 = b1 at *
      generalize bit (U b) 2 = b2 at *
      generalize bit (U b) 3 = b3 at *
      generalize bit (U b) 4 = b4 at *
      generalize bit (U b) 5 = b5 at *
      have hfi : (b0 : Int) + 2 * (b1 : Int) + 4 * (b2 : Int) + 8 * (b3 : Int) + 16 * (b4 : Int) + 32 * (b5 : Int) = (f : Int) := by omega
      have hneg : IntKind.i64.wrap (-(f : Int)) = -(f : Int) := by rw [IntKind.wrap_i64]; omega
      have hneg2 : wrap64 (-(f : Int)) = -(f : Int) := by unfold wrap64; omega
      clear hfb
      have H1 := Lib.hid HL
      have H2 := Lib.hid HR
      have H3 := Lib.hid HG
      have H4 := Lib.hid SL
      have H5 := Lib.hid SR
      have H6 := Lib.hid SG
      clear HL HR HG SL SR SG
      go_wp2_with fail
      refine wp_region_quiet_below (by kernel_rfl) (by kernel_rfl) ?_
      repeat (quiet_step (first | (go_at_call 26; refine Calls.below_of (H1.out _)) | (go_at_call 28; refine Calls.below_of (H2.out _)) | (go_at_call 29; refine Calls.below_of (H3.out _)) | (go_at_call 27; with_reducible refine Calls.below_of (H4.out _)) | (go_at_call 27; with_reducible refine Calls.below_of (H5.out _)) | (go_at_call 27; with_reducible refine Calls.below_of (H6.out _))))
      refine wpQuiet_nil ?_
      intro _ hw'
      obtain ⟨pq, hw''⟩ := hw'
      subst hw''
      go_wp2_with fail
      go_ret
      exact ⟨rfl, hb.trans (pq.h.mono hb.size)⟩
end Go.Proofs.Ytofodcnfdmlemaa
