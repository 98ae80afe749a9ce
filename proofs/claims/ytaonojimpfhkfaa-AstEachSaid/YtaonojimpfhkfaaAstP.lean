/- builds: the walk. -/
import Derived.Test.YtaonojimpfhkfaaAstO
namespace Go.Proofs.Ytaonojimpfhkfaa.As
open Go.RowKit Go.ChangeShapes Go.WideShapes Go.ChangeAt

theorem cell0 {w w' : World} {m : Int} (hm : w.cell? ⟨0, 0, none⟩ = some (.int .i64 m)) (hb : Below w.heap.size w w') : w'.cell? ⟨0, 0, none⟩ = some (.int .i64 m) := by
  have h0 : 0 < w.heap.size := by
    refine Nat.pos_of_ne_zero fun h => ?_
    have e : w.heap = #[] := Array.eq_empty_of_size_eq_zero h
    simp [World.cell?, e] at hm
  exact (World.cell?_of_block (a := ⟨0, 0, none⟩) (hb.block 0 h0)).trans hm
/-- Add in the head: what is handed in is written out. -/
theorem add_k {lo b c hi : Nat} {A : Option Addr} {w : World} {L : List Nd} (k l : Int) (t : ByteArray) (m : Int) (cs : List Int) (ka : Option Addr) (kc N : Nat) (hN : L.length = N) (h : BldP lo b A c w L) (hl : N < 131072) (hk : RowI w hi ka cs) (hhi : hi ≤ w.heap.size) (hkl : cs.length ≤ 1000000) (hs : t.size ≤ 1000000) (hlo : lo ≤ w.heap.size) :
    Calls Try.prog 12 #[.pointer (some ⟨b, 0, none⟩), .int .i64 k, .int .i64 l, .string t, .int .i64 m, .slice ka cs.length kc] w fun e w' => e = .returned (.tuple #[.int .i64 (N : Int), .int .i64 0]) ∧ ∃ a c A2 c2, BldP lo b A2 c2 w' (L ++ [⟨k, l, t, m, cs, a, c⟩]) ∧ Below lo w w' ∧ lo ≤ w'.heap.size := by
  subst hN
  refine (add_any ⟨k, l, t, m, cs, ka, kc⟩ h hl hk hhi hkl hs hlo).mono ?_
  rintro e w' ⟨rfl, a, c, A2, c2, h1, h2, _⟩
  exact ⟨rfl, a, c, A2, c2, h1, h2, Nat.le_trans hlo h2.size⟩
set_option maxRecDepth 100000 in
set_option maxHeartbeats 8000000 in
theorem builds_any (w : World) (m : Int) (hm : w.cell? ⟨0, 0, none⟩ = some (.int .i64 m)) :
    Calls Try.prog 8 #[] w fun e w' => e = .returned (.bool true) ∧ Below w.heap.size w w' := by
  have HM := Lib.hid fun W => cell0 (w' := W) hm
  have HZ0 := Lib.hid (bel1 w (.cells #[.slice none 0 0] 34))
  have HB0 : Hid (BldP w.heap.size w.heap.size none 0 (w.alloc (.cells #[.slice none 0 0] 34)) []) :=
    ⟨new1 w _, ⟨⟨rfl, Or.inl ⟨rfl, rfl⟩⟩, fun n hn => by simp at hn⟩, Nat.le_refl _⟩
  clear hm
  go_enter Try.func8, Try.ntmps8
  go_wp2_with fail
  refine (add_k (hi := 0) 6 0 ⟨#[120]⟩ 0 [] none 0 0 rfl HB0.out (by omega) (Or.inl rfl) (Nat.zero_le _) (by decide) (by decide) HZ0.out.size).mono ?_
  rintro e w1 ⟨rfl, a1, c1, A1, d1, hb, hz, hs⟩
  have HB1 := Lib.hid hb
  have HZ1 := Lib.hid (HZ0.out.trans hz)
  clear hb hz hs HB0 HZ0
  go_wp2_with fail
  refine (add_k (hi := 0) 4 2 ⟨#[]⟩ 1 [] none 0 1 rfl HB1.out (by omega) (Or.inl rfl) (Nat.zero_le _) (by decide) (by decide) HZ1.out.size).mono ?_
  rintro e w2 ⟨rfl, a2, c2, A2, d2, hb, hz, hs⟩
  have HB2 := Lib.hid hb
  have HZ2 := Lib.hid (HZ1.out.trans hz)
  have HZ2a := Lib.hid (HZ2.out.alloc HZ2.out.size (.cells #[.int .i64 0, .int .i64 1] 3))
  have HB2a := Lib.hid (HB2.out.below (bel1 w2 (.cells #[.int .i64 0, .int .i64 1] 3)))
  clear hb hz hs HB1 HZ1
  go_wp2_with fail
  refine (add_k (hi := w2.heap.size + 1) 10 0 ⟨#[43]⟩ 0 [0, 1] (some ⟨w2.heap.size, 0, none⟩) 2 2 rfl HB2a.out (by omega) (rowI_new (L := [0, 1]) (new1 w2 _) (by omega)) (by simp) (by decide) (by decide) HZ2a.out.size).mono ?_
  rintro e w3 ⟨rfl, a3, c3, A3, d3, hb, hz, hs⟩
  have HB3 := Lib.hid hb
  have HZ3 := Lib.hid (HZ2a.out.trans hz)
  have HZ3a := Lib.hid (HZ3.out.alloc HZ3.out.size (.cells #[.int .i64 2] 3))
  have HB3a := Lib.hid (HB3.out.below (bel1 w3 (.cells #[.int .i64 2] 3)))
  clear hb hz hs HB2 HZ2 HZ2a HB2a
  go_wp2_with fail
  refine (add_k (hi := w3.heap.size + 1) 28 0 ⟨#[]⟩ 0 [2] (some ⟨w3.heap.size, 0, none⟩) 1 3 rfl HB3a.out (by omega) (rowI_new (L := [2]) (new1 w3 _) (by omega)) (by simp) (by decide) (by decide) HZ3a.out.size).mono ?_
  rintro e w4 ⟨rfl, a4, c4, A4, d4, hb, hz, hs⟩
  have HB4 := Lib.hid hb
  have HZ4 := Lib.hid (HZ3a.out.trans hz)
  have HZ4a := Lib.hid (HZ4.out.alloc HZ4.out.size (.cells #[.int .i64 3] 3))
  have HB4a := Lib.hid (HB4.out.below (bel1 w4 (.cells #[.int .i64 3] 3)))
  clear hb hz hs HB3 HZ3 HZ3a HB3a
  go_wp2_with fail
  refine (add_k (hi := w4.heap.size + 1) 26 0 ⟨#[]⟩ 0 [3] (some ⟨w4.heap.size, 0, none⟩) 1 4 rfl HB4a.out (by omega) (rowI_new (L := [3]) (new1 w4 _) (by omega)) (by simp) (by decide) (by decide) HZ4a.out.size).mono ?_
  rintro e w5 ⟨rfl, a5, c5, A5, d5, hb, hz, hs⟩
  have HB5 : Hid (BldP w.heap.size w.heap.size A5 d5 w5 (T5 a1 c1 a2 c2 a3 c3 a4 c4 a5 c5)) := hb
  have HZ5 := Lib.hid (HZ4a.out.trans hz)
  have hsz := szd_own HB5.out.t (show 5 ≤ 1000000 by omega) t5_small
  have HT := Lib.hid (tree_any HB5.out hsz m (HM.out _ HZ5.out))
  clear hb hz hs HB4 HZ4 HZ4a HB4a hsz
  go_wp2_with fail
  refine HT.out.mono ?_
  rintro e w6 ⟨hb6, hno, h2⟩
  clear hno
  obtain ⟨A6, d6, M, rfl, hal, how⟩ := h2 (by rw [t5_chk])
  obtain ⟨b1, k1, b2, k2, b3, k3, b4, k4, b5, k5, rfl⟩ := t5_alk hal
  have HZ6 := Lib.hid (HZ5.out.trans (hb6.mono HZ5.out.size))
  have HB6 := Lib.hid (HB5.out.below hb6)
  have HO6 := Lib.hid how
  have hlen : (T5 b1 k1 b2 k2 b3 k3 b4 k4 b5 k5).length = 5 := rfl
  rw [hlen]
  unfold flt
  simp only
  have h7 := bel2 w6 (.cells #[.slice A6 5 d6] 24) (.cells #[.int .i64 0, .int .i64 0] 31)
  have HZ7 := Lib.hid (HZ6.out.trans (h7.mono HZ6.out.size))
  have HB7 := Lib.hid (HB6.out.below h7)
  have HO7 := Lib.hid (HO6.out.below h7)
  have HX7 : Hid (((w6.alloc (.cells #[.slice A6 5 d6] 24)).alloc (.cells #[.int .i64 0, .int .i64 0] 31)).heap[w6.heap.size]? = some (.cells #[.slice A6 5 d6] 24 (0, 0))) := (heap_alloc_old _ _ (by simp)).trans (new1 w6 _)
  have HY7 : Hid (((w6.alloc (.cells #[.slice A6 5 d6] 24)).alloc (.cells #[.int .i64 0, .int .i64 0] 31)).heap[w6.heap.size + 1]? = some (.cells #[.int .i64 0, .int .i64 0] 31 (0, 0))) := new2 w6 _ _
  have hnd := node_yes 2 (N3 a3 c3) HB7.out rfl (show 5 ≤ 1000000 by omega) (show 2 ≤ 1000000 by omega) (show 1 ≤ 1000000 by omega)
  have HND : Hid (Calls Try.prog 13 #[.pointer (some ⟨w.heap.size, 0, none⟩), .int .i64 2] ((w6.alloc (.cells #[.slice A6 5 d6] 24)).alloc (.cells #[.int .i64 0, .int .i64 0] 31)) fun e w' => ∃ a c, e = .returned (.tuple #[.agg #[.int .i64 10, .int .i64 0, .string ⟨#[43]⟩, .int .i64 0, .slice a 2 c], .int .i64 0]) ∧ OwI ((w6.alloc (.cells #[.slice A6 5 d6] 24)).alloc (.cells #[.int .i64 0, .int .i64 0] 31)).heap.size a c w' [0, 1] ∧ Below ((w6.alloc (.cells #[.slice A6 5 d6] 24)).alloc (.cells #[.int .i64 0, .int .i64 0] 31)).heap.size ((w6.alloc (.cells #[.slice A6 5 d6] 24)).alloc (.cells #[.int .i64 0, .int .i64 0] 31)) w') := hnd
  clear hnd
  clear hb6 hal how h2 h7 HT HB5 HZ5 HB6 HO6 hlen
  go_wp2_with fail
  generalize (w6.alloc (.cells #[.slice A6 5 d6] 24)).alloc (.cells #[.int .i64 0, .int .i64 0] 31) = w7 at *
  refine HND.out.mono ?_
  rintro e w8 ⟨a8, c8, rfl, _, hb8⟩
  have h9 := bel1 w8 (.cells #[.int .i64 10, .int .i64 0, .string ⟨#[43]⟩, .int .i64 0, .slice a8 2 c8] 37)
  have n9 := new1 w8 (.cells #[.int .i64 10, .int .i64 0, .string ⟨#[43]⟩, .int .i64 0, .slice a8 2 c8] 37)
  have hz9 := hb8.trans (h9.mono hb8.size)
  have HN9 := Lib.hid n9
  have HX9 := Lib.hid ((hz9.block _ (lt_of_block HX7.out)).trans HX7.out)
  have HY9 := Lib.hid ((hz9.block _ (lt_of_block HY7.out)).trans HY7.out)
  have HO9 := Lib.hid (HO7.out.below hz9)
  have HZ9 := Lib.hid (HZ7.out.trans (hz9.mono HZ7.out.size))
  have t9 := cell_of_one HX9.out
  have y9 := (fault_facts HY9.out).1
  clear hb8 h9 n9 hz9 HND HX7 HY7 HO7 HZ7 HB7
  have HRT : Hid (∀ W, Calls Try.prog 18 #[.agg #[.slice A6 5 d6]] W fun e w' => e = .returned (.int .i64 4) ∧ Below W.heap.size W w') := fun W => root_any (N := 5) (by omega)
  go_wp2_with fail
  have n92 := (five_facts HN9.out).1.2.2.1
  have HSZ9 := Lib.hid (lt_of_block HN9.out)
  generalize w8.alloc (.cells #[.int .i64 10, .int .i64 0, .string ⟨#[43]⟩, .int .i64 0, .slice a8 2 c8] 37) = w9 at *
  have HK : Hid (∀ W, Below w9.heap.size w9 W → W.cell? ⟨w6.heap.size, 0, none⟩ = some (.slice A6 5 d6) ∧ W.cell? ⟨w6.heap.size + 1, 0, none⟩ = some (.int .i64 0) ∧ W.cell? ⟨w8.heap.size, 2, none⟩ = some (.string ⟨#[43]⟩)) := fun W hW =>
    ⟨cell_of_one ((hW.block _ (lt_of_block HX9.out)).trans HX9.out), (fault_facts ((hW.block _ (lt_of_block HY9.out)).trans HY9.out)).1, (five_facts ((hW.block _ (lt_of_block HN9.out)).trans HN9.out)).1.2.2.1⟩
  have HS9 := Lib.hid (HK.out w9 (Below.refl _ _))
  have HS9d := Lib.hid (HK.out w9.drew (Below.refl _ _).drew)
  have HCL : Hid (∀ W, Below w9.heap.size w9 W → Calls Try.prog 16 #[.agg #[.slice A6 5 d6]] W fun e w' => Cloned W w' e (T5 b1 k1 b2 k2 b3 k3 b4 k4 b5 k5)) := fun W hW =>
    clone_tree (cap := d6) (L := T5 b1 k1 b2 k2 b3 k3 b4 k4 b5 k5) ((HO9.out.tr).keep hW.size fun b hb => hW.block b hb) (Nat.le_refl _) (szd_own HO9.out (show 5 ≤ 1000000 by omega) t5_small)
  have HSM : Hid (∀ W, Below w9.heap.size w9 W → ∀ (W0 : World) (A11 : Option Addr) (d11 p1k : Nat) (p1 : Option Addr) (q1 : Nat) (p2 : Option Addr) (q2 : Nat) (p3 : Option Addr) (q3 : Nat) (p4 : Option Addr) (q4 : Nat) (p5 : Option Addr) (q5 : Nat), OwT W0.heap.size A11 d11 W (T5 p1 q1 p2 q2 p3 q3 p4 q4 p5 q5) → Calls Try.prog 15 #[.agg #[.slice A6 5 d6], .agg #[.slice A11 5 d11]] W fun e w' => e = .returned (.bool true) ∧ Below W.heap.size W w') := fun W hW W0 A11 d11 _ p1 q1 p2 q2 p3 q3 p4 q4 p5 q5 ho => by
    have := same_any (ca := d6) (cb := d11) ((HO9.out.tr).keep hW.size fun b hb => hW.block b hb) ho.tr (szd_own HO9.out (show 5 ≤ 1000000 by omega) t5_small) (szd_own ho (show 5 ≤ 1000000 by omega) t5_small) m (HM.out _ (HZ9.out.trans (hW.mono HZ9.out.size)))
    rw [t5_sam] at this
    exact this
  have HCK : Hid (∀ W, Below w9.heap.size w9 W → Calls Try.prog 11 #[.agg #[.slice none 0 0]] W fun e w' => e = .returned (.agg #[.int .i64 2, .int .i64 0]) ∧ Below W.heap.size W w') := fun W hW => by
    have hck := check_any (A := none) (cap := 0) (w := W) (L := []) (Or.inl rfl) ⟨by simp, fun n hn => by simp at hn⟩ m (HM.out _ (HZ9.out.trans (hW.mono HZ9.out.size)))
    rw [show chk PW [] = (2, 0) by kernel_rfl] at hck
    exact hck
  have hfd : ∀ W, (Instr.field 31 (.agg #[.int .i64 2, .int .i64 0]) 0).run Try.prog W = .ok (.int .i64 2) W := fun W => by kernel_rfl
  dsimp only [List.append]
  go_region_held3 (fun w' => w'.cell? ⟨w6.heap.size, 0, none⟩ = some (.slice A6 5 d6) ∧ w'.cell? ⟨w6.heap.size + 1, 0, none⟩ = some (.int .i64 0) ∧ w'.cell? ⟨w8.heap.size, 2, none⟩ = some (.string ⟨#[43]⟩)) (with_reducible (first | exact HS9.out | exact HS9d.out | assumption))
    (first
      | (go_at_call 18; refine (HRT.out _).mono ?_; rintro e10 w10 ⟨rfl, hb10⟩; have HZ10 := Lib.hid ((Below.refl w9.heap.size w9).drew.trans hb10); have hs10 := HK.out _ HZ10.out; clear hb10)
      | (go_at_call 16; refine (HCL.out _ HZ10.out).mono ?_; rintro e11 w11 ⟨A11, d11, M, rfl, hal, how, hb11⟩; obtain ⟨p1, q1, p2, q2, p3, q3, p4, q4, p5, q5, rfl⟩ := t5_alk hal; have HZ11 := Lib.hid (HZ10.out.trans (hb11.mono HZ10.out.size)); have hs11 := HK.out _ HZ11.out; have HSM11 := Lib.hid (HSM.out _ HZ11.out w10 A11 d11 0 p1 q1 p2 q2 p3 q3 p4 q4 p5 q5 how); rw [show (T5 p1 q1 p2 q2 p3 q3 p4 q4 p5 q5).length = 5 from rfl]; clear hal how hb11)
      | (go_at_call 15; refine HSM11.out.mono ?_; rintro e12 w12 ⟨rfl, hb12⟩; have HZ12 := Lib.hid (HZ11.out.trans (hb12.mono HZ11.out.size)); have hs12 := HK.out _ HZ12.out; clear hb12)
      | (go_at_call 11; refine (HCK.out _ HZ12.out).mono ?_; rintro e13 w13 ⟨rfl, hb13⟩; have HZ13 := Lib.hid (HZ12.out.trans (hb13.mono HZ12.out.size)); have hs13 := HK.out _ HZ13.out; clear hb13)
      | (go_at_call 26; refine (k_level _).mono ?_; rintro e w' ⟨rfl, rfl⟩)
      | (go_at_call 21; refine (k_expr _).mono ?_; rintro e w' ⟨rfl, rfl⟩)
      | (go_at_call 23; refine (k_stmt _).mono ?_; rintro e w' ⟨rfl, rfl⟩)
      | (go_at_call 24; refine (k_target _).mono ?_; rintro e w' ⟨rfl, rfl⟩)
      | (go_at_call 25; refine (k_literal _).mono ?_; rintro e w' ⟨rfl, rfl⟩)
      | (go_at_call 28; refine (k_unary _).mono ?_; rintro e w' ⟨rfl, rfl⟩)
      | (go_at_call 30; refine (k_assign _).mono ?_; rintro e w' ⟨rfl, rfl⟩)
      | (go_at_call 31; refine (k_step _).mono ?_; rintro e w' ⟨rfl, rfl⟩))
  go_wp2_with fail
  go_ret
  exact ⟨rfl, HZ9.out.trans (HZ13.out.mono HZ9.out.size)⟩
end Go.Proofs.Ytaonojimpfhkfaa.As
