/- HeapCells: the walk. -/
import Derived.Test.YtipdjjgpcmbpdaaHpB
set_option linter.unusedVariables false
namespace Go.Proofs.Ytipdjjgpcmbpdaa.Hp
open Go.RowKit Go.ChangeShapes Go.WideShapes Go.ChangeAt Go.Proofs.Ytipdjjgpcmbpdaa.Va Go.Proofs.Ytipdjjgpcmbpdaa.Ta Go.Proofs.Ytipdjjgpcmbpdaa.Li

theorem vcells_in {cap : Nat} {ad : Option Addr} (L : List Vl) (hl : L.length ≤ 1000000) (w : World) (h : Li.In ad w L) :
    Calls Try.prog 47 #[.slice ad L.length cap] w fun e w' => ∃ ad' cap', e = .returned (.slice ad' (cl L).length cap') ∧ OwnI w.heap.size ad' cap' w' (cl L) ∧ Below w.heap.size w w' := by
  rcases h with rfl | ⟨g, off, rfl, hg, ha⟩
  · refine (cells_zero ad cap w).mono ?_
    rintro e w' ⟨rfl, hb⟩
    exact ⟨none, 0, rfl, World.ownsRow_nil _ _ _ _, hb⟩
  · have hv : Vals w g off L.length (kd L) (nm L) (tx L) := fun i hi => by
      obtain ⟨e0, e1, e2⟩ := ha i hi
      unfold kd nm tx
      rw [getD_at L i hi]
      exact ⟨e0, e1, e2⟩
    refine (cells_any g off L.length cap (kd L) (nm L) (tx L) w hg (by omega) hv).mono ?_
    rintro e w' ⟨v', n, rfl, rfl, ho, hb⟩
    have hr : refs (kd L) (nm L) L.length = cl L := by rw [refs_cl L _ (Nat.le_refl _), List.take_length]
    rw [hr] at ho
    obtain ⟨ad', cap', e1⟩ := shapeI ho
    rw [e1] at ho ⊢
    exact ⟨ad', cap', rfl, ho, hb⟩
theorem in_src {va : Option Addr} {w : World} {L : List Vl} (h : Li.In va w L) : Li.Src va w L := by
  rcases h with rfl | ⟨g, off, rfl, _, ha⟩
  · exact Or.inl rfl
  · exact at_src ha
theorem empty_down {F : Nat → Option Nat} {B B' hb : Nat} {w : World} {l : Int} (h : HdP F B hb none 0 none 0 w ⟨[], [], l, 0, 0⟩) (hB : B' ≤ B) : HdP F B' hb none 0 none 0 w ⟨[], [], l, 0, 0⟩ :=
  ⟨h.blk, Nat.le_trans hB h.low, row_down h.row hB, row_down h.fre hB, fun i a C e => by simp at e, h.len, h.bd, h.dis⟩
def CC (k : Int) (L : List Vl) (lb : Nat) (N : List Int) (s : ByteArray) : Ce := ⟨k, L, lb, some [], 0, none, N, s⟩
theorem strong_cc (k : Int) (L : List Vl) (lb : Nat) (N : List Int) (s : ByteArray) : strong (CC k L lb N s) = cl L := by
  unfold strong lsC tsC CC
  simp [cl]
/-- The argument's box, its list and table set anew. -/
def cbB (k : Int) (va : Option Addr) (n vc lb : Nat) (na : Option Addr) (m nc : Nat) (s : ByteArray) : Obj := .cells #[.int .i64 k, .slice va n vc, .pointer (some ⟨lb, 0, none⟩), .pointer none, .slice na m nc, .string s] 78 (0, 0)
theorem cb_cells {w : World} {g n vc lb m nc : Nat} {k : Int} {va na : Option Addr} {s : ByteArray} (h : w.heap[g]? = some (cbB k va n vc lb na m nc s)) :
    w.cell? ⟨g, 0, none⟩ = some (.int .i64 k) ∧ w.cell? ⟨g, 1, none⟩ = some (.slice va n vc) ∧ w.cell? ⟨g, 2, none⟩ = some (.pointer (some ⟨lb, 0, none⟩)) ∧ w.cell? ⟨g, 3, none⟩ = some (.pointer none) ∧ w.cell? ⟨g, 4, none⟩ = some (.slice na m nc) ∧ w.cell? ⟨g, 5, none⟩ = some (.string s) := by
  unfold cbB at h
  refine ⟨?_, ?_, ?_, ?_, ?_, ?_⟩ <;> (rw [cell_of_row _ _ _ _ _ _ h]; rfl)
set_option maxRecDepth 100000 in
set_option maxHeartbeats 8000000 in
theorem heapCells_walk (k : Int) (va : Option Addr) (vc : Nat) (L : List Vl) (hL : L.length ≤ maxLen) (lp tp : Value) (na : Option Addr) (nc : Nat) (N : List Int) (hN : N.length ≤ maxLen) (s : ByteArray) (hs : s.size ≤ maxLen) (other : Int) (w : World) (hv : Li.In va w L) (hn : SrcN na w N) (hvl : lp.oneCell' = true) (htl : tp.oneCell' = true) :
    Calls Try.prog 9 #[.agg #[.int .i64 k, .slice va L.length vc, lp, tp, .slice na N.length nc, .string s], .int .i64 other] w fun e w' => e = .returned (.bool true) ∧ Below w.heap.size w w' := by
  have hq := (Below.refl w.heap.size w).alloc (Nat.le_refl _) (.cells #[.int .i64 k, .slice va L.length vc, lp, tp, .slice na N.length nc, .string s] 78)
  have hb0 := heap_alloc_new w (.cells #[.int .i64 k, .slice va L.length vc, lp, tp, .slice na N.length nc, .string s] 78)
  have HV := Lib.hid hv
  have HNN := Lib.hid hn
  have HQ := Lib.hid hq
  have HB0 := Lib.hid hb0
  have HLL := Lib.hid hL
  have HNL := Lib.hid hN
  have HSL := Lib.hid hs
  clear hq hb0 hv hn hL hN hs
  go_enter Try.func9, Try.ntmps9
  go_wp2_with fail
  refine (hkeeps_any _).mono ?_
  rintro e w1 ⟨rfl, hb1⟩
  have hblk := (hb1.block _ (lt_of_block HB0.out)).trans HB0.out
  have HB1 := Lib.hid hblk
  have HZ1 := Lib.hid (HQ.out.trans (hb1.mono HQ.out.size))
  have c1 : w1.cell? ⟨w.heap.size, 1, none⟩ = some (.slice va L.length vc) := by rw [cell_of_row _ _ _ _ _ _ hblk]; rfl
  have c4 : w1.cell? ⟨w.heap.size, 4, none⟩ = some (.slice na N.length nc) := by rw [cell_of_row _ _ _ _ _ _ hblk]; rfl
  have c5 : w1.cell? ⟨w.heap.size, 5, none⟩ = some (.string s) := by rw [cell_of_row _ _ _ _ _ _ hblk]; rfl
  clear hblk hb1 HB0 HQ
  by_cases h1 : L.length ≤ 50
  · by_cases h2 : N.length ≤ 50
    · by_cases h3 : s.size ≤ 200
      · have g1 : ¬ (50 : Int) < (L.length : Int) := by omega
        have g2 : ¬ (50 : Int) < (N.length : Int) := by omega
        have g3 : ¬ (200 : Int) < (s.size : Int) := by omega
        have H1 := Lib.hid h1
        have H2 := Lib.hid h2
        clear h1 h2 h3
        go_wp2_with fail
        clear c1 c4 c5 g1 g2 g3
        go_loopw [6, 42] (fun _ i wr => ∃ j : Nat, j ≤ L.length ∧ i = .int .i64 (j : Int) ∧ Hid (Below w1.heap.size w1 wr)) (fun _ i _ => L.length - (intOf i).toNat)
        case atStart => exact ⟨0, by omega, rfl, Below.refl _ _⟩
        case round =>
          obtain ⟨j, hj, rfl, HZ⟩ := hrel
          by_cases hlt : j < L.length
          · rcases Li.in_below HV.out (HZ1.out.trans (HZ.out.mono HZ1.out.size)) with rfl | ⟨g, off, rfl, hg, ha⟩
            · simp at hlt
            obtain ⟨r0, r1, r2⟩ := ha j hlt
            have hj1 : (j : Int) < (L.length : Int) := by omega
            have hjw : IntKind.i64.wrap ((j : Int) + 1) = (j : Int) + 1 := by have := H1.out; rw [IntKind.wrap_i64]; omega
            generalize L[j] = x at *
            have HC := Lib.hid fun W => check_any x.1 x.2.1 x.2.2 W
            have hq := HZ.out.alloc HZ.out.size (.cells #[.int .i64 x.1, .int .i64 x.2.1, .string x.2.2] 30)
            have HQ := Lib.hid hq
            obtain ⟨b0, b1, b2⟩ := Ta.three (heap_alloc_new wr (.cells #[.int .i64 x.1, .int .i64 x.2.1, .string x.2.2] 30))
            clear ha hq
            go_wp2_with fail
            refine (HC.out _).mono ?_
            rintro e w2 ⟨rfl, hb2⟩
            have HZ2 := Lib.hid (HQ.out.trans (hb2.mono HQ.out.size))
            by_cases hx : chk x.1 x.2.1 x.2.2 = 0
            · rw [hx]
              clear hx HC hb2 HQ b0 b1 b2 r0 r1 r2
              go_wp2_with fail
              go_roundw
              case rel => exact ⟨j + 1, by omega, by go_num, HZ2.out⟩
              case measure => simp [intOf]; omega
            · have hx1 : (chk x.1 x.2.1 x.2.2 != 0) = true := by simp [hx]
              clear hb2 HQ b0 b1 b2 r0 r1 r2
              generalize chk x.1 x.2.1 x.2.2 = cx at *
              clear hx HC
              go_wp2_with fail
              go_ret
              exact ⟨rfl, HZ1.out.trans (HZ2.out.mono HZ1.out.size)⟩
          · have hje : ¬ (j : Int) < (L.length : Int) := by omega
            have HZr := Lib.hid (HZ1.out.trans (HZ.out.mono HZ1.out.size))
            have hblk := (HZ.out.block _ (lt_of_block HB1.out)).trans HB1.out
            have HBr := Lib.hid hblk
            clear hlt HZ HZ1 HB1 hblk
            go_wp2_with fail
            refine (new_any none 0 [] _ (by simp) (Or.inl rfl)).mono ?_
            rintro e w2 ⟨lb, al, cl0, rfl, hL, hb2⟩
            have hblk := (hb2.block _ (lt_of_block HBr.out)).trans HBr.out
            have d2 := heap_setCell_same w2 w.heap.size 2 _ _ (.pointer (some ⟨lb, 0, none⟩)) hblk
            have d3 := heap_setCell_same _ w.heap.size 3 _ _ (.pointer none) d2
            have hcb3 : ((w2.setCell ⟨w.heap.size, 2, none⟩ (.pointer (some ⟨lb, 0, none⟩))).setCell ⟨w.heap.size, 3, none⟩ (.pointer none)).heap[w.heap.size]? = some (cbB k va L.length vc lb na N.length nc s) := by
              rw [d3]; unfold cbB; simp
            have hz3 : Below w.heap.size w ((w2.setCell ⟨w.heap.size, 2, none⟩ (.pointer (some ⟨lb, 0, none⟩))).setCell ⟨w.heap.size, 3, none⟩ (.pointer none)) := ((HZr.out.trans (hb2.mono HZr.out.size)).setCell (p := ⟨w.heap.size, 2, none⟩) (Nat.le_refl _) _).setCell (p := ⟨w.heap.size, 3, none⟩) (Nat.le_refl _) _
            have hlne : lb ≠ w.heap.size := fun e => ne_box hL.blk hblk (by decide) e
            have hL3 : IsL w.heap.size lb al cl0 ((w2.setCell ⟨w.heap.size, 2, none⟩ (.pointer (some ⟨lb, 0, none⟩))).setCell ⟨w.heap.size, 3, none⟩ (.pointer none)) [] :=
              ⟨blk_box (blk_box hL.blk hlne) hlne, Nat.le_trans HZr.out.size hL.low, nil_set (nil_set (row_down hL.own HZr.out.size))⟩
            have y2 : w2.cell? ⟨w.heap.size, 2, none⟩ = some lp := by rw [cell_of_row _ _ _ _ _ _ hblk]; rfl
            have y3 : w2.cell? ⟨w.heap.size, 3, none⟩ = some tp := by rw [cell_of_row _ _ _ _ _ _ hblk]; rfl
            have z2 : w2.frozen? ⟨w.heap.size, 2, none⟩ = false := by simp [World.frozen?, hblk]
            have z3 : w2.frozen? ⟨w.heap.size, 3, none⟩ = false := by simp [World.frozen?, hblk]
            have HCB := Lib.hid hcb3
            have HZ3 := Lib.hid hz3
            have HL3 := Lib.hid hL3
            clear hblk d2 d3 hcb3 hz3 hlne hL3 hL hb2 HBr HZr
            go_wp2_with fail
            refine (hnew_any 5 _).mono ?_
            rintro e w4 ⟨hb, rfl, hP, hz4⟩
            have HP4 : Hid (HdP (fun _ => none) w.heap.size hb none 0 none 0 w4 ⟨[], [], 5, 0, 0⟩) := empty_down hP HZ3.out.size
            have HZ4 := Lib.hid (HZ3.out.trans (hz4.mono HZ3.out.size))
            have HCB4 := Lib.hid ((hz4.block _ (lt_of_block HCB.out)).trans HCB.out)
            have HL4 := Lib.hid (isL_below HL3.out hz4)
            obtain ⟨x0, x1, x2, x3, x4, x5⟩ := cb_cells HCB4.out
            clear hP hz4 HCB HZ3 HL3 y2 y3 z2 z3
            by_cases hk : k < 1 ∨ 11 ≤ k
            · have HA := Lib.hid (alloc_type (hb := hb) (va := va) (vc := vc) (na := na) (nc := nc) (CC k L lb N s) hk w4)
              have HNM := Lib.hid (nm_none hk)
              have HNA := Lib.hid (name_any k)
              unfold ceV CC lpV tpV at HA
              rcases hk with hk | hk
              · go_wp2_with fail
                refine HA.out.mono ?_
                rintro e w5 ⟨rfl, hb5⟩
                have hP5 := hdP_below HP4.out hb5
                have hcb5 := (hb5.block _ (lt_of_block HCB4.out)).trans HCB4.out
                have HLV : Hid (Calls Try.prog 44 #[.pointer (some ⟨hb, 0, none⟩)] w5 fun x w' => x = .returned (.int .i64 0) ∧ Below w5.heap.size w5 w') := live_any hP5
                have HCB5 := Lib.hid hcb5
                have HZ5 := Lib.hid (HZ4.out.trans (hb5.mono HZ4.out.size))
                clear x0 x1 x2 x3 x4 x5 hb5 hP5 HCB4 HZ4 HP4 HL4 HA
                obtain ⟨x0, _, _, _, _, _⟩ := cb_cells hcb5
                clear hcb5
                go_wp2_with fail
                refine HLV.out.mono ?_
                rintro e w6 ⟨rfl, hb6⟩
                have hcb6 := (hb6.block _ (lt_of_block HCB5.out)).trans HCB5.out
                have HZ6 := Lib.hid (HZ5.out.trans (hb6.mono HZ5.out.size))
                clear x0 hb6 HCB5 HZ5 HLV
                obtain ⟨x0, _, _, _, _, _⟩ := cb_cells hcb6
                clear hcb6
                go_wp2_with fail
                refine (HNA.out _).mono ?_
                rintro e w7 ⟨rfl, hb7⟩
                rw [HNM.out]
                have HZ7 := Lib.hid (HZ6.out.trans (hb7.mono HZ6.out.size))
                clear hb7 HZ6 x0
                go_wp2_with fail
                go_ret
                exact ⟨rfl, HZ7.out⟩
              · go_wp2_with fail
                refine HA.out.mono ?_
                rintro e w5 ⟨rfl, hb5⟩
                have hP5 := hdP_below HP4.out hb5
                have hcb5 := (hb5.block _ (lt_of_block HCB4.out)).trans HCB4.out
                have HLV : Hid (Calls Try.prog 44 #[.pointer (some ⟨hb, 0, none⟩)] w5 fun x w' => x = .returned (.int .i64 0) ∧ Below w5.heap.size w5 w') := live_any hP5
                have HCB5 := Lib.hid hcb5
                have HZ5 := Lib.hid (HZ4.out.trans (hb5.mono HZ4.out.size))
                clear x0 x1 x2 x3 x4 x5 hb5 hP5 HCB4 HZ4 HP4 HL4 HA
                obtain ⟨x0, _, _, _, _, _⟩ := cb_cells hcb5
                clear hcb5
                go_wp2_with fail
                refine HLV.out.mono ?_
                rintro e w6 ⟨rfl, hb6⟩
                have hcb6 := (hb6.block _ (lt_of_block HCB5.out)).trans HCB5.out
                have HZ6 := Lib.hid (HZ5.out.trans (hb6.mono HZ5.out.size))
                clear x0 hb6 HCB5 HZ5 HLV
                obtain ⟨x0, _, _, _, _, _⟩ := cb_cells hcb6
                clear hcb6
                go_wp2_with fail
                refine (HNA.out _).mono ?_
                rintro e w7 ⟨rfl, hb7⟩
                rw [HNM.out]
                have HZ7 := Lib.hid (HZ6.out.trans (hb7.mono HZ6.out.size))
                clear hb7 HZ6 x0
                go_wp2_with fail
                go_ret
                exact ⟨rfl, HZ7.out⟩
            · obtain ⟨hk1, hk2⟩ : 1 ≤ k ∧ k < 11 := by omega
              clear hk
              have hF : HdP (fun q => if q = lb ∨ al.map (·.block) = some q then some w4.heap.size else none) w.heap.size hb none 0 none 0 w4 ⟨[], [], 5, 0, 0⟩ := hdP_mono HP4.out (fun q x e => by cases e) (fun q hq => by
                by_cases hc : q = lb ∨ al.map (·.block) = some q
                · rcases hc with rfl | hc
                  · exact lt_of_block HL4.out.blk
                  · obtain ⟨_, cur, h1⟩ := Ta.row_block HL4.out.own q hc
                    exact lt_of_block h1
                · rw [if_neg hc] at hq; exact absurd rfl hq)
              have hA := alloc_yes (va := va) (vc := vc) (na := na) (nc := nc) (CC k L lb N s) hF HZ4.out.size ⟨hk1, hk2⟩ (src_move (in_src HV.out) HZ4.out) (srcN_move HNN.out HZ4.out) (by have := H1.out; show L.length ≤ _; omega) (by have := H2.out; show N.length ≤ _; omega) (fun Lx e => by
                have : Lx = [] := by unfold CC at e; cases e; rfl
                subst this
                exact ⟨al, cl0, HL4.out, by simp [CC], fun g x => by simp [x]⟩) (fun T e => by unfold CC at e; cases e) (by decide) (fre_nil rfl) (by decide)
              have HA := Lib.hid hA
              have HK1 := Lib.hid hk1
              have HK2 := Lib.hid hk2
              have gk1 : ¬ k < 1 := by omega
              have gk2 : ¬ 11 ≤ k := by omega
              clear hA hF hk1 hk2
              unfold ceV CC lpV tpV at HA
              go_wp2_with fail
              refine HA.out.mono ?_
              rintro e w5 ⟨n, H5, ga, gc, rfl, hT, hP, hf5, hz5⟩
              obtain ⟨hn, rfl⟩ := taken_more hT rfl
              obtain rfl : n = 0 := hn
              obtain ⟨F, hP5⟩ : ∃ F, HdP F w.heap.size hb ga gc none 0 w5 (Hd.mk [some (w4.heap.size, CC k L lb N s)] [] 5 0 0) := ⟨_, hP⟩
              have HP5 := Lib.hid hP5
              have hcb5 := blk_fp (by decide) HCB4.out hf5
              have HCB5 := Lib.hid hcb5
              have HZ5 := Lib.hid (HZ4.out.trans hz5)
              clear x0 x1 x2 x3 x4 x5 hT hP hf5 hz5 HCB4 HZ4 HP4 HL4 HA hP5
              obtain ⟨x0, x1, _, _, x4, x5⟩ := cb_cells hcb5
              clear hcb5
              go_wp2_with fail
              generalize w4.heap.size = a at *
              have q0 : ∀ p : BelowBy w5.heap.size w5, p.x.cell? ⟨w.heap.size, 0, none⟩ = some (.int .i64 k) := fun p => (cb_cells ((p.h.block _ (lt_of_block HCB5.out)).trans HCB5.out)).1
              have HRF := Lib.hid fun w => ref_any 0 w
              have HOF : Hid (∀ p : BelowBy w5.heap.size w5, Calls Try.prog 33 #[.pointer (some ⟨hb, 0, none⟩), .agg #[.int .i64 4, .int .i64 0, .string ⟨#[]⟩], .int .i64 k] p.x fun x w' => x = .returned (.tuple #[.pointer (some ⟨a, 0, none⟩), .int .i64 0]) ∧ Below p.x.heap.size p.x w') := fun p => of_yes (i := 0) (hdP_below HP5.out p.h) rfl ⟨#[]⟩ k (Or.inr rfl)
              refine wp_region_quiet_below (by kernel_rfl) (by kernel_rfl) ?_
              repeat (quiet_step (first | (go_at_call 29; with_reducible refine Calls.below_of (HRF.out _)) | (go_at_call 33; with_reducible refine Calls.below_of (HOF.out _))))
              refine wpQuiet_nil ?_
              intro _ hw'
              obtain ⟨pq, hw''⟩ := hw'
              subst hw''
              have HP6 := Lib.hid (hdP_below HP5.out pq.h)
              have HZ6 := Lib.hid (HZ5.out.trans (pq.h.mono HZ5.out.size))
              have HCB6 := Lib.hid ((pq.h.block _ (lt_of_block HCB5.out)).trans HCB5.out)
              clear q0 HOF HP5 HZ5 HCB5 x0 x1 x4 x5
              generalize pq.x = w6 at *
              clear pq
              obtain ⟨x0, x1, _, _, x4, x5⟩ := cb_cells HCB6.out
              obtain ⟨va', vc', na', nc', hC6⟩ := HP6.out.all 0 a (CC k L lb N s) rfl
              have HC6 := Lib.hid hC6
              obtain ⟨e0, e1, _, _, e4, e5⟩ := ce_cells hC6
              replace e0 : w6.cell? ⟨a, 0, none⟩ = some (.int .i64 k) := e0
              replace e1 : w6.cell? ⟨a, 1, none⟩ = some (.slice va' L.length vc') := e1
              replace e4 : w6.cell? ⟨a, 4, none⟩ = some (.slice na' N.length nc') := e4
              replace e5 : w6.cell? ⟨a, 5, none⟩ = some (.string s) := e5
              clear hC6
              go_wp2_with fail
              go_quiet (fail)
              have hz7 := below_drewN (Below.refl w6.heap.size w6) nq
              have HP7 := Lib.hid (hdP_below HP6.out hz7)
              have HC7 := Lib.hid (ceP_below HC6.out hz7)
              have HCB7 := Lib.hid ((hz7.block _ (lt_of_block HCB6.out)).trans HCB6.out)
              have HZ7 := Lib.hid (HZ6.out.trans (hz7.mono HZ6.out.size))
              clear hz7 HP6 HC6 HCB6 HZ6 x0 x1 x4 x5 e0 e1 e4 e5
              generalize w6.drewN nq = w7 at *
              obtain ⟨x0, x1, _, _, x4, x5⟩ := cb_cells HCB7.out
              have HSC : Hid (∀ W, Below w7.heap.size w7 W → Calls Try.prog 46 #[.pointer (some ⟨a, 0, none⟩)] W fun x w' => ∃ ad cap, x = .returned (.slice ad (cl L).length cap) ∧ OwnI W.heap.size ad cap w' (cl L) ∧ Below W.heap.size W w') := fun W hW => by
                have := strong_any (ceP_below HC7.out hW) rfl (by have := H1.out; show L.length ≤ _; omega) (fun Lx e => by unfold CC at e; cases e; simp)
                rw [strong_cc] at this
                exact this
              have HVC : Hid (∀ W, Below w7.heap.size w7 W → Calls Try.prog 47 #[.slice va L.length vc] W fun x w' => ∃ ad cap, x = .returned (.slice ad (cl L).length cap) ∧ OwnI W.heap.size ad cap w' (cl L) ∧ Below W.heap.size W w') := fun W hW => vcells_in L (by have := H1.out; omega) W (Li.in_below HV.out (HZ7.out.trans (hW.mono HZ7.out.size)))
              have HX1 := Lib.hid x1
              have HX1d : Hid (w7.drew.cell? ⟨w.heap.size, 1, none⟩ = some (.slice va L.length vc)) := x1
              have HCL := Lib.hid (Nat.le_trans (cl_len L) H1.out)
              have HLN : Hid ((cl L).length = (cl L).length) := rfl
              go_wp2_with fail
              go_region_held3 (fun w' => w'.cell? ⟨w.heap.size, 1, none⟩ = some (.slice va L.length vc)) (with_reducible (first | exact HX1.out | exact HX1d.out | exact HX2.out | exact HX3.out))
                (first
                  | (go_at_call 46; refine (HSC.out _ (Below.refl _ _).drew).mono ?_; rintro e8 w8 ⟨ak, ck, rfl, ho8, hb8⟩; have HZ8 := Lib.hid ((Below.refl w7.heap.size w7).drew.trans hb8); have HO8 := Lib.hid ho8; have x1' := (cb_cells ((HZ8.out.block _ (lt_of_block HCB7.out)).trans HCB7.out)).2.1; have HX2 := Lib.hid x1'; clear ho8 hb8)
                  | (go_at_call 47; refine (HVC.out _ HZ8.out).mono ?_; rintro e9 w9 ⟨av, cv, rfl, ho9, hb9⟩; have HZ9 := Lib.hid (HZ8.out.trans (hb9.mono HZ8.out.size)); have HO9 := Lib.hid ho9; have HO89 := Lib.hid (Ta.row_below HO8.out hb9); have x1'' := (cb_cells ((HZ9.out.block _ (lt_of_block HCB7.out)).trans HCB7.out)).2.1; have HX3 := Lib.hid x1''; clear ho9 hb9))
              have HP9 := Lib.hid (hdP_below HP7.out HZ9.out)
              have HC9 := Lib.hid (ceP_below HC7.out HZ9.out)
              have HCB9 := Lib.hid ((HZ9.out.block _ (lt_of_block HCB7.out)).trans HCB7.out)
              have HZZ9 := Lib.hid (HZ7.out.trans (HZ9.out.mono HZ7.out.size))
              clear HSC HVC HX1 HX1d HX2 HX3 HP7 HC7 HCB7 HZ7 HZ8 HZ9 HO8 x0 x1 x4 x5 x1' x1'' HLN
              generalize cl L = Q at *
              go_wp2_with fail
              go_loopw [14, 150] (fun _ i wr => ∃ j : Nat, j ≤ Q.length ∧ i = .int .i64 (j : Int) ∧ Hid (Below w9.heap.size w9 wr)) (fun _ i _ => Q.length - (intOf i).toNat)
              case atStart => exact ⟨0, by omega, rfl, Below.refl _ _⟩
              case round =>
                obtain ⟨j, hj, rfl, HZ⟩ := hrel
                by_cases hlt : j < Q.length
                · obtain ⟨x, hx⟩ := get_some hlt
                  have ho1 := Ta.row_below HO89.out HZ.out
                  have ho2 := Ta.row_below HO9.out HZ.out
                  obtain ⟨gk, hgk, _, _⟩ := row_some ho1 (by omega)
                  obtain ⟨gv, hgv, _, _⟩ := row_some ho2 (by omega)
                  subst hgk hgv
                  have r1 : wr.cell? ⟨gk, j, none⟩ = some (.int .i64 x) := (World.ownsRow.cellAt (n := Q.length) (size := 1) ho1 j (by omega)).trans (by unfold ints; rw [List.getElem?_map, hx]; rfl)
                  have r2 : wr.cell? ⟨gv, j, none⟩ = some (.int .i64 x) := (World.ownsRow.cellAt (n := Q.length) (size := 1) ho2 j (by omega)).trans (by unfold ints; rw [List.getElem?_map, hx]; rfl)
                  have hj1 : (j : Int) < (Q.length : Int) := by omega
                  have hj0 : (0 : Int) ≤ (j : Int) := by omega
                  have hjw : IntKind.i64.wrap ((j : Int) + 1) = (j : Int) + 1 := by have := HCL.out; rw [IntKind.wrap_i64]; omega
                  clear ho1 ho2 hx
                  go_wp2_with fail
                  go_quiet (fail)
                  have HZd := Lib.hid (HZ.out.trans (below_drewN (Below.refl w9.heap.size wr) nq))
                  clear HZ r1 r2
                  go_wp2_with fail
                  go_roundw
                  case rel => exact ⟨j + 1, by omega, by go_num, HZd.out⟩
                  case measure => simp [intOf]; omega
                · have hje : ¬ (j : Int) < (Q.length : Int) := by omega
                  have HP10 := Lib.hid (hdP_below HP9.out HZ.out)
                  have HC10 := Lib.hid (ceP_below HC9.out HZ.out)
                  have hcb := (HZ.out.block _ (lt_of_block HCB9.out)).trans HCB9.out
                  have HCB10 := Lib.hid hcb
                  have HZ10 := Lib.hid (HZZ9.out.trans (HZ.out.mono HZZ9.out.size))
                  clear hlt hj HZ HP9 HC9 HCB9 HZZ9 HO89 HO9
                  obtain ⟨x0, x1, _, _, x4, x5⟩ := cb_cells hcb
                  clear hcb
                  go_wp2_with fail
                  rename World => w10
                  clear x0 x1 x4 x5
                  go_loopw [15, 166] (fun _ i wr => ∃ (j : Nat) (M : List Vl), j ≤ L.length ∧ i = .int .i64 (j : Int) ∧ Hid (M.length = L.length ∧ ∀ q, j ≤ q → M[q]? = L[q]?) ∧ Hid (HdP F w.heap.size hb ga gc none 0 wr (Hd.mk [some (a, CC k M lb N s)] [] 5 0 0)) ∧ Hid (CeP F w.heap.size a va' vc' na' nc' wr (CC k M lb N s)) ∧ Hid (wr.heap[w.heap.size]? = some (cbB k va L.length vc lb na N.length nc s)) ∧ Hid (Below w.heap.size w wr)) (fun _ i _ => L.length - (intOf i).toNat)
                  case atStart => exact ⟨0, L, by omega, rfl, ⟨rfl, fun _ _ => rfl⟩, HP10.out, HC10.out, HCB10.out, HZ10.out⟩
                  case round =>
                    obtain ⟨j, M, hj, rfl, HM, HP, HC, HCB, HZ⟩ := hrel
                    by_cases hlt : j < L.length
                    · have hlM : j < M.length := by have := HM.out.1; omega
                      obtain ⟨g, hg, _, _⟩ := row_some HC.out.vs (show 0 < M.length by omega)
                      subst hg
                      rcases Li.in_below HV.out HZ.out with rfl | ⟨g0, off, rfl, hg0, ha⟩
                      · simp at hlt
                      obtain ⟨r0, r1, r2⟩ := ha j hlt
                      obtain ⟨s0, s1, s2⟩ := own_at HC.out.vs j hlM
                      replace s0 : wr.cell? ⟨g, j * 3, none⟩ = some (.int .i64 (M[j]).1) := s0
                      replace s1 : wr.cell? ⟨g, j * 3 + 1, none⟩ = some (.int .i64 (M[j]).2.1) := s1
                      replace s2 : wr.cell? ⟨g, j * 3 + 2, none⟩ = some (.string (M[j]).2.2) := s2
                      have hML : M[j] = L[j] := by
                        have := HM.out.2 j (Nat.le_refl _)
                        rw [List.getElem?_eq_getElem hlM, List.getElem?_eq_getElem hlt] at this
                        exact Option.some.inj this
                      rw [hML] at s0 s1 s2
                      generalize L[j] = x at *
                      obtain ⟨x0, x1, _, _, x4, x5⟩ := cb_cells HCB.out
                      obtain ⟨_, e1, _, _, _, _⟩ := ce_cells HC.out
                      replace e1 : wr.cell? ⟨a, 1, none⟩ = some (.slice (some ⟨g, 0, none⟩) M.length vc') := e1
                      rw [HM.out.1] at e1
                      have hj1 : (j : Int) < (L.length : Int) := by omega
                      have hj0 : (0 : Int) ≤ (j : Int) := by omega
                      have hjw : IntKind.i64.wrap ((j : Int) + 1) = (j : Int) + 1 := by have := H1.out; rw [IntKind.wrap_i64]; omega
                      clear ha hML
                      go_wp2_with fail
                      go_quiet (fail)
                      have hzd := below_drewN (Below.refl wr.heap.size wr) nq
                      have HPd := Lib.hid (hdP_below HP.out hzd)
                      have HCd := Lib.hid (ceP_below HC.out hzd)
                      have HCBd := Lib.hid ((hzd.block _ (lt_of_block HCB.out)).trans HCB.out)
                      have HZd := Lib.hid (HZ.out.trans (hzd.mono HZ.out.size))
                      clear hzd HP HC HCB HZ x0 x1 x4 x5 e1 r0 r1 r2 s0 s1 s2
                      generalize wr.drewN nq = wd at *
                      obtain ⟨_, e1, _, _, _, _⟩ := ce_cells HCd.out
                      replace e1 : wd.cell? ⟨a, 1, none⟩ = some (.slice (some ⟨g, 0, none⟩) M.length vc') := e1
                      rw [HM.out.1] at e1
                      have HA1 := Lib.hid e1
                      have HA1d : Hid (wd.drew.cell? ⟨a, 1, none⟩ = some (.slice (some ⟨g, 0, none⟩) L.length vc')) := e1
                      have HI5 := Lib.hid fun W => int_any 5 W
                      go_wp2_with fail
                      go_region_held3 (fun w' => w'.cell? ⟨a, 1, none⟩ = some (.slice (some ⟨g, 0, none⟩) L.length vc')) (with_reducible (first | exact HA1.out | exact HA1d.out | exact HA2.out | exact HA3.out))
                        (first
                          | (go_at_call 22; refine (HI5.out _).mono ?_; rintro e12 w12 ⟨rfl, hb12⟩; have HZ12 := Lib.hid ((Below.refl wd.heap.size wd).drew.trans hb12); have HP12 := Lib.hid (hdP_below HPd.out HZ12.out); have HC12 := Lib.hid (ceP_below HCd.out HZ12.out); obtain ⟨t0, t1, t2⟩ := own_at HC12.out.vs j hlM; have f0 : w12.frozen? ⟨g, j * 3, none⟩ = false := World.ownsRow.frozenAt HC12.out.vs (j * 3); have f1 : w12.frozen? ⟨g, j * 3 + 1, none⟩ = false := World.ownsRow.frozenAt HC12.out.vs (j * 3 + 1); have f2 : w12.frozen? ⟨g, j * 3 + 2, none⟩ = false := World.ownsRow.frozenAt HC12.out.vs (j * 3 + 2); have a1 := (ce_cells HC12.out).2.1; replace a1 : w12.cell? ⟨a, 1, none⟩ = some (.slice (some ⟨g, 0, none⟩) M.length vc') := a1; rw [HM.out.1] at a1; have HA2 := Lib.hid a1; have hvs := vals_store (j := j) HP12.out rfl HC12.out rfl rfl ((2, 5, ⟨#[]⟩) : Vl); simp only at hvs; have HVS := Lib.hid hvs; have a2 := (ce_cells hvs.1).2.1; simp only [CC, List.length_set, HM.out.1] at a2; have HA3 := Lib.hid a2; clear hvs hb12))
                      go_wp2_with fail
                      go_roundw
                      case rel => exact ⟨j + 1, M.set j (2, 5, ⟨#[]⟩), by omega, by go_num, ⟨by rw [List.length_set]; exact HM.out.1, fun q hq => by rw [List.getElem?_set_ne (by omega)]; exact HM.out.2 q (by omega)⟩, HVS.out.2.1, HVS.out.1, frX_blk HVS.out.2.2.1 ((HZ12.out.block _ (lt_of_block HCBd.out)).trans HCBd.out) (by decide), (HZd.out.trans (HZ12.out.mono HZd.out.size)).trans HVS.out.2.2.2⟩
                      case measure => simp [intOf]; omega
                    · have hje3 : ¬ (j : Int) < (L.length : Int) := by omega
                      clear hlt
                      go_wp2_with fail
                      refine (ref_any 0 _).mono ?_
                      rintro e w13 ⟨rfl, hb13⟩
                      by_cases h0 : other = 0
                      · have ho := h0
                        clear h0
                        have HO1 := Lib.hid (of_yes (i := 0) (hdP_below HP.out hb13) rfl ⟨#[]⟩ other (Or.inl ho))
                        have o0 : (other == 0) = true := by simp [ho]
                        clear ho
                        go_wp2_with fail
                        refine HO1.out.mono ?_
                        rintro e w14 ⟨rfl, hb14⟩
                        have HP14 := Lib.hid (hdP_below (hdP_below HP.out hb13) hb14)
                        have hcb14 := (hb14.block _ (lt_of_block ((hb13.block _ (lt_of_block HCB.out)).trans HCB.out))).trans ((hb13.block _ (lt_of_block HCB.out)).trans HCB.out)
                        have HCB14 := Lib.hid hcb14
                        have HZ13 := HZ.out.trans (hb13.mono HZ.out.size)
                        have HZ14 := Lib.hid (HZ13.trans (hb14.mono HZ13.size))
                        clear hb13 hb14 hcb14 HZ13 HO1
                        go_wp2_with fail
                        refine (int_any 0 _).mono ?_
                        rintro e w15 ⟨rfl, hb15⟩
                        go_wp2_with fail
                        refine (of_val hb 2 0 ⟨#[]⟩ 0 (by decide) _).mono ?_
                        rintro e w16 ⟨rfl, hb16⟩
                        have hz16 := hb15.trans (hb16.mono hb15.size)
                        have HP16 := Lib.hid (hdP_below HP14.out hz16)
                        have HCB16 := Lib.hid ((hz16.block _ (lt_of_block HCB14.out)).trans HCB14.out)
                        have HZ16 := Lib.hid (HZ14.out.trans (hz16.mono HZ14.out.size))
                        clear hb15 hb16 hz16 HP14 HCB14 HZ14
                        obtain ⟨x0, _, _, _, _, _⟩ := cb_cells HCB16.out
                        go_wp2_with fail
                        have q0 : ∀ p : BelowBy w16.heap.size w16, p.x.cell? ⟨w.heap.size, 0, none⟩ = some (.int .i64 k) := fun p => (cb_cells ((p.h.block _ (lt_of_block HCB16.out)).trans HCB16.out)).1
                        have HTY : Hid (∀ p : BelowBy w16.heap.size w16, Calls Try.prog 48 #[.pointer (some ⟨hb, 0, none⟩), .agg #[.int .i64 4, .int .i64 0, .string ⟨#[]⟩]] p.x fun x w' => x = .returned (.string (nm' k)) ∧ Below p.x.heap.size p.x w') := fun p => type_cell (i := 0) (hdP_below HP16.out p.h) rfl ⟨#[]⟩
                        have HNM := Lib.hid fun W => name_any k W
                        have HST := Lib.hid fun W => str_any ⟨#[97]⟩ W
                        generalize nm' k = NK at *
                        have HTS := Lib.hid fun W => type_str hb 0 ⟨#[97]⟩ W
                        refine wp_region_quiet_below (by kernel_rfl) (by kernel_rfl) ?_
                        repeat (quiet_step (first | (go_at_call 29; with_reducible refine Calls.below_of (HRF.out _)) | (go_at_call 48; with_reducible refine Calls.below_of (HTY.out _)) | (go_at_call 48; with_reducible refine Calls.below_of (HTS.out _)) | (go_at_call 45; with_reducible refine Calls.below_of (HNM.out _)) | (go_at_call 49; with_reducible refine Calls.below_of (HST.out _))))
                        refine wpQuiet_nil ?_
                        intro _ hw'
                        obtain ⟨pq, hw''⟩ := hw'
                        subst hw''
                        go_wp2_with fail
                        go_ret
                        exact ⟨rfl, HZ16.out.trans (pq.h.mono HZ16.out.size)⟩
                      · by_cases ho : k = other
                        · have HO1 := Lib.hid (of_yes (i := 0) (hdP_below HP.out hb13) rfl ⟨#[]⟩ other (Or.inr ho))
                          have o0 : (other == 0) = false := by rw [beq_eq_false_iff_ne]; exact h0
                          have o1 : (other == k) = true := by simp [ho.symm]
                          clear ho h0
                          go_wp2_with fail
                          refine HO1.out.mono ?_
                          rintro e w14 ⟨rfl, hb14⟩
                          have HP14 := Lib.hid (hdP_below (hdP_below HP.out hb13) hb14)
                          have hcb14 := (hb14.block _ (lt_of_block ((hb13.block _ (lt_of_block HCB.out)).trans HCB.out))).trans ((hb13.block _ (lt_of_block HCB.out)).trans HCB.out)
                          have HCB14 := Lib.hid hcb14
                          have HZ13 := HZ.out.trans (hb13.mono HZ.out.size)
                          have HZ14 := Lib.hid (HZ13.trans (hb14.mono HZ13.size))
                          clear hb13 hb14 hcb14 HZ13 HO1
                          go_wp2_with fail
                          refine (int_any 0 _).mono ?_
                          rintro e w15 ⟨rfl, hb15⟩
                          go_wp2_with fail
                          refine (of_val hb 2 0 ⟨#[]⟩ 0 (by decide) _).mono ?_
                          rintro e w16 ⟨rfl, hb16⟩
                          have hz16 := hb15.trans (hb16.mono hb15.size)
                          have HP16 := Lib.hid (hdP_below HP14.out hz16)
                          have HCB16 := Lib.hid ((hz16.block _ (lt_of_block HCB14.out)).trans HCB14.out)
                          have HZ16 := Lib.hid (HZ14.out.trans (hz16.mono HZ14.out.size))
                          clear hb15 hb16 hz16 HP14 HCB14 HZ14
                          obtain ⟨x0, _, _, _, _, _⟩ := cb_cells HCB16.out
                          go_wp2_with fail
                          have q0 : ∀ p : BelowBy w16.heap.size w16, p.x.cell? ⟨w.heap.size, 0, none⟩ = some (.int .i64 k) := fun p => (cb_cells ((p.h.block _ (lt_of_block HCB16.out)).trans HCB16.out)).1
                          have HTY : Hid (∀ p : BelowBy w16.heap.size w16, Calls Try.prog 48 #[.pointer (some ⟨hb, 0, none⟩), .agg #[.int .i64 4, .int .i64 0, .string ⟨#[]⟩]] p.x fun x w' => x = .returned (.string (nm' k)) ∧ Below p.x.heap.size p.x w') := fun p => type_cell (i := 0) (hdP_below HP16.out p.h) rfl ⟨#[]⟩
                          have HNM := Lib.hid fun W => name_any k W
                          have HST := Lib.hid fun W => str_any ⟨#[97]⟩ W
                          generalize nm' k = NK at *
                          have HTS := Lib.hid fun W => type_str hb 0 ⟨#[97]⟩ W
                          refine wp_region_quiet_below (by kernel_rfl) (by kernel_rfl) ?_
                          repeat (quiet_step (first | (go_at_call 29; with_reducible refine Calls.below_of (HRF.out _)) | (go_at_call 48; with_reducible refine Calls.below_of (HTY.out _)) | (go_at_call 48; with_reducible refine Calls.below_of (HTS.out _)) | (go_at_call 45; with_reducible refine Calls.below_of (HNM.out _)) | (go_at_call 49; with_reducible refine Calls.below_of (HST.out _))))
                          refine wpQuiet_nil ?_
                          intro _ hw'
                          obtain ⟨pq, hw''⟩ := hw'
                          subst hw''
                          go_wp2_with fail
                          go_ret
                          exact ⟨rfl, HZ16.out.trans (pq.h.mono HZ16.out.size)⟩
                        · have ho2 : ¬ (other = 0 ∨ k = other) := fun e => e.elim h0 ho
                          clear h0 ho
                          have ho := ho2
                          clear ho2
                          have HO1 := Lib.hid (of_other (i := 0) (hdP_below HP.out hb13) rfl ⟨#[]⟩ other ho)
                          have o0 : (other == 0) = false := by rw [beq_eq_false_iff_ne]; exact fun e => ho (Or.inl e)
                          have o1 : (other == k) = false := by rw [beq_eq_false_iff_ne]; exact fun e => ho (Or.inr e.symm)
                          clear ho
                          go_wp2_with fail
                          refine HO1.out.mono ?_
                          rintro e w14 ⟨rfl, hb14⟩
                          have HP14 := Lib.hid (hdP_below (hdP_below HP.out hb13) hb14)
                          have hcb14 := (hb14.block _ (lt_of_block ((hb13.block _ (lt_of_block HCB.out)).trans HCB.out))).trans ((hb13.block _ (lt_of_block HCB.out)).trans HCB.out)
                          have HCB14 := Lib.hid hcb14
                          have HZ13 := HZ.out.trans (hb13.mono HZ.out.size)
                          have HZ14 := Lib.hid (HZ13.trans (hb14.mono HZ13.size))
                          clear hb13 hb14 hcb14 HZ13 HO1
                          go_wp2_with fail
                          refine (int_any 0 _).mono ?_
                          rintro e w15 ⟨rfl, hb15⟩
                          go_wp2_with fail
                          refine (of_val hb 2 0 ⟨#[]⟩ 0 (by decide) _).mono ?_
                          rintro e w16 ⟨rfl, hb16⟩
                          have hz16 := hb15.trans (hb16.mono hb15.size)
                          have HP16 := Lib.hid (hdP_below HP14.out hz16)
                          have HCB16 := Lib.hid ((hz16.block _ (lt_of_block HCB14.out)).trans HCB14.out)
                          have HZ16 := Lib.hid (HZ14.out.trans (hz16.mono HZ14.out.size))
                          clear hb15 hb16 hz16 HP14 HCB14 HZ14
                          obtain ⟨x0, _, _, _, _, _⟩ := cb_cells HCB16.out
                          go_wp2_with fail
                          have q0 : ∀ p : BelowBy w16.heap.size w16, p.x.cell? ⟨w.heap.size, 0, none⟩ = some (.int .i64 k) := fun p => (cb_cells ((p.h.block _ (lt_of_block HCB16.out)).trans HCB16.out)).1
                          have HTY : Hid (∀ p : BelowBy w16.heap.size w16, Calls Try.prog 48 #[.pointer (some ⟨hb, 0, none⟩), .agg #[.int .i64 4, .int .i64 0, .string ⟨#[]⟩]] p.x fun x w' => x = .returned (.string (nm' k)) ∧ Below p.x.heap.size p.x w') := fun p => type_cell (i := 0) (hdP_below HP16.out p.h) rfl ⟨#[]⟩
                          have HNM := Lib.hid fun W => name_any k W
                          have HST := Lib.hid fun W => str_any ⟨#[97]⟩ W
                          generalize nm' k = NK at *
                          have HTS := Lib.hid fun W => type_str hb 0 ⟨#[97]⟩ W
                          refine wp_region_quiet_below (by kernel_rfl) (by kernel_rfl) ?_
                          repeat (quiet_step (first | (go_at_call 29; with_reducible refine Calls.below_of (HRF.out _)) | (go_at_call 48; with_reducible refine Calls.below_of (HTY.out _)) | (go_at_call 48; with_reducible refine Calls.below_of (HTS.out _)) | (go_at_call 45; with_reducible refine Calls.below_of (HNM.out _)) | (go_at_call 49; with_reducible refine Calls.below_of (HST.out _))))
                          refine wpQuiet_nil ?_
                          intro _ hw'
                          obtain ⟨pq, hw''⟩ := hw'
                          subst hw''
                          go_wp2_with fail
                          go_ret
                          exact ⟨rfl, HZ16.out.trans (pq.h.mono HZ16.out.size)⟩
      · have g1 : ¬ (50 : Int) < (L.length : Int) := by omega
        have g2 : ¬ (50 : Int) < (N.length : Int) := by omega
        have g3 : (200 : Int) < (s.size : Int) := by omega
        clear h1 h2 h3
        go_wp2_with fail
        go_ret
        exact ⟨rfl, HZ1.out⟩
    · have g1 : ¬ (50 : Int) < (L.length : Int) := by omega
      have g2 : (50 : Int) < (N.length : Int) := by omega
      clear h1 h2
      go_wp2_with fail
      go_ret
      exact ⟨rfl, HZ1.out⟩
  · have g1 : (50 : Int) < (L.length : Int) := by omega
    clear h1
    go_wp2_with fail
    go_ret
    exact ⟨rfl, HZ1.out⟩
end Go.Proofs.Ytipdjjgpcmbpdaa.Hp
