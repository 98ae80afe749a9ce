/- Contract of table.Put. -/
import Derived.Test.YtipdjjgpcmbpdaaTab8
set_option linter.unusedVariables false
namespace Go.Proofs.Ytipdjjgpcmbpdaa.Ta
open Go.RowKit Go.ChangeShapes Go.WideShapes Go.ChangeAt Go.Proofs.Ytipdjjgpcmbpdaa.Va

theorem tab_last {B b cr cp n : Nat} {ar ap : Option Addr} {w0 w : World} {R : List Rw} {P : List Int} {last : Int} (h : Tab B b ar cr ap cp w R P n last) (hst : St B w0 w) (hl : last + 1 < 4611686018427387904) :
    Tab B b ar cr ap cp (w.setCell ⟨b, 3, none⟩ (.int .i64 (last + 1))) R P n (last + 1) ∧ St B w0 (w.setCell ⟨b, 3, none⟩ (.int .i64 (last + 1))) := by
  refine ⟨⟨?_, h.low, row_move h.r fun k e => set_heap ?_, row_move h.p fun k e => set_heap ?_, good_last h.g (by omega), h.cnt, h.ok, by have := h.bd; omega⟩, ⟨frT_trans hst.f (frT_set h.blk (Or.inr (Or.inr rfl))), hst.b.setCell h.low _⟩⟩
  · rw [heap_setCell_same _ _ _ _ _ _ h.blk]; rfl
  · rintro rfl
    obtain ⟨_, cur', hc⟩ := row_block h.r _ e
    have := h.blk
    rw [this] at hc; simp only [Option.some.injEq, Obj.cells.injEq] at hc; exact absurd hc.2.1 (by decide)
  · rintro rfl
    obtain ⟨_, cur', hc⟩ := row_block h.p _ e
    have := h.blk
    rw [this] at hc; simp only [Option.some.injEq, Obj.cells.injEq] at hc; exact absurd hc.2.1 (by decide)
set_option maxRecDepth 100000 in
theorem put_nul (b : Nat) (v : Vl) (w : World) :
    Calls Try.prog 21 #[.pointer (some ⟨b, 0, none⟩), .agg #[.int .i64 0, .int .i64 0, .string ⟨#[]⟩], .agg #[.int .i64 v.1, .int .i64 v.2.1, .string v.2.2]] w fun x w' => x = .returned (.int .i64 30) ∧ Below w.heap.size w w' := by
  have HN := Lib.hid fun w => none_any nul w
  rw [decide_eq_true (rfl : nul = nul)] at HN
  unfold nul at HN
  have HE : Hid (Below w.heap.size w ((w.alloc (.cells #[.int .i64 0, .int .i64 0, .string ⟨#[]⟩] 30)).alloc (.cells #[.int .i64 v.1, .int .i64 v.2.1, .string v.2.2] 30))) := below_two _ _
  go_enter Try.func21, Try.ntmps21
  go_wp2_with fail
  refine (HN.out _).mono ?_
  rintro e w1 ⟨rfl, hb1⟩
  have HZ := Lib.hid (HE.out.trans (hb1.mono HE.out.size))
  clear hb1
  go_wp2_with fail
  go_ret
  exact ⟨rfl, HZ.out⟩
theorem isTab_st {B b sz us : Nat} {w w' : World} {E : List (Vl × Vl × Int)} {last : Int} (h : IsTab B b w E last sz us) (hb : Below w.heap.size w w') (hB : B ≤ w.heap.size) : IsTab B b w' E last sz us ∧ St B w w' := ⟨isTab_below h hb, st_below hb hB⟩
set_option maxRecDepth 100000 in
set_option maxHeartbeats 1000000 in
theorem put_old {B b sz us j : Nat} {E : List (Vl × Vl × Int)} {last : Int} {k v0 : Vl} {c : Int} (hj : E[j]? = some (k, v0, c)) (v : Vl) (w : World) (hB : B ≤ w.heap.size) (h : IsTab B b w E last sz us) :
    Calls Try.prog 21 #[.pointer (some ⟨b, 0, none⟩), .agg #[.int .i64 k.1, .int .i64 k.2.1, .string k.2.2], .agg #[.int .i64 v.1, .int .i64 v.2.1, .string v.2.2]] w fun x w' => x = .returned (.int .i64 0) ∧ IsTab B b w' (E.set j (k, v, c)) last sz us ∧ St B w w' := by
  have hkn : k ≠ nul := by
    obtain ⟨_, _, _, _, R, _, _, _, rfl, _, _⟩ := h
    obtain ⟨_, _, _, _, _, _, hk, _⟩ := ents_row hj
    exact hk
  have HN := Lib.hid fun w => none_any k w
  rw [decide_eq_false hkn] at HN
  have hE : Below w.heap.size w ((w.alloc (.cells #[.int .i64 k.1, .int .i64 k.2.1, .string k.2.2] 30)).alloc (.cells #[.int .i64 v.1, .int .i64 v.2.1, .string v.2.2] 30)) := below_two _ _
  have HA := Lib.hid (box2 (w := w) (A := .cells #[.int .i64 k.1, .int .i64 k.2.1, .string k.2.2] 30) (B := .cells #[.int .i64 v.1, .int .i64 v.2.1, .string v.2.2] 30) (Below.refl _ _))
  have HE := Lib.hid hE
  have HS := Lib.hid fun (W : World) (hB : B ≤ W.heap.size) (hI : IsTab B b W E last sz us) => set_yes hj v W hB hI
  have HI := Lib.hid h
  clear hj hE h hkn
  go_enter Try.func21, Try.ntmps21
  go_wp2_with fail
  refine (HN.out _).mono ?_
  rintro e w1 ⟨rfl, hb1⟩
  have hz := HE.out.trans (hb1.mono HE.out.size)
  obtain ⟨a0, a1, a2, _, _, _⟩ := three_facts (keep HA.out.1 hb1)
  obtain ⟨b0, b1, b2, _, _, _⟩ := three_facts (keep HA.out.2.1 hb1)
  have hBw : B ≤ w1.heap.size := by have := hz.size; omega
  have HC := Lib.hid (HS.out w1 hBw (isTab_below HI.out hz))
  have HZ := Lib.hid (st_below hz hB)
  clear hb1 hz hBw
  go_wp2_with fail
  refine HC.out.mono ?_
  rintro e w2 ⟨rfl, hI2, hS2⟩
  have HI2 := Lib.hid hI2
  have HS2 := Lib.hid (st_trans HZ.out hS2)
  clear hI2 hS2
  go_wp2_with fail
  go_ret
  exact ⟨rfl, HI2.out, HS2.out⟩
/-- What Put leaves of a new key. -/
def Putn (B b : Nat) (w : World) (E : List (Vl × Vl × Int)) (last : Int) (sz : Nat) (k v : Vl) (x : Ending) (w' : World) : Prop :=
  x = .returned (.int .i64 0) ∧ ∃ sz' us', IsTab B b w' (E ++ [(k, v, last + 1)]) (last + 1) sz' us' ∧ (sz' = sz ∨ sz' ≤ 4 * (E.length + 1)) ∧ St B w w'
set_option maxRecDepth 100000 in
set_option maxHeartbeats 4000000 in
theorem put_new {B b sz us : Nat} {E : List (Vl × Vl × Int)} {last : Int} (k v : Vl) (hok : okK k) (hkn : k ≠ nul) (hno : NoKey E k) (hlen : E.length < 1048576) (hl : last + 1 < 4611686018427387904) (w : World) (hB : B ≤ w.heap.size) (h : IsTab B b w E last sz us) :
    Calls Try.prog 21 #[.pointer (some ⟨b, 0, none⟩), .agg #[.int .i64 k.1, .int .i64 k.2.1, .string k.2.2], .agg #[.int .i64 v.1, .int .i64 v.2.1, .string v.2.2]] w (Putn B b w E last sz k v) := by
  have HN := Lib.hid fun w => none_any k w
  rw [decide_eq_false hkn] at HN
  have hE : Below w.heap.size w ((w.alloc (.cells #[.int .i64 k.1, .int .i64 k.2.1, .string k.2.2] 30)).alloc (.cells #[.int .i64 v.1, .int .i64 v.2.1, .string v.2.2] 30)) := below_two _ _
  have HA := Lib.hid (box2 (w := w) (A := .cells #[.int .i64 k.1, .int .i64 k.2.1, .string k.2.2] 30) (B := .cells #[.int .i64 v.1, .int .i64 v.2.1, .string v.2.2] 30) (Below.refl _ _))
  have HE := Lib.hid hE
  have HS := Lib.hid fun (W : World) (hI : IsTab B b W E last sz us) => set_no k v hok hno W hI
  obtain ⟨ar, cr, ap, cp, R, P, n, hT, hEE, hsz, hus⟩ := h
  have hnE : n = E.length := by rw [hT.cnt, hEE]
  subst hnE
  have HT := Lib.hid hT
  have hnb : E.length < 1048576 := hlen
  have hn1 : ¬ (1048576 : Int) ≤ (E.length : Int) := by omega
  have hlb := hT.bd.1
  have HEE := Lib.hid hEE
  have HSZ := Lib.hid hsz
  have HUS := Lib.hid hus
  have HNO := Lib.hid hno
  have HOK := Lib.hid hok
  have HKN := Lib.hid hkn
  have HLB := Lib.hid hl
  have HNB := Lib.hid hnb
  clear hE hno hT hEE hsz hus hok hkn hl hnb hlen
  go_enter Try.func21, Try.ntmps21
  go_wp2_with fail
  refine (HN.out _).mono ?_
  rintro e w1 ⟨rfl, hb1⟩
  have hz := HE.out.trans (hb1.mono HE.out.size)
  have hA1 := keep HA.out.1 hb1
  have hA2 := keep HA.out.2.1 hb1
  obtain ⟨a0, a1, a2, _, _, _⟩ := three_facts hA1
  obtain ⟨b0, b1, b2, _, _, _⟩ := three_facts hA2
  have HC := Lib.hid (HS.out w1 ⟨ar, cr, ap, cp, R, P, E.length, tab_below HT.out hz, HEE.out, HSZ.out, HUS.out⟩)
  have HZ := Lib.hid hz
  have HA1 := Lib.hid hA1
  have HA2 := Lib.hid hA2
  clear hb1 hz hA1 hA2
  go_wp2_with fail
  refine HC.out.mono ?_
  rintro e w2 ⟨rfl, hb2⟩
  have hz2 := HZ.out.trans (hb2.mono HZ.out.size)
  have hT2 := tab_below HT.out hz2
  have HA3 := Lib.hid (keep HA1.out hb2)
  have HA4 := Lib.hid (keep HA2.out hb2)
  have hBw : B ≤ w2.heap.size := by have := hz2.size; omega
  have HW := Lib.hid (widen_any (Nat.le_of_lt HNB.out) w2 hBw hT2)
  have HZ2 := Lib.hid (st_below hz2 hB)
  have hsw := hz2.size
  have hs2 := lt_of_block HA4.out
  clear a0 a1 a2 b0 b1 b2
  obtain ⟨c0, c1, c2, c3, z0, z1, z2, z3⟩ := four_cells hT2.blk
  clear hb2 hz2 hT2
  generalize (E.length : Int) = z at c2 hn1
  go_wp2_with fail
  refine HW.out.mono ?_
  intro e w3 hh
  obtain ⟨he, ar3, cr3, ap3, cp3, R3, P3, hT3, hE3, hroom3, hsz3, hS3⟩ := hh
  subst he
  clear c0 c1 c2 c3 z0 z1 z2 z3 HW HC
  obtain ⟨hT4, hS4⟩ := tab_last hT3 (st_trans HZ2.out hS3) HLB.out
  obtain ⟨c0, c1, c2, c3, z0, z1, z2, z3⟩ := four_cells hT3.blk
  have notT : ∀ (e : Vl), NotT (.cells #[.int .i64 e.1, .int .i64 e.2.1, .string e.2.2] 30) := fun e cur t fr x => by cases x; decide
  have hA5 := hS3.f.block _ _ HA3.out (notT k)
  have hA6 := hS3.f.block _ _ HA4.out (notT v)
  have hbb : b ≠ w.heap.size := by rintro rfl; have := hT3.blk; rw [hA5] at this; simp only [Option.some.injEq, Obj.cells.injEq] at this; exact absurd this.2.1 (by decide)
  have hbb2 : b ≠ w.heap.size + 1 := by rintro rfl; have := hT3.blk; rw [hA6] at this; simp only [Option.some.injEq, Obj.cells.injEq] at this; exact absurd this.2.1 (by decide)
  have hA7 : (w3.setCell ⟨b, 3, none⟩ (.int .i64 (last + 1))).heap[w.heap.size]? = _ := (set_heap (fun x => hbb x.symm)).trans hA5
  have hA8 : (w3.setCell ⟨b, 3, none⟩ (.int .i64 (last + 1))).heap[w.heap.size + 1]? = _ := (set_heap (fun x => hbb2 x.symm)).trans hA6
  obtain ⟨W4, hW4⟩ : ∃ W4, W4 = w3.setCell ⟨b, 3, none⟩ (.int .i64 (last + 1)) := ⟨_, rfl⟩
  rw [← hW4] at hT4 hS4 hA7 hA8
  have hno3 : ∀ (i : Nat) (r : Rw), R3[i]? = some r → r.k ≠ k := ents_no HKN.out (by rw [hE3, HEE.out]; exact (HNO.out.resolve_left HKN.out))
  have hADD := (add_any (⟨k, v, last + 1, 0⟩ : Rw) HKN.out HOK.out hno3 (fun i r hi => by have := (hT3.g.cur i r hi).2; show r.c < last + 1; omega) (show 0 < last + 1 by omega) (Int.le_refl _) hroom3 W4.drew (by have := hS4.f.size; show B ≤ W4.heap.size; omega) (tab_below hT4 (Below.refl _ _).drew))
  dsimp only at hADD
  have HADD := Lib.hid hADD
  clear hADD
  have HFIN : Hid (∀ x w', Added B b ar3 ap3 cp3 W4.drew R3 P3 E.length (last + 1) ⟨k, v, last + 1, 0⟩ x w' → ∃ sz' us', IsTab B b w' (E ++ [(k, v, last + 1)]) (last + 1) sz' us' ∧ (sz' = sz ∨ sz' ≤ 4 * (E.length + 1)) ∧ St B w w') := by
    rintro x w' ⟨_, ar', cr', P', hT5, hP5, hU5, _⟩
    refine ⟨P'.length, (R3 ++ [(⟨k, v, last + 1, 0⟩ : Rw)]).length, ⟨_, _, _, _, _, _, _, hT5, ?_, rfl, rfl⟩, ?_, st_trans (st_drew hS4) (st_up (tab_below hT4 (Below.refl _ _).drew).m hU5 (by have := hS4.f.size; show B ≤ W4.heap.size; omega))⟩
    · rw [ents_append, hE3, HEE.out, ents_live (r := (⟨k, v, last + 1, 0⟩ : Rw)) HKN.out]
    · rw [hP5]
      rcases hsz3 with e | e
      · left; rw [e, HSZ.out]
      · right; exact e
  have hd3 : W4.drew.heap[b]? = _ := hT4.blk
  obtain ⟨e0, e1, e2, e3, _, _, _, _⟩ := four_cells hd3
  have hdA : W4.drew.heap[w.heap.size]? = _ := hA7
  have hdB : W4.drew.heap[w.heap.size + 1]? = _ := hA8
  obtain ⟨f0, f1, f2, _, _, _⟩ := three_facts hdA
  obtain ⟨g0, g1, g2, _, _, _⟩ := three_facts hdB
  have hwl : IntKind.i64.wrap (last + 1) = last + 1 := by have := HLB.out; rw [IntKind.wrap_i64]; omega
  clear hT3 hE3 hroom3 hsz3 hS3 hT4 hS4 hA5 hA6 hA7 hA8 hno3 hd3 hdA hdB notT hbb hbb2
  subst hW4
  go_wp2_with fail
  go_region_with (go_at_call 63; (with_reducible refine HADD.out.mono ?_); intro e w9 hh9; have HQ := Lib.hid (HFIN.out _ _ hh9); obtain ⟨he9, _⟩ := hh9; subst he9)
  all_goals go_wp2_with fail
  all_goals go_ret
  all_goals exact ⟨rfl, HQ.out⟩
end Go.Proofs.Ytipdjjgpcmbpdaa.Ta
