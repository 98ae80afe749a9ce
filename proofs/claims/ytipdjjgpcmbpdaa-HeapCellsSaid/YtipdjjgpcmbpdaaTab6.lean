/- Contracts of table.Delete, Clear. -/
import Derived.Test.YtipdjjgpcmbpdaaTab5
import Derived.Test.YtipdjjgpcmbpdaaList5
set_option linter.unusedVariables false
namespace Go.Proofs.Ytipdjjgpcmbpdaa.Ta
open Go.RowKit Go.ChangeShapes Go.WideShapes Go.ChangeAt Go.Proofs.Ytipdjjgpcmbpdaa.Va

def zero3 : Obj := .cells #[.int .i64 0, .int .i64 0, .string ⟨#[]⟩] 30
set_option maxRecDepth 100000 in
set_option maxHeartbeats 1000000 in
theorem delete_no {B b sz us : Nat} {E : List (Vl × Vl × Int)} {last : Int} (key : Vl) (hok : okK key) (hn : NoKey E key) (w : World) (h : IsTab B b w E last sz us) :
    Calls Try.prog 24 #[.pointer (some ⟨b, 0, none⟩), .agg #[.int .i64 key.1, .int .i64 key.2.1, .string key.2.2]] w fun x w' => x = .returned (.tuple #[.agg #[.int .i64 0, .int .i64 0, .string ⟨#[]⟩], .int .i64 3]) ∧ Below w.heap.size w w' := by
  obtain ⟨ar, cr, ap, cp, R, P, n, hT, rfl, _, _⟩ := h
  have hE1 : Below w.heap.size w (w.alloc (.cells #[.int .i64 key.1, .int .i64 key.2.1, .string key.2.2] 30)) := (Below.refl _ _).alloc (Nat.le_refl _) _
  have hE := hE1.alloc (by simp) (.cells #[.int .i64 0, .int .i64 0, .string ⟨#[]⟩] 30)
  have HF := Lib.hid (find_no key hok (noKey_rows hn) _ (tab_below hT hE))
  have hq := heap_alloc_new (w.alloc (.cells #[.int .i64 key.1, .int .i64 key.2.1, .string key.2.2] 30)) (.cells #[.int .i64 0, .int .i64 0, .string ⟨#[]⟩] 30)
  have hs : (w.alloc (.cells #[.int .i64 key.1, .int .i64 key.2.1, .string key.2.2] 30)).heap.size = w.heap.size + 1 := by simp
  rw [hs] at hq
  have HE := Lib.hid hE
  have HQ := Lib.hid hq
  clear hT hE hE1 hq hn hok hs
  go_enter Try.func24, Try.ntmps24
  go_wp2_with fail
  refine HF.out.mono ?_
  rintro e w1 ⟨rfl, hb1⟩
  have HZ := Lib.hid (HE.out.trans (hb1.mono HE.out.size))
  have HQ1 := Lib.hid (keep HQ.out hb1)
  clear hb1
  go_wp2_with fail
  refine (null_any _).mono ?_
  rintro e w2 ⟨rfl, hb2⟩
  have hz2 := HZ.out.trans (hb2.mono HZ.out.size)
  have hq2 := keep HQ1.out hb2
  obtain ⟨a0, a1, a2, b0, b1, b2⟩ := three_facts hq2
  have HR := Lib.hid hq2
  have HZ2 := Lib.hid hz2
  clear hz2 hq2 hb2
  go_wp2_with fail
  (try simp only [Exit.inBlock, Exit.then])
  refine bodyPost_ret (Va.results_cell_tmp rfl _ _ (w.heap.size + 1) 30 #[.int .i64 0, .int .i64 0, .string ⟨#[]⟩] (0, 0) _ rfl (heap_three HR.out _ _ _) Try.underlying30 rfl A.infoV) ?_ ?_
  · rfl
  · exact ⟨rfl, ((HZ2.out.setCell (by simp) _).setCell (by simp) _).setCell (by simp) _⟩
theorem eight_heap {w : World} {g k : Nat} {o0 o1 o2 o3 o4 o5 o6 o7 : Nat} {v0 v1 v2 v3 v4 v5 v6 v7 : Value} (h : k ≠ g) :
    ((((((((w.setCell ⟨g, o0, none⟩ v0).setCell ⟨g, o1, none⟩ v1).setCell ⟨g, o2, none⟩ v2).setCell ⟨g, o3, none⟩ v3).setCell ⟨g, o4, none⟩ v4).setCell ⟨g, o5, none⟩ v5).setCell ⟨g, o6, none⟩ v6).setCell ⟨g, o7, none⟩ v7).heap[k]? = w.heap[k]? := by
  rw [set_heap h, set_heap h, set_heap h, set_heap h, set_heap h, set_heap h, set_heap h, set_heap h]
theorem drew_heap (w : World) : w.drew.heap = w.heap := rfl
theorem ents_pos2 {R : List Rw} {i : Nat} {r : Rw} (hi : R[i]? = some r) (hk : r.k ≠ nul) : 0 < (ents R).length := by
  have := ents_pos (ents_at hi hk); omega
set_option maxRecDepth 100000 in
set_option maxHeartbeats 4000000 in
theorem delete_yes {B b sz us j : Nat} {E : List (Vl × Vl × Int)} {last : Int} {k v : Vl} {c : Int} (hj : E[j]? = some (k, v, c)) (w : World) (hB : B ≤ w.heap.size) (h : IsTab B b w E last sz us) :
    Calls Try.prog 24 #[.pointer (some ⟨b, 0, none⟩), .agg #[.int .i64 k.1, .int .i64 k.2.1, .string k.2.2]] w fun x w' => x = .returned (.tuple #[.agg #[.int .i64 v.1, .int .i64 v.2.1, .string v.2.2], .int .i64 0]) ∧ IsTab B b w' (E.eraseIdx j) last sz us ∧ St B w w' := by
  obtain ⟨ar, cr, ap, cp, R, P, n, hT, rfl, hsz, hus⟩ := h
  obtain ⟨i, r, hi, rfl, rfl, rfl, hk, hrk⟩ := ents_row hj
  have hE1 : Below w.heap.size w (w.alloc (.cells #[.int .i64 r.k.1, .int .i64 r.k.2.1, .string r.k.2.2] 30)) := (Below.refl _ _).alloc (Nat.le_refl _) _
  have hE := hE1.alloc (by simp) (.cells #[.int .i64 0, .int .i64 0, .string ⟨#[]⟩] 30)
  have HF := Lib.hid (find_yes hi hk _ (tab_below hT hE))
  have hq := heap_alloc_new (w.alloc (.cells #[.int .i64 r.k.1, .int .i64 r.k.2.1, .string r.k.2.2] 30)) (.cells #[.int .i64 0, .int .i64 0, .string ⟨#[]⟩] 30)
  have hs : (w.alloc (.cells #[.int .i64 r.k.1, .int .i64 r.k.2.1, .string r.k.2.2] 30)).heap.size = w.heap.size + 1 := by simp
  rw [hs] at hq
  have hil := (List.getElem?_eq_some_iff.1 hi).1
  obtain ⟨gr, rfl, _, hgr⟩ := row_some hT.r (by omega)
  have hrb := (plen hT.g).2
  have hnp : 0 < n := by rw [hT.cnt]; exact ents_pos2 hi hk
  have hnb : n ≤ 33554432 := by
    have h1 : (ents R).length ≤ R.length := by unfold ents; rw [List.length_map]; exact List.length_filter_le _ _
    rw [hT.cnt]; omega
  obtain ⟨m, hm⟩ : ∃ m, n = m + 1 := ⟨n - 1, by omega⟩
  have hres : ∀ W, TabM B b (some ⟨gr, 0, none⟩) cr ap cp W (R.set i ⟨nul, nul, r.c, (i : Int) + 1⟩) P (m : Int) last → IsTab B b W ((ents R).eraseIdx j) last sz us := by
    intro W hM
    have hg := good_del hT.g hi
    refine ⟨_, cr, ap, cp, _, P, m, ⟨hM.blk, hM.low, hM.r, hM.p, hg, ?_, ?_, hT.bd⟩, ?_, hsz, by rw [List.length_set]; exact hus⟩
    · rw [ents_del (q := ⟨nul, nul, r.c, (i : Int) + 1⟩) hi hk rfl, List.length_eraseIdx, if_pos (by rw [hrk]; exact (List.getElem?_eq_some_iff.1 hj).1), ← hT.cnt]; omega
    · exact set_ok hT.ok ⟨show (0 : Int) ≤ 0 by decide, show (0 : Int) ≤ 4 by decide, show (⟨#[]⟩ : ByteArray).size ≤ 1048576 by decide⟩
    · rw [ents_del (q := ⟨nul, nul, r.c, (i : Int) + 1⟩) hi hk rfl, hrk]
  have HRES := Lib.hid hres
  have HE := Lib.hid hE
  have HQ := Lib.hid hq
  have HT := Lib.hid hT
  have HI := Lib.hid hi
  have hi0 : (0 : Int) ≤ (i : Int) := by omega
  have hi1 : (i : Int) < (R.length : Int) := by omega
  have hbw := lt_of_block hT.blk
  have HM := Lib.hid hm
  clear hT hE hE1 hq hj hs hk hi hil hres hrk hm
  generalize hrkk : r.k = k at *
  have HRK := Lib.hid hrkk
  clear hrkk
  go_enter Try.func24, Try.ntmps24
  go_wp2_with fail
  refine HF.out.mono ?_
  rintro e w1 ⟨rfl, hb1⟩
  have hz := HE.out.trans (hb1.mono HE.out.size)
  have hq1 := keep HQ.out hb1
  have hbs : w.heap.size + 1 + 1 ≤ w1.heap.size := by have := hb1.size; simp at this; omega
  have hT1 := tab_below HT.out hz
  obtain ⟨d0, d1, d2, d3, _, _, _, _⟩ := four_cells hT1.blk
  obtain ⟨r0, r1, r2, r3, r4, r5, r6, r7⟩ := ownR_at hT1.r HI.out
  have hV := heap_alloc_new w1 (.cells #[.int .i64 r.v.1, .int .i64 r.v.2.1, .string r.v.2.2] 30)
  have hEV : Below w1.heap.size w1 (w1.alloc (.cells #[.int .i64 r.v.1, .int .i64 r.v.2.1, .string r.v.2.2] 30)) := (Below.refl _ _).alloc (Nat.le_refl _) _
  have hz2 := hz.trans (hEV.mono hz.size)
  have hT2 := tab_below HT.out hz2
  have hq2 := keep hq1 hEV
  obtain ⟨W2, hW2⟩ : ∃ W2, W2 = w1.alloc (.cells #[.int .i64 r.v.1, .int .i64 r.v.2.1, .string r.v.2.2] 30) := ⟨_, rfl⟩
  rw [← hW2] at hV hz2 hT2 hq2
  have hbk := hT2.blk
  obtain ⟨e0, e1, e2, e3, ez0, ez1, ez2, ez3⟩ := four_cells hT2.blk
  have e0d : W2.drew.cell? ⟨b, 0, none⟩ = _ := e0
  obtain ⟨s0, s1, s2, s3, s4, s5, s6, s7⟩ := ownR_at hT2.r HI.out
  have s6d : W2.drew.cell? ⟨gr, i * 8 + 6, none⟩ = _ := s6
  have fz : ∀ j, W2.frozen? ⟨gr, j, none⟩ = false := World.ownsRow.frozenAt hT2.r
  have hM3 := tabM_row ⟨hT2.m, st_below hz2 hB⟩ HI.out ⟨nul, nul, r.c, (i : Int) + 1⟩
  dsimp only [nul] at hM3
  have hne2 : ¬ gr = b := by
    rintro rfl
    obtain ⟨_, cur', hc⟩ := row_block hT2.r _ rfl
    rw [hbk] at hc; simp only [Option.some.injEq, Obj.cells.injEq] at hc; exact absurd hc.2.1 (by decide)
  obtain ⟨W3, hW3⟩ : ∃ W3, W3 = ((((((((W2.setCell ⟨gr, i * 8, none⟩ (.int .i64 0)).setCell ⟨gr, i * 8 + 1, none⟩ (.int .i64 0)).setCell ⟨gr, i * 8 + 2, none⟩ (.string ⟨#[]⟩)).setCell ⟨gr, i * 8 + 3, none⟩ (.int .i64 0)).setCell ⟨gr, i * 8 + 4, none⟩ (.int .i64 0)).setCell ⟨gr, i * 8 + 5, none⟩ (.string ⟨#[]⟩)).setCell ⟨gr, i * 8 + 6, none⟩ (.int .i64 r.c)).setCell ⟨gr, i * 8 + 7, none⟩ (.int .i64 ((i : Int) + 1))).drew := ⟨_, rfl⟩
  have hM3' : TabM B b (some ⟨gr, 0, none⟩) cr ap cp W3 (R.set i ⟨nul, nul, r.c, (i : Int) + 1⟩) P n last ∧ St B w W3 := by rw [hW3]; exact ⟨tabM_drew hM3.1, st_drew hM3.2⟩
  have hV3 := (show W3.heap[w1.heap.size]? = W2.heap[w1.heap.size]? by rw [hW3, drew_heap, eight_heap (by omega)]).trans hV
  have hQ3 := (show W3.heap[w.heap.size + 1]? = W2.heap[w.heap.size + 1]? by rw [hW3, drew_heap, eight_heap (by omega)]).trans hq2
  have hM4 := tabM_n hM3' (m : Int)
  have hB3 := hM3'.1.blk
  rw [List.length_set] at hB3
  have HX := Lib.hid (four_cells hB3)
  have hV4 : (W3.setCell ⟨b, 2, none⟩ (.int .i64 (m : Int))).heap[w1.heap.size]? = _ := (set_heap (by omega)).trans hV3
  have hQ4 : (W3.setCell ⟨b, 2, none⟩ (.int .i64 (m : Int))).heap[w.heap.size + 1]? = _ := (set_heap (by omega)).trans hQ3
  have HY := Lib.hid (three_facts hV4)
  have HTT := Lib.hid (three_facts hQ4)
  have HM4 := Lib.hid hM4
  have HQ4 := Lib.hid hQ4
  have hm1 : ((n : Nat) : Int) - 1 = (m : Int) := by have := HM.out; omega
  clear hM3 hM3' hM4 hB3 hV3 hQ3 hV4 hQ4 hV hq1 hq2 hz hz2 hT1 hT2 hbk hEV hb1
  subst hW2
  have HW3 := Lib.hid hW3
  clear hW3
  have HM1 := Lib.hid hm1
  clear hm1
  go_wp2_with fail
  go_region
  rw [← HW3.out]
  clear d0 d1 d2 d3 r0 r1 r2 r3 r4 r5 r6 r7 e0 e1 e2 e3 ez0 ez1 ez2 ez3 e0d s0 s1 s2 s3 s4 s5 s6 s7 s6d fz
  obtain ⟨x0, x1, x2, x3, xz0, xz1, xz2, xz3⟩ := HX.out
  obtain ⟨y0, y1, y2, _, _, _⟩ := HY.out
  obtain ⟨t0, t1, t2, tz0, tz1, tz2⟩ := HTT.out
  have hm1 := HM1.out
  go_wp2_with fail
  (try simp only [Exit.inBlock, Exit.then])
  refine bodyPost_ret (Va.results_cell_tmp rfl _ _ (w.heap.size + 1) 30 #[.int .i64 r.v.1, .int .i64 r.v.2.1, .string r.v.2.2] (0, 0) _ rfl (heap_three HQ4.out _ _ _) Try.underlying30 rfl A.infoV) ?_ ?_
  · rfl
  · refine ⟨rfl, HRES.out _ ?_, ?_⟩
    · exact tabM_other (tabM_other (tabM_other HM4.out.1 HQ4.out (by decide) (by decide) (by decide)) (heap_setCell_same _ _ _ _ _ _ HQ4.out) (by decide) (by decide) (by decide)) (heap_setCell_same _ _ _ _ _ _ (heap_setCell_same _ _ _ _ _ _ HQ4.out)) (by decide) (by decide) (by decide)
    · exact st_new (st_new (st_new HM4.out.2 (by simp) hB _) (by simp) hB _) (by simp) hB _
set_option maxRecDepth 100000 in
theorem tclear_any {B b sz us : Nat} {E : List (Vl × Vl × Int)} {last : Int} (w : World) (h : IsTab B b w E last sz us) :
    Calls Try.prog 54 #[.pointer (some ⟨b, 0, none⟩)] w fun x w' => x = .returned (.tuple #[]) ∧ IsTab B b w' [] last 0 0 ∧ St B w w' := by
  obtain ⟨ar, cr, ap, cp, R, P, n, hT, rfl, hsz, hus⟩ := h
  obtain ⟨c0, c1, c2, c3, z0, z1, z2, z3⟩ := four_cells hT.blk
  have hblk := hT.blk
  have h1 : ((((w.setCell ⟨b, 0, none⟩ (.slice none 0 0)).setCell ⟨b, 1, none⟩ (.slice none 0 0)).setCell ⟨b, 2, none⟩ (.int .i64 0)).setCell ⟨b, 3, none⟩ (.int .i64 last)).heap[b]? = some (.cells #[.slice none 0 0, .slice none 0 0, .int .i64 0, .int .i64 last] 103 (0, 0)) := by
    rw [heap_setCell_same _ _ _ _ _ _ (heap_setCell_same _ _ _ _ _ _ (heap_setCell_same _ _ _ _ _ _ (heap_setCell_same _ _ _ _ _ _ hblk)))]; rfl
  have HI : Hid (IsTab B b ((((w.setCell ⟨b, 0, none⟩ (.slice none 0 0)).setCell ⟨b, 1, none⟩ (.slice none 0 0)).setCell ⟨b, 2, none⟩ (.int .i64 0)).setCell ⟨b, 3, none⟩ (.int .i64 last)) [] last 0 0) :=
    ⟨none, 0, none, 0, [], [], 0, ⟨h1, hT.low, World.ownsRow_nil _ _ _ _, World.ownsRow_nil _ _ _ _, good_none last, rfl, fun i r h => by simp at h, hT.bd⟩, rfl, rfl, rfl⟩
  have HS : Hid (St B w ((((w.setCell ⟨b, 0, none⟩ (.slice none 0 0)).setCell ⟨b, 1, none⟩ (.slice none 0 0)).setCell ⟨b, 2, none⟩ (.int .i64 0)).setCell ⟨b, 3, none⟩ (.int .i64 last))) :=
    ⟨frT_trans (frT_trans (frT_trans (frT_set hblk (Or.inr (Or.inr rfl))) (frT_set (heap_setCell_same _ _ _ _ _ _ hblk) (Or.inr (Or.inr rfl)))) (frT_set (heap_setCell_same _ _ _ _ _ _ (heap_setCell_same _ _ _ _ _ _ hblk)) (Or.inr (Or.inr rfl)))) (frT_set (heap_setCell_same _ _ _ _ _ _ (heap_setCell_same _ _ _ _ _ _ (heap_setCell_same _ _ _ _ _ _ hblk))) (Or.inr (Or.inr rfl))),
      ((((Below.refl _ _).setCell hT.low _).setCell hT.low _).setCell hT.low _).setCell hT.low _⟩
  clear hT hblk h1
  go_enter Try.func54, Try.ntmps54
  go_wp2_with fail
  refine bodyPost_end (v := .tuple #[]) (Li.results_none rfl _ _) rfl ?_
  exact ⟨rfl, HI.out, HS.out⟩
end Go.Proofs.Ytipdjjgpcmbpdaa.Ta
