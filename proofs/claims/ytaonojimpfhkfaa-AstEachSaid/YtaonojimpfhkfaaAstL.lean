/- The builder: Node, Tree. -/
import Derived.Test.YtaonojimpfhkfaaAstK
namespace Go.Proofs.Ytaonojimpfhkfaa.As
open Go.RowKit Go.ChangeShapes Go.WideShapes Go.ChangeAt

theorem results_cell_tmp {P : Program} {fn : Func} {p q : Tmp} {ty : TypeId} (h : fn.results = #[.cell p ty, .tmp q]) (tmps : Array Value) (w : World) (g : Nat) (t : TypeId) (cs : Array Value) (fr : Nat × Nat) (d : TypeDesc)
    (hp : tmps.getD p undef = .pointer (some ⟨g, 0, none⟩)) (hg : w.heap[g]? = some (.cells cs t fr))
    (hu : P.underlying ty = some d) (hd : (match d with | .struct _ | .array _ _ => true | _ => false) = true) (hi : (P.info? ty).map (·.size) = some cs.size) :
    (results fn tmps).run P w = .ok (.tuple #[.agg cs, tmps.getD q undef]) w := by
  have hp' : tmps[p]?.getD undef = .pointer (some ⟨g, 0, none⟩) := by simpa using hp
  simp [results, h, hp', asAddr, run_loadVar_row w g t ty cs fr d hg hu hd hi]
theorem results_cells {P : Program} {fn : Func} {p q : Tmp} {ty ty' : TypeId} (h : fn.results = #[.cell p ty, .cell q ty']) (tmps : Array Value) (w : World) (g g' : Nat) (t t' : TypeId) (cs cs' : Array Value) (fr fr' : Nat × Nat) (d d' : TypeDesc)
    (hp : tmps.getD p undef = .pointer (some ⟨g, 0, none⟩)) (hg : w.heap[g]? = some (.cells cs t fr)) (hu : P.underlying ty = some d) (hd : (match d with | .struct _ | .array _ _ => true | _ => false) = true) (hi : (P.info? ty).map (·.size) = some cs.size)
    (hp2 : tmps.getD q undef = .pointer (some ⟨g', 0, none⟩)) (hg2 : w.heap[g']? = some (.cells cs' t' fr')) (hu2 : P.underlying ty' = some d') (hd2 : (match d' with | .struct _ | .array _ _ => true | _ => false) = true) (hi2 : (P.info? ty').map (·.size) = some cs'.size) :
    (results fn tmps).run P w = .ok (.tuple #[.agg cs, .agg cs']) w := by
  have hp' : tmps[p]?.getD undef = .pointer (some ⟨g, 0, none⟩) := by simpa using hp
  have hp2' : tmps[q]?.getD undef = .pointer (some ⟨g', 0, none⟩) := by simpa using hp2
  simp [results, h, hp', hp2', asAddr, run_loadVar_row w g t ty cs fr d hg hu hd hi, run_loadVar_row w g' t' ty' cs' fr' d' hg2 hu2 hd2 hi2]
def noNd : Value := .agg #[.int .i64 0, .int .i64 0, .string ⟨#[]⟩, .int .i64 0, .slice none 0 0]
set_option maxRecDepth 100000 in
set_option maxHeartbeats 4000000 in
theorem node_no {lo b c : Nat} {A : Option Addr} {w : World} {L : List Nd} (i : Int) (h : BldP lo b A c w L) (hi : i < 0 ∨ (L.length : Int) ≤ i) :
    Calls Try.prog 13 #[.pointer (some ⟨b, 0, none⟩), .int .i64 i] w fun e w' => e = .returned (.tuple #[noNd, .int .i64 1]) ∧ Below w.heap.size w w' := by
  have hb := bel1 w (.cells #[.int .i64 0, .int .i64 0, .string ⟨#[]⟩, .int .i64 0, .slice none 0 0] 37)
  have HN := Lib.hid (new1 w (.cells #[.int .i64 0, .int .i64 0, .string ⟨#[]⟩, .int .i64 0, .slice none 0 0] 37))
  have c0 := cell_of_one (h.below hb).x
  have HB := Lib.hid hb
  have c1 := cell_of_one h.x
  unfold noNd
  clear h hb
  by_cases h0 : i < 0
  all_goals
    have h1 := hi
    clear hi
    first
      | (have hge : (L.length : Int) ≤ i := by omega)
      | skip
    clear h1
    go_enter Try.func13, Try.ntmps13
    go_wp2_with fail
    refine bodyPost_ret (results_cell_tmp rfl _ _ w.heap.size 37 #[.int .i64 0, .int .i64 0, .string ⟨#[]⟩, .int .i64 0, .slice none 0 0] (0, 0) _ rfl HN.out Try.underlying37 rfl As.A.infoN2) rfl ⟨rfl, HB.out⟩
set_option maxRecDepth 100000 in
set_option maxHeartbeats 4000000 in
theorem node_yes {lo b c : Nat} {A : Option Addr} {w : World} {L : List Nd} (i : Nat) (n : Nd) (h : BldP lo b A c w L) (hn : L[i]? = some n) (hl : L.length ≤ 1000000) (hkl : n.kids.length ≤ 1000000) (hs : n.text.size ≤ 1000000) :
    Calls Try.prog 13 #[.pointer (some ⟨b, 0, none⟩), .int .i64 (i : Int)] w fun e w' => ∃ a c, e = .returned (.tuple #[nv (n.at a c), .int .i64 0]) ∧ OwI w.heap.size a c w' n.kids ∧ Below w.heap.size w w' := by
  have hb := bel1 w (.cells #[.int .i64 0, .int .i64 0, .string ⟨#[]⟩, .int .i64 0, .slice none 0 0] 37)
  have HN := Lib.hid (new1 w (.cells #[.int .i64 0, .int .i64 0, .string ⟨#[]⟩, .int .i64 0, .slice none 0 0] 37))
  have hP := h.below hb
  have hil := get_lt hn
  obtain ⟨g, rfl, _, _⟩ := own_some hP.t.n (by omega)
  obtain ⟨⟨m0, m1, m2, m3, m4⟩, _⟩ := ownN_facts hP.t.n hn
  have c0 := cell_of_one hP.x
  have HOA := Lib.hid (own_any n (hP.t.k n (List.mem_of_getElem? hn)).row (Nat.le_refl _) hkl hs)
  have HB := Lib.hid hb
  have hi0 : (0 : Int) ≤ (i : Int) := by omega
  have hi1 : ¬ (L.length : Int) ≤ (i : Int) := by omega
  have hi2 : (i : Int) < (L.length : Int) := by omega
  unfold nv Nd.at at HOA ⊢
  simp only at HOA ⊢
  clear h hn hb hP hil hkl hs
  go_enter Try.func13, Try.ntmps13
  go_wp2_with fail
  refine HOA.out.mono ?_
  rintro e w2 ⟨a, c2, rfl, ho, hb2⟩
  have HX := Lib.hid ((hb2.block _ (lt_of_block HN.out)).trans HN.out)
  obtain ⟨⟨v0, v1, v2, v3, v4⟩, q0, q1, q2, q3, q4⟩ := five_facts HX.out
  have HZ := Lib.hid (HB.out.trans (hb2.mono HB.out.size))
  have HO := Lib.hid (own_mono ho HB.out.size)
  clear ho hb2 m0 m1 m2 m3 m4 c0
  go_wp2_with fail
  refine bodyPost_ret (results_cell_tmp rfl _ _ w.heap.size 37 #[.int .i64 n.kind, .int .i64 n.loc, .string n.text, .int .i64 n.num, .slice a n.kids.length c2] (0, 0) _ rfl (heap_five HX.out _ _ _ _ _) Try.underlying37 rfl As.A.infoN2) rfl ⟨a, c2, rfl, own_five HO.out HX.out (by decide), below_five HZ.out (Nat.le_refl _) _ _ _ _ _⟩
/-- What Tree answers. -/
def Treed (w w' : World) (e : Ending) (L : List Nd) : Prop :=
  Below w.heap.size w w' ∧ ((chk PW L).1 ≠ 0 → e = .returned (.tuple #[.agg #[.slice none 0 0], flt (chk PW L)])) ∧
  ((chk PW L).1 = 0 → ∃ A' c' M, e = .returned (.tuple #[.agg #[.slice A' M.length c'], flt (0, 0)]) ∧ Alk L M ∧ OwT w.heap.size A' c' w' M)
theorem set_same {w : World} {g i : Nat} {cs : Array Value} {t : TypeId} {v : Value} (h : w.heap[g]? = some (.cells cs t (0, 0))) (hv : cs[i]? = some v) : w.setCell ⟨g, i, none⟩ v = w := by
  have hcs : cs.setIfInBounds i v = cs := by
    apply Array.ext_getElem?
    intro k
    rw [Array.getElem?_setIfInBounds]
    by_cases e : i = k
    · subst e
      rw [if_pos rfl, if_pos (Array.getElem?_eq_some_iff.1 hv).1, hv]
    · rw [if_neg e]
  have hm : (w.setCell ⟨g, i, none⟩ v).heap = w.heap := by
    apply Array.ext_getElem?
    intro k
    simp only [World.setCell, Array.getElem?_modify]
    by_cases e : g = k
    · subst e
      rw [if_pos rfl, h]
      show some (Obj.cells (cs.setIfInBounds i v) t (0, 0)) = _
      rw [hcs]
    · rw [if_neg e]
  calc w.setCell ⟨g, i, none⟩ v = { w with heap := (w.setCell ⟨g, i, none⟩ v).heap } := rfl
    _ = w := by rw [hm]
theorem alloc3_new (w : World) (X Y Z : Obj) : (((w.alloc X).alloc Y).alloc Z).heap[w.heap.size]? = some X ∧ (((w.alloc X).alloc Y).alloc Z).heap[w.heap.size + 1]? = some Y ∧ (((w.alloc X).alloc Y).alloc Z).heap[w.heap.size + 1 + 1]? = some Z ∧ Below w.heap.size w (((w.alloc X).alloc Y).alloc Z) := by
  obtain ⟨h0, h1, h2, h3⟩ := new3 w X Y Z
  exact ⟨h0, h1, h2, ((bel2 w X Y).alloc (by simp; omega) Z)⟩
set_option maxRecDepth 100000 in
set_option maxHeartbeats 8000000 in
theorem tree_any {lo b c : Nat} {A : Option Addr} {w : World} {L : List Nd} (h : BldP lo b A c w L) (hsz : Szd L) (m : Int) (hm : w.cell? ⟨0, 0, none⟩ = some (.int .i64 m)) :
    Calls Try.prog 14 #[.pointer (some ⟨b, 0, none⟩)] w fun e w' => Treed w w' e L := by
  obtain ⟨x0, x1, x2, hz⟩ := alloc3_new w (.cells #[.slice none 0 0] 24) (.cells #[.int .i64 0, .int .i64 0] 31) (.cells #[.slice A L.length c] 24)
  have c0 := cell_of_one h.x
  have c1 := cell_of_one (h.below ((Below.refl w.heap.size w).alloc (Nat.le_refl _) (.cells #[.slice none 0 0] 24))).x
  have c2 := cell_of_one (h.below (bel2 w (.cells #[.slice none 0 0] 24) (.cells #[.int .i64 0, .int .i64 0] 31))).x
  have c3 := cell_of_one x2
  have h0 : 0 < w.heap.size := by
    refine Nat.pos_of_ne_zero fun h => ?_
    have e : w.heap = #[] := Array.eq_empty_of_size_eq_zero h
    simp [World.cell?, e] at hm
  have hTr := (h.t.tr).keep (Nat.le_refl _) fun b hb => hz.block b hb
  have HTR := Lib.hid hTr
  have HX0 := Lib.hid x0
  have HX1 := Lib.hid x1
  have HX2 := Lib.hid x2
  have HZ := Lib.hid hz
  have HS := Lib.hid hsz
  have HCK := Lib.hid (check_any (cap := c) (hTr.keep hz.size fun b _ => rfl) hsz m ((World.cell?_of_block (a := ⟨0, 0, none⟩) (hz.block 0 h0)).trans hm))
  clear h hsz hm x0 x1 x2 hz hTr h0
  go_enter Try.func14, Try.ntmps14
  go_wp2_with fail
  generalize ((w.alloc (.cells #[.slice none 0 0] 24)).alloc (.cells #[.int .i64 0, .int .i64 0] 31)).alloc (.cells #[.slice A L.length c] 24) = w0 at *
  refine HCK.out.mono ?_
  rintro e w1 ⟨rfl, hb1⟩
  have HB1 := Lib.hid hb1
  have hy0 := (hb1.block _ (lt_of_block HX0.out)).trans HX0.out
  have hy1 := (hb1.block _ (lt_of_block HX1.out)).trans HX1.out
  have hy2 := (hb1.block _ (lt_of_block HX2.out)).trans HX2.out
  obtain ⟨⟨cd, ca⟩, hc⟩ : ∃ r, chk PW L = r := ⟨_, rfl⟩
  unfold flt
  rw [hc]
  simp only
  have hb2 := bel1 w1 (.cells #[.int .i64 cd, .int .i64 ca] 31)
  have hn2 := new1 w1 (.cells #[.int .i64 cd, .int .i64 ca] 31)
  have HN2 := Lib.hid hn2
  have HY0 := Lib.hid ((hb2.block _ (lt_of_block hy0)).trans hy0)
  have HY1 := Lib.hid ((hb2.block _ (lt_of_block hy1)).trans hy1)
  have HY2 := Lib.hid ((hb2.block _ (lt_of_block hy2)).trans hy2)
  have HZ2 := Lib.hid ((HZ.out.trans (hb1.mono HZ.out.size)).trans (hb2.mono (by have := HZ.out.size; have := hb1.size; omega)))
  obtain ⟨z0, z1, _, _⟩ := fault_facts HN2.out
  have HC := Lib.hid hc
  clear c0 c1 c2 c3 hb1 hy0 hy1 hy2 hb2 hn2 hc HCK HX0 HX1 HX2
  by_cases h0 : cd = 0
  · have h0b : (cd != 0) = false := by rw [h0]; rfl
    have t0 := cell_of_one HY2.out
    have HCL := Lib.hid (clone_tree (cap := c) (w := w1.alloc (.cells #[.int .i64 cd, .int .i64 ca] 31)) (HTR.out.keep (Nat.le_refl _) fun b hb => by
      have h1 := HB1.out.block b (by have := HZ.out.size; omega)
      exact ((bel1 w1 _).block b (by have := HZ.out.size; have := HB1.out.size; omega)).trans h1) HZ2.out.size HS.out)
    have H0 := Lib.hid h0
    clear h0
    go_wp2_with fail
    refine HCL.out.mono ?_
    rintro e w4 ⟨A', c', M, rfl, hal, how, hb4⟩
    have HU0 := Lib.hid ((hb4.block _ (lt_of_block HY0.out)).trans HY0.out)
    have HU1 := Lib.hid ((hb4.block _ (lt_of_block HY1.out)).trans HY1.out)
    have HZ4 := Lib.hid (HZ2.out.trans (hb4.mono HZ2.out.size))
    have u0 := cell_of_one HU0.out
    have q0 : w4.frozen? ⟨w.heap.size, 0, none⟩ = false := blk_free HU0.out
    obtain ⟨v0, v1, g0, g1⟩ := fault_facts HU1.out
    have HAL := Lib.hid hal
    have HOW := Lib.hid how
    have HSZ := Lib.hid HZ2.out.size
    clear hal how hb4 z0 z1 t0
    go_wp2_with fail
    have s0 := heap_setCell_same w4 w.heap.size 0 _ _ (.slice A' M.length c') HU0.out
    have s1 := heap_fault (blk_far HU1.out (p := ⟨w.heap.size, 0, none⟩) (by simp) (.slice A' M.length c')) (.int .i64 0) (.int .i64 0)
    refine bodyPost_ret (results_cells rfl _ _ w.heap.size (w.heap.size + 1) 24 31 #[.slice A' M.length c'] #[.int .i64 0, .int .i64 0] (0, 0) (0, 0) _ _ rfl (blk_far (blk_far s0 (p := ⟨w.heap.size + 1, 0, none⟩) (by simp) _) (p := ⟨w.heap.size + 1, 1, none⟩) (by simp) _) Try.underlying24 rfl As.A.infoT rfl s1 Try.underlying31 rfl As.A.infoF) rfl ?_
    have kp : ∀ {e : TypeId} {k n sz cp : Nat} {AA : Option Addr} {xs : List Value}, 24 ≠ e → 31 ≠ e → w4.ownsRow k e sz (.slice AA n cp) n xs → (((w4.setCell ⟨w.heap.size, 0, none⟩ (.slice A' M.length c')).setCell ⟨w.heap.size + 1, 0, none⟩ (.int .i64 0)).setCell ⟨w.heap.size + 1, 1, none⟩ (.int .i64 0)).ownsRow k e sz (.slice AA n cp) n xs := fun h1 h2 h => by
      have hf := blk_far HU1.out (p := ⟨w.heap.size, 0, none⟩) (by simp) (.slice A' M.length c')
      exact own_set (own_set (own_set h HU0.out h1) hf h2) (heap_setCell_same _ (w.heap.size + 1) 0 _ _ (.int .i64 0) hf) h2
    exact ⟨((HZ4.out.setCell (p := ⟨w.heap.size, 0, none⟩) (Nat.le_refl _) _).setCell (p := ⟨w.heap.size + 1, 0, none⟩) (Nat.le_succ _) _).setCell (p := ⟨w.heap.size + 1, 1, none⟩) (Nat.le_succ _) _, fun h => absurd (by rw [HC.out]; exact H0.out) h, fun _ => ⟨A', c', M, rfl, HAL.out, ⟨kp (by decide) (by decide) (own_mono HOW.out.n HSZ.out), fun n hn => kp (by decide) (by decide) (own_mono (HOW.out.k n hn) HSZ.out)⟩⟩⟩
  · have h0b : (cd != 0) = true := by rw [bne_iff_ne]; exact h0
    have H0 := Lib.hid h0
    clear h0
    have u0 := cell_of_one HY0.out
    have q0 : (w1.alloc (.cells #[.int .i64 cd, .int .i64 ca] 31)).frozen? ⟨w.heap.size, 0, none⟩ = false := blk_free HY0.out
    obtain ⟨v0, v1, g0, g1⟩ := fault_facts HY1.out
    have e1 : (w1.alloc (.cells #[.int .i64 cd, .int .i64 ca] 31)).setCell ⟨w.heap.size, 0, none⟩ (.slice none 0 0) = w1.alloc (.cells #[.int .i64 cd, .int .i64 ca] 31) := set_same HY0.out rfl
    go_wp2_with fail
    go_region
    go_wp2_with fail
    have s1 := heap_fault HY1.out (.int .i64 cd) (.int .i64 ca)
    refine bodyPost_ret (results_cells rfl _ _ w.heap.size (w.heap.size + 1) 24 31 #[.slice none 0 0] #[.int .i64 cd, .int .i64 ca] (0, 0) (0, 0) _ _ rfl (blk_far (blk_far HY0.out (p := ⟨w.heap.size + 1, 0, none⟩) (by simp) _) (p := ⟨w.heap.size + 1, 1, none⟩) (by simp) _) Try.underlying24 rfl As.A.infoT rfl s1 Try.underlying31 rfl As.A.infoF) rfl ?_
    exact ⟨((HZ2.out.setCell (p := ⟨w.heap.size + 1, 0, none⟩) (Nat.le_succ _) _).setCell (p := ⟨w.heap.size + 1, 1, none⟩) (Nat.le_succ _) _).drew, fun _ => by rw [HC.out]; rfl, fun h => absurd (by rw [HC.out] at h; exact h) H0.out⟩
end Go.Proofs.Ytaonojimpfhkfaa.As
