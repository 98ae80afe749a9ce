/- The statements' do: what changes no model, and Clear. -/
import Derived.Test.YtipdjjgpcmbpdaaTab21
set_option linter.unusedVariables false
namespace Go.Proofs.Ytipdjjgpcmbpdaa.Ta
open Go.RowKit Go.ChangeShapes Go.WideShapes Go.ChangeAt Go.Proofs.Ytipdjjgpcmbpdaa.Va

set_option maxRecDepth 100000 in
set_option maxHeartbeats 4000000 in
theorem do_clear {B Bm b sz us cap : Nat} {ad : Option Addr} {E : List (Vl × Vl × Int)} {last : Int} (k v : Vl) (w : World) (hB : B ≤ w.heap.size) (hBm : Hid (Bm ≤ B)) (hE : E.length ≤ 1000) (h : IsTab B b w E last sz us) (hm : OwnM Bm ad cap w (prs E)) :
    Calls Try.prog 13 #[.pointer (some ⟨b, 0, none⟩), .slice ad E.length cap, opV 3 k v] w (Did B Bm b w [] last) := by
  have hb1 := (Below.refl w.heap.size w).alloc (Nat.le_refl _) (opB 3 k v)
  have ho := heap_alloc_new w (opB 3 k v)
  have HA := Lib.hid (at_any (prs E) (by rw [prs_len]; omega) k _ (ownM_below hm hb1))
  rw [prs_len] at HA
  have HEND : Hid (∀ w', Below (w.alloc (opB 3 k v)).heap.size (w.alloc (opB 3 k v)) w' → IsTab B b w' E last sz us ∧ OwnM Bm ad cap w' (prs E) ∧ St B w w') := fun w' hb => by
    have hz := hb1.trans (hb.mono hb1.size)
    exact ⟨isTab_below h hz, ownM_below hm hz, st_below hz hB⟩
  obtain ⟨c0, c1, c2, c3, c4, c5, c6⟩ := seven ho
  have HO := Lib.hid ho
  clear ho hb1 h hm
  unfold opB at HA c0 c1 c2 c3 c4 c5 c6 HEND HO
  unfold opV
  go_enter Try.func13, Try.ntmps13
  go_wp2_with fail
  refine HA.out.mono ?_
  rintro e w1 ⟨rfl, hb⟩
  obtain ⟨hT, hM, hS⟩ := HEND.out w1 hb
  have HT := Lib.hid hT
  have HM := Lib.hid hM
  have HS := Lib.hid hS
  have HO1 := Lib.hid (box_op (kd := 3) (k := k) (v := v) (frT_below hb) HO.out)
  have HB1 := Lib.hid (Nat.le_trans hB hS.f.size)
  obtain ⟨d0, d1, d2, d3, d4, d5, d6⟩ := seven HO1.out
  clear c0 c1 c2 c3 c4 c5 c6 HA HEND HO hb hT hM hS
  go_wp2_with fail
  refine (tclear_any _ HT.out).mono ?_
  rintro e w2 ⟨rfl, hT, hst⟩
  have hM := ownM_fr HM.out hst.f
  have hS := st_trans HS.out hst
  have hO := box_op (k := k) (v := v) hst.f HO1.out
  clear d0 d1 d2 d3 d4 d5 d6 HO1 HT HM HS
  have HT := Lib.hid hT
  have HS := Lib.hid hS
  clear hT hM hS hO hst
  go_wp2_with fail
  go_ret2
  exact ⟨none, 0, 0, 0, rfl, HT.out, World.ownsRow_nil _ _ _ _, HS.out⟩
set_option maxRecDepth 100000 in
set_option maxHeartbeats 4000000 in
theorem do_set_no {B Bm b sz us cap : Nat} {ad : Option Addr} {E : List (Vl × Vl × Int)} {last : Int} (k v : Vl) (hok : okK k) (hi : idx k (prs E) 0 = -1) (hn : NoKey E k) (w : World) (hB : B ≤ w.heap.size) (hBm : Hid (Bm ≤ B)) (hE : E.length ≤ 1000) (h : IsTab B b w E last sz us) (hm : OwnM Bm ad cap w (prs E)) :
    Calls Try.prog 13 #[.pointer (some ⟨b, 0, none⟩), .slice ad E.length cap, opV 1 k v] w (Did B Bm b w E last) := by
  have hb1 := (Below.refl w.heap.size w).alloc (Nat.le_refl _) (opB 1 k v)
  have ho := heap_alloc_new w (opB 1 k v)
  have HA := Lib.hid (at_any (prs E) (by rw [prs_len]; omega) k _ (ownM_below hm hb1))
  rw [prs_len] at HA
  rw [show idx k (prs E) 0 = -1 from hi] at HA
  clear hi
  have HEND : Hid (∀ w', Below (w.alloc (opB 1 k v)).heap.size (w.alloc (opB 1 k v)) w' → IsTab B b w' E last sz us ∧ OwnM Bm ad cap w' (prs E) ∧ St B w w') := fun w' hb => by
    have hz := hb1.trans (hb.mono hb1.size)
    exact ⟨isTab_below h hz, ownM_below hm hz, st_below hz hB⟩
  obtain ⟨c0, c1, c2, c3, c4, c5, c6⟩ := seven ho
  have HO := Lib.hid ho
  clear ho hb1 h hm
  unfold opB at HA c0 c1 c2 c3 c4 c5 c6 HEND HO
  unfold opV
  go_enter Try.func13, Try.ntmps13
  go_wp2_with fail
  refine HA.out.mono ?_
  rintro e w1 ⟨rfl, hb⟩
  obtain ⟨hT, hM, hS⟩ := HEND.out w1 hb
  have HT := Lib.hid hT
  have HM := Lib.hid hM
  have HS := Lib.hid hS
  have HO1 := Lib.hid (box_op (kd := 1) (k := k) (v := v) (frT_below hb) HO.out)
  have HB1 := Lib.hid (Nat.le_trans hB hS.f.size)
  obtain ⟨d0, d1, d2, d3, d4, d5, d6⟩ := seven HO1.out
  clear c0 c1 c2 c3 c4 c5 c6 HA HEND HO hb hT hM hS
  go_wp2_with fail
  refine (set_no k v hok hn _ HT.out).mono ?_
  rintro e w2 ⟨rfl, hb⟩
  have hT := isTab_below HT.out hb
  have hM := ownM_below HM.out hb
  have hS := st_trans HS.out (st_below hb HB1.out)
  have hO := box_op (k := k) (v := v) (frT_below hb) HO1.out
  clear hb
  clear d0 d1 d2 d3 d4 d5 d6 HO1 HT HM HS
  have HT := Lib.hid hT
  have HM := Lib.hid hM
  have HS := Lib.hid hS
  have HO1 := Lib.hid hO
  clear hT hM hS hO
  obtain ⟨d0, d1, d2, d3, d4, d5, d6⟩ := seven HO1.out
  go_wp2_with fail
  go_ret2
  exact ⟨ad, cap, sz, us, rfl, HT.out, HM.out, HS.out⟩
set_option maxRecDepth 100000 in
set_option maxHeartbeats 4000000 in
theorem do_put_nul {B Bm b sz us cap : Nat} {ad : Option Addr} {E : List (Vl × Vl × Int)} {last : Int} (v : Vl) (hi : idx nul (prs E) 0 = -1) (w : World) (hB : B ≤ w.heap.size) (hBm : Hid (Bm ≤ B)) (hE : E.length ≤ 1000) (h : IsTab B b w E last sz us) (hm : OwnM Bm ad cap w (prs E)) :
    Calls Try.prog 13 #[.pointer (some ⟨b, 0, none⟩), .slice ad E.length cap, opV 0 nul v] w (Did B Bm b w E last) := by
  have hb1 := (Below.refl w.heap.size w).alloc (Nat.le_refl _) (opB 0 nul v)
  have ho := heap_alloc_new w (opB 0 nul v)
  have HA := Lib.hid (at_any (prs E) (by rw [prs_len]; omega) nul _ (ownM_below hm hb1))
  rw [prs_len] at HA
  rw [show idx nul (prs E) 0 = -1 from hi] at HA
  clear hi
  have HEND : Hid (∀ w', Below (w.alloc (opB 0 nul v)).heap.size (w.alloc (opB 0 nul v)) w' → IsTab B b w' E last sz us ∧ OwnM Bm ad cap w' (prs E) ∧ St B w w') := fun w' hb => by
    have hz := hb1.trans (hb.mono hb1.size)
    exact ⟨isTab_below h hz, ownM_below hm hz, st_below hz hB⟩
  obtain ⟨c0, c1, c2, c3, c4, c5, c6⟩ := seven ho
  have HO := Lib.hid ho
  clear ho hb1 h hm
  unfold opB at HA c0 c1 c2 c3 c4 c5 c6 HEND HO
  unfold opV
  go_enter Try.func13, Try.ntmps13
  go_wp2_with fail
  refine HA.out.mono ?_
  rintro e w1 ⟨rfl, hb⟩
  obtain ⟨hT, hM, hS⟩ := HEND.out w1 hb
  have HT := Lib.hid hT
  have HM := Lib.hid hM
  have HS := Lib.hid hS
  have HO1 := Lib.hid (box_op (kd := 0) (k := nul) (v := v) (frT_below hb) HO.out)
  have HB1 := Lib.hid (Nat.le_trans hB hS.f.size)
  obtain ⟨d0, d1, d2, d3, d4, d5, d6⟩ := seven HO1.out
  clear c0 c1 c2 c3 c4 c5 c6 HA HEND HO hb hT hM hS
  go_wp2_with fail
  refine (put_nul b v _).mono ?_
  rintro e w2 ⟨rfl, hb⟩
  have hT := isTab_below HT.out hb
  have hM := ownM_below HM.out hb
  have hS := st_trans HS.out (st_below hb HB1.out)
  have hO := box_op (k := nul) (v := v) (frT_below hb) HO1.out
  clear hb
  clear d0 d1 d2 d3 d4 d5 d6 HO1 HT HM HS
  have HT := Lib.hid hT
  have HM := Lib.hid hM
  have HS := Lib.hid hS
  have HO1 := Lib.hid hO
  clear hT hM hS hO
  obtain ⟨d0, d1, d2, d3, d4, d5, d6⟩ := seven HO1.out
  go_wp2_with fail
  go_ret2
  exact ⟨ad, cap, sz, us, rfl, HT.out, HM.out, HS.out⟩
set_option maxRecDepth 100000 in
set_option maxHeartbeats 4000000 in
theorem do_del_no {B Bm b sz us cap : Nat} {ad : Option Addr} {E : List (Vl × Vl × Int)} {last : Int} (k v : Vl) (hok : okK k) (hi : idx k (prs E) 0 = -1) (hn : NoKey E k) (w : World) (hB : B ≤ w.heap.size) (hBm : Hid (Bm ≤ B)) (hE : E.length ≤ 1000) (h : IsTab B b w E last sz us) (hm : OwnM Bm ad cap w (prs E)) :
    Calls Try.prog 13 #[.pointer (some ⟨b, 0, none⟩), .slice ad E.length cap, opV 2 k v] w (Did B Bm b w E last) := by
  have hb1 := (Below.refl w.heap.size w).alloc (Nat.le_refl _) (opB 2 k v)
  have ho := heap_alloc_new w (opB 2 k v)
  have HA := Lib.hid (at_any (prs E) (by rw [prs_len]; omega) k _ (ownM_below hm hb1))
  rw [prs_len] at HA
  rw [show idx k (prs E) 0 = -1 from hi] at HA
  clear hi
  have HEND : Hid (∀ w', Below (w.alloc (opB 2 k v)).heap.size (w.alloc (opB 2 k v)) w' → IsTab B b w' E last sz us ∧ OwnM Bm ad cap w' (prs E) ∧ St B w w') := fun w' hb => by
    have hz := hb1.trans (hb.mono hb1.size)
    exact ⟨isTab_below h hz, ownM_below hm hz, st_below hz hB⟩
  obtain ⟨c0, c1, c2, c3, c4, c5, c6⟩ := seven ho
  have HO := Lib.hid ho
  clear ho hb1 h hm
  unfold opB at HA c0 c1 c2 c3 c4 c5 c6 HEND HO
  unfold opV
  go_enter Try.func13, Try.ntmps13
  go_wp2_with fail
  refine HA.out.mono ?_
  rintro e w1 ⟨rfl, hb⟩
  obtain ⟨hT, hM, hS⟩ := HEND.out w1 hb
  have HT := Lib.hid hT
  have HM := Lib.hid hM
  have HS := Lib.hid hS
  have HO1 := Lib.hid (box_op (kd := 2) (k := k) (v := v) (frT_below hb) HO.out)
  have HB1 := Lib.hid (Nat.le_trans hB hS.f.size)
  obtain ⟨d0, d1, d2, d3, d4, d5, d6⟩ := seven HO1.out
  clear c0 c1 c2 c3 c4 c5 c6 HA HEND HO hb hT hM hS
  go_wp2_with fail
  refine (delete_no k hok hn _ HT.out).mono ?_
  rintro e w2 ⟨rfl, hb⟩
  have hT := isTab_below HT.out hb
  have hM := ownM_below HM.out hb
  have hS := st_trans HS.out (st_below hb HB1.out)
  have hO := box_op (k := k) (v := v) (frT_below hb) HO1.out
  have hq := (Below.refl w2.heap.size w2).alloc (Nat.le_refl _) (valB (0, 0, ⟨#[]⟩))
  have hv := heap_alloc_new w2 (valB (0, 0, ⟨#[]⟩))
  have hB2 := Nat.le_trans HB1.out hb.size
  have hT := isTab_below hT hq
  have hM := ownM_below hM hq
  have hS := st_trans hS (st_below hq hB2)
  have hO := box_op (k := k) (v := v) (frT_below hq) hO
  clear hb hq hB2
  clear d0 d1 d2 d3 d4 d5 d6 HO1 HT HM HS
  have HT := Lib.hid hT
  have HM := Lib.hid hM
  have HS := Lib.hid hS
  have HO1 := Lib.hid hO
  clear hT hM hS hO
  obtain ⟨d0, d1, d2, d3, d4, d5, d6⟩ := seven HO1.out
  obtain ⟨z0, z1, z2⟩ := threeB hv
  clear hv
  unfold valB at HT HM HS d0 d1 d2 d3 d4 d5 d6 z0 z1 z2
  go_wp2_with fail
  go_quiet (fail)
  go_wp2_with fail
  go_ret2
  exact ⟨ad, cap, sz, us, rfl, isTab_below HT.out (below_drewN (Below.refl _ _) _), ownM_below HM.out (below_drewN (Below.refl _ _) _), st_trans HS.out (st_below (below_drewN (Below.refl _ _) _) (Nat.le_trans hB HS.out.f.size))⟩

theorem shapeM {B n : Nat} {v : Value} {w : World} {xs : List Value} (h : w.ownsRow B 43 6 v n xs) : ∃ ad cap, v = .slice ad n cap := by
  rcases h.2 with ⟨rfl, rfl⟩ | ⟨g, cap, cur, rfl, _⟩
  · exact ⟨none, 0, rfl⟩
  · exact ⟨_, cap, rfl⟩
theorem ownM_none {B cap : Nat} {w : World} {L : List (Vl × Vl)} (h : OwnM B none cap w L) : L = [] ∧ cap = 0 := by
  rcases h.2 with ⟨hv, e⟩ | ⟨g', c', cur, hv, _⟩
  · simp only [Value.slice.injEq] at hv; exact ⟨List.length_eq_zero_iff.1 e, hv.2.2⟩
  · simp at hv
theorem ownM_low {B cap : Nat} {ad : Option Addr} {w : World} {L : List (Vl × Vl)} (h : OwnM B ad cap w L) : ∀ g, ad.map (·.block) = some g → B ≤ g := by
  intro g e
  rcases h.2 with ⟨hv, _⟩ | ⟨g', c, cur, hv, hb, _⟩
  · simp only [Value.slice.injEq] at hv; rw [hv.1] at e; cases e
  · simp only [Value.slice.injEq] at hv; rw [hv.1] at e; simp at e; omega
theorem ownM_shape {B cap : Nat} {ad : Option Addr} {w : World} {L : List (Vl × Vl)} (h : OwnM B ad cap w L) : (ad = none ∧ L = [] ∧ cap = 0) ∨ ∃ g, ad = some ⟨g, 0, none⟩ ∧ g < w.heap.size ∧ L.length ≤ cap := by
  rcases h.2 with ⟨hv, e⟩ | ⟨g', c', cur, hv, _, hg, hl, _⟩
  · simp only [Value.slice.injEq] at hv; exact Or.inl ⟨hv.1, List.length_eq_zero_iff.1 e, hv.2.2⟩
  · simp only [Value.slice.injEq] at hv
    exact Or.inr ⟨g', hv.1, lt_of_block hg, by have := hv.2.2; omega⟩
theorem ownM_down {B B' cap : Nat} {ad : Option Addr} {w : World} {L : List (Vl × Vl)} (h : OwnM B ad cap w L) (hB : B' ≤ B) : OwnM B' ad cap w L := by
  refine ⟨h.1, ?_⟩
  rcases h.2 with h1 | ⟨g, c, cur, hv, hb, rest⟩
  · exact Or.inl h1
  · exact Or.inr ⟨g, c, cur, hv, Nat.le_trans hB hb, rest⟩
/-- Pairs at an address. -/
def SrcP (ad : Option Addr) (w : World) (M : List (Vl × Vl)) : Prop := (M = [] ∧ (ad = none → True)) ∨ ∃ a, ad = some a ∧ ∀ j u, (flatP M)[j]? = some u → w.cell? (a.add j) = some u
theorem flatP_take : ∀ (L : List (Vl × Vl)) (n : Nat), flatP (L.take n) = (flatP L).take (n * 6)
  | [], n => by simp [flatP]
  | p :: L, 0 => by simp [flatP]
  | p :: L, n + 1 => by
    rw [List.take_succ_cons, flatP_cons, flatP_cons, flatP_take L n, show (n + 1) * 6 = (celP p).length + n * 6 by simp [celP]; omega, List.take_append]
    simp
    exact (List.take_of_length_le (Nat.le_add_right _ _)).symm
theorem flatP_drop : ∀ (L : List (Vl × Vl)) (n : Nat), flatP (L.drop n) = (flatP L).drop (n * 6)
  | [], n => by simp [flatP]
  | p :: L, 0 => by simp
  | p :: L, n + 1 => by
    rw [List.drop_succ_cons, flatP_cons, flatP_drop L n, show (n + 1) * 6 = (celP p).length + n * 6 by simp [celP]; omega, List.drop_append]
    simp
theorem srcP_own {B g cap f n o : Nat} {W w : World} {L : List (Vl × Vl)} (h : OwnM B (some ⟨g, 0, none⟩) cap W L) (hf : f + n ≤ L.length) (ho : o = f * 6 ∨ n = 0) (hb : Below W.heap.size W w) : SrcP (some ⟨g, o, none⟩) w ((L.drop f).take n) := by
  by_cases h0 : n = 0
  · left; rw [h0, List.take_zero]; exact ⟨rfl, fun _ => trivial⟩
  · have ho : o = f * 6 := by rcases ho with h | h; exact h; exact absurd h h0
    subst ho
    refine Or.inr ⟨_, rfl, fun j u hj => ?_⟩
    rw [Go.WideShapes.add_plain]
    have hl := (List.getElem?_eq_some_iff.1 hj).1
    rw [flatP_len, List.length_take, List.length_drop] at hl
    have hx : (flatP L)[f * 6 + j]? = some u := by
      rw [flatP_take, flatP_drop, List.getElem?_take_of_lt (by omega), List.getElem?_drop] at hj
      exact hj
    exact ((World.ownsRow.cellAt (n := L.length) (size := 6) (ownM_below h hb) (f * 6 + j) (by omega))).trans hx
theorem srcP_lit {W : World} (M : List (Vl × Vl)) {v : Nat} (h : W.heap[v]? = some (.cells (flatP M).toArray 43 (0, 0))) : SrcP (some ⟨v, 0, none⟩) W M := by
  refine Or.inr ⟨_, rfl, fun j u hj => ?_⟩
  rw [Go.WideShapes.add_plain, Nat.zero_add]
  simp only [World.cell?, h]
  simpa using hj
/-- 'append(x, y...)', y from anywhere; what was there stays. -/
theorem run_cat {cap c : Nat} {ad a : Option Addr} {W w : World} {L M : List (Vl × Vl)} (hm : L.length + M.length ≤ 100000) (hb : Below W.heap.size W w) (h : OwnM W.heap.size ad cap w L) (hs : SrcP a w M) (hc : a = none → c = 0) :
    ∃ ad' cap' w', (Builtin.append_ #[28, 28] 28 #[.slice ad L.length cap, .slice a M.length c]).run Try.prog w = .ok (.slice ad' (L ++ M).length cap') w' ∧ OwnM W.heap.size ad' cap' w' (L ++ M) ∧ Below W.heap.size W w' := by
  obtain ⟨i0, hi, hz0, hz1, hz2⟩ := info_parts A.infoM
  cases a with
  | some a =>
    obtain ⟨v', w', hr, hown, hgr, _⟩ := run_append_own (P := Try.prog) (w := w) W.heap.size 28 28 43 i0 (.agg #[.int .i64 0, .int .i64 0, .string ⟨#[]⟩, .int .i64 0, .int .i64 0, .string ⟨#[]⟩]) 6 64 Try.underlying28 hi hz0 hz1 hz2 rfl (by decide) _ L.length (flatP L) h a M.length c (flatP M) (flatP_len M) (by
        rcases hs with ⟨rfl, _⟩ | ⟨a', e, hs⟩
        · intro j u hj; simp [flatP] at hj
        · cases e; exact hs) (flatP_cells M) (by unfold maxLen; omega) (by omega) hb.size
    obtain ⟨ad', cap', rfl⟩ := shapeM hown
    rw [Li.own_blockv] at hgr
    refine ⟨ad', cap', w', by rw [hr, List.length_append], ?_, hb.grown hgr hb.size (fun k e => ownM_low h k e)⟩
    show World.ownsRow _ _ _ _ _ _ _
    rw [List.length_append, flatP_append]; exact hown
  | none =>
    obtain rfl : M = [] := by rcases hs with ⟨h, _⟩ | ⟨_, e, _⟩; exact h; cases e
    obtain rfl := hc rfl
    rw [List.append_nil]
    exact ⟨ad, cap, w, run_append_owned_none w W.heap.size 28 28 43 i0 6 Try.underlying28 hi _ _ _ h, h, hb⟩
theorem emptyM (W : World) (B : Nat) (hB : B ≤ W.heap.size) : OwnM B (some ⟨W.heap.size, 0, none⟩) 0 (W.alloc (.cells #[] 43)) [] := World.ownsRow_lit W #[] 0 hB (Nat.zero_le _) rfl
theorem src_whole {B cap : Nat} {ad : Option Addr} {W w : World} {L : List (Vl × Vl)} (h : OwnM B ad cap W L) (hb : Below W.heap.size W w) : SrcP ad w L ∧ (ad = none → cap = 0) := by
  rcases ownM_shape h with ⟨rfl, rfl, rfl⟩ | ⟨g, rfl, _, _⟩
  · exact ⟨Or.inl ⟨rfl, fun _ => trivial⟩, fun _ => rfl⟩
  · have := srcP_own h (f := 0) (n := L.length) (by omega) (Or.inl rfl) hb
    rw [List.drop_zero, List.take_of_length_le (Nat.le_refl _)] at this
    exact ⟨this, fun e => by cases e⟩
/-- 'append(model{}, m...)'. -/
theorem copy_m {B cap : Nat} {ad : Option Addr} {w : World} {L : List (Vl × Vl)} (hl : L.length ≤ 10000) (h : OwnM B ad cap w L) :
    ∃ ad' cap' w', (Builtin.append_ #[28, 28] 28 #[.slice (some ⟨w.heap.size, 0, none⟩) 0 0, .slice ad L.length cap]).run Try.prog (w.alloc (.cells #[] 43)) = .ok (.slice ad' L.length cap') w' ∧ OwnM w.heap.size ad' cap' w' L ∧ Below w.heap.size w w' := by
  have hE : Below w.heap.size w (w.alloc (.cells #[] 43)) := (Below.refl _ _).alloc (Nat.le_refl _) _
  obtain ⟨s1, s2⟩ := src_whole h hE
  obtain ⟨ad', cap', w', hr, ho, hb⟩ := run_cat (L := []) (by simp; omega) hE (emptyM w w.heap.size (Nat.le_refl _)) s1 s2
  exact ⟨ad', cap', w', hr, ho, hb⟩
theorem flatP_set : ∀ (L : List (Vl × Vl)) (i : Nat) (k v0 v : Vl), L[i]? = some (k, v0) → flatP (L.set i (k, v)) = (((flatP L).set (i * 6 + 3) (.int .i64 v.1)).set (i * 6 + 4) (.int .i64 v.2.1)).set (i * 6 + 5) (.string v.2.2)
  | [], i, k, v0, v, h => by simp at h
  | p :: L, 0, k, v0, v, h => by simp at h; subst h; simp [flatP, celP]
  | p :: L, i + 1, k, v0, v, h => by
    rw [List.set_cons_succ, flatP_cons, flatP_cons, flatP_set L i k v0 v (by simpa using h)]
    rw [show (i + 1) * 6 + 3 = (celP p).length + (i * 6 + 3) by simp [celP]; omega, show (i + 1) * 6 + 4 = (celP p).length + (i * 6 + 4) by simp [celP]; omega, show (i + 1) * 6 + 5 = (celP p).length + (i * 6 + 5) by simp [celP]; omega]
    simp only [List.set_append, Nat.not_lt_of_le (Nat.le_add_right _ _), if_false, Nat.add_sub_cancel_left]
theorem ownM_set {B g cap i : Nat} {w : World} {L : List (Vl × Vl)} (h : OwnM B (some ⟨g, 0, none⟩) cap w L) {k v0 : Vl} (hi : L[i]? = some (k, v0)) (v : Vl) :
    OwnM B (some ⟨g, 0, none⟩) cap (((w.setCell ⟨g, i * 6 + 3, none⟩ (.int .i64 v.1)).setCell ⟨g, i * 6 + 4, none⟩ (.int .i64 v.2.1)).setCell ⟨g, i * 6 + 5, none⟩ (.string v.2.2)) (L.set i (k, v)) := by
  show World.ownsRow _ _ _ _ _ _ _
  rw [flatP_set L i k v0 v hi, List.length_set]
  have h1 := (World.ownsRow.stored h (i * 6 + 3) (.int .i64 v.1)).1
  have h2 := (World.ownsRow.stored h1 (i * 6 + 4) (.int .i64 v.2.1)).1
  exact (World.ownsRow.stored h2 (i * 6 + 5) (.string v.2.2)).1
/-- What stands when the model without one is made. -/
theorem chain_wo {B cap g i o c1 c2 : Nat} {W : World} {L : List (Vl × Vl)} (h : OwnM B (some ⟨g, 0, none⟩) cap W L) {n : Nat} (hn : L.length = n) (hi : i < n) (hl : n ≤ 10000) (ho : o = (i + 1) * 6 ∨ n - (i + 1) = 0) :
    ∃ ad1 cap1 w1 ad2 cap2 w2, (Builtin.append_ #[28, 28] 28 #[.slice (some ⟨W.heap.size, 0, none⟩) 0 0, .slice (some ⟨g, 0, none⟩) i c1]).run Try.prog (W.drew.alloc (.cells #[] 43)) = .ok (.slice ad1 i cap1) w1 ∧
      (Builtin.append_ #[28, 28] 28 #[.slice ad1 i cap1, .slice (some ⟨g, o, none⟩) (n - (i + 1)) c2]).run Try.prog w1 = .ok (.slice ad2 (n - 1) cap2) w2 ∧
      Below W.heap.size W w2 ∧ OwnM W.heap.size ad2 cap2 w2 (L.eraseIdx i) := by
  have hE : Below W.heap.size W (W.drew.alloc (.cells #[] 43)) := (Below.refl _ _).drew.alloc (Nat.le_refl _) _
  have s1 := srcP_own h (f := 0) (n := i) (o := 0) (by omega) (Or.inl rfl) hE
  rw [List.drop_zero] at s1
  have l1 : (L.take i).length = i := by rw [List.length_take]; omega
  have l2 : (L.drop (i + 1)).length = n - (i + 1) := by rw [List.length_drop]; omega
  obtain ⟨ad1, cap1, w1, hr1, ho1, hb1⟩ := run_cat (L := []) (c := c1) (by simp; omega) hE (emptyM W.drew W.heap.size (Nat.le_refl _)) s1 (fun e => by cases e)
  rw [List.nil_append] at hr1 ho1
  rw [l1] at hr1
  have s2 := srcP_own h (f := i + 1) (n := n - (i + 1)) (o := o) (by omega) ho hb1
  rw [List.take_of_length_le (by omega)] at s2
  obtain ⟨ad2, cap2, w2, hr2, ho2, hb2⟩ := run_cat (c := c2) (by rw [l1, l2]; omega) hb1 ho1 s2 (fun e => by cases e)
  rw [List.length_append, l1, l2, show i + (n - (i + 1)) = n - 1 by omega] at hr2
  rw [← List.eraseIdx_eq_take_drop_succ] at ho2
  exact ⟨ad1, cap1, w1, ad2, cap2, w2, hr1, hr2, hb2, ho2⟩

set_option maxRecDepth 100000 in
set_option maxHeartbeats 4000000 in
theorem without_any {B cap g i n : Nat} {w : World} {L : List (Vl × Vl)} (hn : L.length = n) (hl : n ≤ 10000) (h : OwnM B (some ⟨g, 0, none⟩) cap w L) (hi : i < n) :
    Calls Try.prog 53 #[.slice (some ⟨g, 0, none⟩) n cap, .int .i64 (i : Int)] w fun e w' => ∃ ad' cap', e = .returned (.slice ad' (n - 1) cap') ∧ OwnM w.heap.size ad' cap' w' (L.eraseIdx i) ∧ Below w.heap.size w w' := by
  have hc : n ≤ cap := by
    rcases ownM_shape h with ⟨e, _⟩ | ⟨_, _, _, h2⟩
    · cases e
    · omega
  obtain ⟨ad1, cap1, w4, ad2, cap2, w5, hr1, hr2, hb5, ho⟩ := chain_wo (o := if cap = i + 1 then 0 else (i + 1) * 6) (c1 := cap) (c2 := if cap = i + 1 then 0 else cap - (i + 1)) h hn hi hl (by split <;> omega)
  have HB := Lib.hid hb5
  have HO := Lib.hid ho
  have k1 : (i : Int) ≤ (cap : Int) := by omega
  have k2 : (i : Int) + 1 ≤ (n : Int) := by omega
  have k3 : (n : Int) ≤ (cap : Int) := by omega
  have k4 : i ≤ cap := by omega
  have k5 : i + 1 ≤ n := by omega
  have hr1' : (Builtin.append_ #[28, 28] 28 #[.slice (some ⟨w.heap.size, 0, none⟩) 0 0, .slice (some ⟨g, 0, none⟩) i cap]).run Try.prog (w.alloc (.cells #[] 43)).drew = .ok (.slice ad1 i cap1) w4 := hr1
  clear hr1 h ho hb5 hn
  have k7 : IntKind.i64.wrap ((i : Int) + 1) = (i : Int) + 1 := by rw [IntKind.wrap_i64]; omega
  have k8 : (0 : Int) ≤ (i : Int) + 1 := by omega
  have k9 : (i : Int) + 1 ≤ (cap : Int) := by omega
  have k0 : (0 : Int) ≤ (i : Int) := by omega
  have k6 : (i : Int) ≤ (i : Int) + 1 := by omega
  by_cases hcc : cap = i + 1
  all_goals
    first | (simp only [if_pos hcc] at hr2; subst hcc; rw [show n - (i + 1) = 0 by omega] at hr2) | simp only [if_neg hcc] at hr2
    go_enter Try.func53, Try.ntmps53
    go_wp2_with fail
    go_region_held3 (fun _ => True) (exact trivial) (first | (refine Li.step_append_run rfl (.tmp 5) (.tmp 8) 28 rfl _ _ rfl rfl hr1' ?_) | (refine Li.step_append_run rfl (.tmp 9) (.tmp 13) 28 rfl _ _ rfl rfl hr2 ?_))
    all_goals go_wp2_with fail
    all_goals go_ret
    all_goals exact ⟨ad2, cap2, rfl, HO.out, HB.out⟩
end Go.Proofs.Ytipdjjgpcmbpdaa.Ta
