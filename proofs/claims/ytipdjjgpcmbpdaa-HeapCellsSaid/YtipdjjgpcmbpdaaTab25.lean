/- The statements' do: a key that is there gets another value. -/
import Derived.Test.YtipdjjgpcmbpdaaTab22
set_option linter.unusedVariables false
namespace Go.Proofs.Ytipdjjgpcmbpdaa.Ta
open Go.RowKit Go.ChangeShapes Go.WideShapes Go.ChangeAt Go.Proofs.Ytipdjjgpcmbpdaa.Va

theorem prs_set (E : List (Vl × Vl × Int)) (j : Nat) (k v : Vl) (c : Int) : prs (E.set j (k, v, c)) = (prs E).set j (k, v) := by unfold prs; rw [List.map_set]
set_option maxRecDepth 100000 in
set_option maxHeartbeats 4000000 in
theorem do_put_old {B Bm b sz us cap : Nat} {ad : Option Addr} {E : List (Vl × Vl × Int)} {last : Int} (k v : Vl) {j : Nat} {v0 : Vl} {c : Int} (hj : E[j]? = some (k, v0, c)) (hi : idx k (prs E) 0 = (j : Int)) (hk0 : (k.1 == 0) = false) (w : World) (hB : B ≤ w.heap.size) (hBm : Hid (Bm ≤ B)) (hE : E.length ≤ 1000) (h : IsTab B b w E last sz us) (hm : OwnM Bm ad cap w (prs E)) :
    Calls Try.prog 13 #[.pointer (some ⟨b, 0, none⟩), .slice ad E.length cap, opV 0 k v] w (Did B Bm b w (E.set j (k, v, c)) last) := by
  have hb1 := (Below.refl w.heap.size w).alloc (Nat.le_refl _) (opB 0 k v)
  have ho := heap_alloc_new w (opB 0 k v)
  have HA := Lib.hid (at_any (prs E) (by rw [prs_len]; omega) k _ (ownM_below hm hb1))
  rw [prs_len] at HA
  rw [show idx k (prs E) 0 = (j : Int) from hi] at HA
  clear hi
  have hj0 : (0 : Int) ≤ (j : Int) := by omega
  have hjn : ¬ (j : Int) < 0 := by omega
  have hjl := (List.getElem?_eq_some_iff.1 hj).1
  have hjl2 : (j : Int) < (E.length : Int) := by omega
  have HJ := Lib.hid hj
  clear hj
  have HEND : Hid (∀ w', Below (w.alloc (opB 0 k v)).heap.size (w.alloc (opB 0 k v)) w' → IsTab B b w' E last sz us ∧ OwnM Bm ad cap w' (prs E) ∧ St B w w') := fun w' hb => by
    have hz := hb1.trans (hb.mono hb1.size)
    exact ⟨isTab_below h hz, ownM_below hm hz, st_below hz hB⟩
  obtain ⟨c0, c1, c2, c3, c4, c5, c6⟩ := seven ho
  have HO := Lib.hid ho
  clear ho hb1 h hm
  unfold opB at HA c0 c1 c2 c3 c4 c5 c6 HEND HO
  unfold opV
  go_enter Try.func13, Try.ntmps13
  go_wp2_with fail
  refine HA.out.mono ?_
  rintro e w1 ⟨rfl, hb⟩
  obtain ⟨hT, hM, hS⟩ := HEND.out w1 hb
  have HT := Lib.hid hT
  have HM := Lib.hid hM
  have HS := Lib.hid hS
  have HO1 := Lib.hid (box_op (kd := 0) (k := k) (v := v) (frT_below hb) HO.out)
  have HB1 := Lib.hid (Nat.le_trans hB hS.f.size)
  obtain ⟨d0, d1, d2, d3, d4, d5, d6⟩ := seven HO1.out
  clear c0 c1 c2 c3 c4 c5 c6 HA HEND HO hb hT hM hS
  go_wp2_with fail
  refine (put_old HJ.out v _ HB1.out HT.out).mono ?_
  rintro e w2 ⟨rfl, hT, hst⟩
  have hM := ownM_fr HM.out hst.f
  have hS := st_trans HS.out hst
  have hO := box_op (k := k) (v := v) hst.f HO1.out
  obtain ⟨ad3, cap3, w3, hr3, ho3, hb3⟩ := copy_m (by rw [prs_len]; omega) hM
  rw [prs_len] at hr3
  obtain ⟨g3, rfl, hg3, hg3l⟩ := row_some ho3 (by rw [prs_len]; omega)
  have hB2 := Nat.le_trans hB hS.f.size
  have hset := ownM_set ho3 (prs_at HJ.out) v
  have hbs : Below w2.heap.size w2 (((w3.setCell ⟨g3, j * 6 + 3, none⟩ (.int .i64 v.1)).setCell ⟨g3, j * 6 + 4, none⟩ (.int .i64 v.2.1)).setCell ⟨g3, j * 6 + 5, none⟩ (.string v.2.2)) := ((hb3.setCell hg3 _).setCell hg3 _).setCell hg3 _
  rw [← prs_set E j k v c] at hset
  have HTE := Lib.hid (isTab_below hT hbs)
  have HME := Lib.hid (ownM_down hset (Nat.le_trans hBm.out hB2))
  have HSE := Lib.hid (st_trans hS (st_below hbs hB2))
  have hO3 := box_op (k := k) (v := v) (frT_below hb3) hO
  have hcp : E.length ≤ cap3 := by
    rcases ownM_shape ho3 with ⟨e, _⟩ | ⟨_, _, _, h2⟩
    · cases e
    · rw [prs_len] at h2; exact h2
  have hE9 : (E.set j (k, v, c)).length = E.length := List.length_set
  clear d0 d1 d2 d3 d4 d5 d6 HO1 HT HM HS hM hT hst hS hset hbs hb3 hg3 hB2
  obtain ⟨d0, d1, d2, d3, d4, d5, d6⟩ := seven hO
  obtain ⟨e0, e1, e2, e3, e4, e5⟩ := ownM_at ho3 (prs_at HJ.out)
  obtain ⟨f0, f1, f2, f3, f4, f5, f6⟩ := seven hO3
  have fz : ∀ j, w3.frozen? ⟨g3, j, none⟩ = false := World.ownsRow.frozenAt ho3
  clear hO hO3 ho3 HJ HB1 hE hB
  go_wp2_with (at_builtin; refine Lib.wpList_append_run _ rfl _ _ _ _ rfl _ _ rfl rfl _ _ hr3 ?_)
  go_ret2
  refine ⟨some ⟨g3, 0, none⟩, cap3, sz, us, ?_, HTE.out, HME.out, HSE.out⟩
  rw [hE9]; rfl
set_option maxRecDepth 100000 in
set_option maxHeartbeats 4000000 in
theorem do_set_yes {B Bm b sz us cap : Nat} {ad : Option Addr} {E : List (Vl × Vl × Int)} {last : Int} (k v : Vl) {j : Nat} {v0 : Vl} {c : Int} (hj : E[j]? = some (k, v0, c)) (hi : idx k (prs E) 0 = (j : Int)) (w : World) (hB : B ≤ w.heap.size) (hBm : Hid (Bm ≤ B)) (hE : E.length ≤ 1000) (h : IsTab B b w E last sz us) (hm : OwnM Bm ad cap w (prs E)) :
    Calls Try.prog 13 #[.pointer (some ⟨b, 0, none⟩), .slice ad E.length cap, opV 1 k v] w (Did B Bm b w (E.set j (k, v, c)) last) := by
  have hb1 := (Below.refl w.heap.size w).alloc (Nat.le_refl _) (opB 1 k v)
  have ho := heap_alloc_new w (opB 1 k v)
  have HA := Lib.hid (at_any (prs E) (by rw [prs_len]; omega) k _ (ownM_below hm hb1))
  rw [prs_len] at HA
  rw [show idx k (prs E) 0 = (j : Int) from hi] at HA
  clear hi
  have hj0 : (0 : Int) ≤ (j : Int) := by omega
  have hjn : ¬ (j : Int) < 0 := by omega
  have hjl := (List.getElem?_eq_some_iff.1 hj).1
  have hjl2 : (j : Int) < (E.length : Int) := by omega
  have HJ := Lib.hid hj
  clear hj
  have HEND : Hid (∀ w', Below (w.alloc (opB 1 k v)).heap.size (w.alloc (opB 1 k v)) w' → IsTab B b w' E last sz us ∧ OwnM Bm ad cap w' (prs E) ∧ St B w w') := fun w' hb => by
    have hz := hb1.trans (hb.mono hb1.size)
    exact ⟨isTab_below h hz, ownM_below hm hz, st_below hz hB⟩
  obtain ⟨c0, c1, c2, c3, c4, c5, c6⟩ := seven ho
  have HO := Lib.hid ho
  clear ho hb1 h hm
  unfold opB at HA c0 c1 c2 c3 c4 c5 c6 HEND HO
  unfold opV
  go_enter Try.func13, Try.ntmps13
  go_wp2_with fail
  refine HA.out.mono ?_
  rintro e w1 ⟨rfl, hb⟩
  obtain ⟨hT, hM, hS⟩ := HEND.out w1 hb
  have HT := Lib.hid hT
  have HM := Lib.hid hM
  have HS := Lib.hid hS
  have HO1 := Lib.hid (box_op (kd := 1) (k := k) (v := v) (frT_below hb) HO.out)
  have HB1 := Lib.hid (Nat.le_trans hB hS.f.size)
  obtain ⟨d0, d1, d2, d3, d4, d5, d6⟩ := seven HO1.out
  clear c0 c1 c2 c3 c4 c5 c6 HA HEND HO hb hT hM hS
  go_wp2_with fail
  refine (set_yes HJ.out v _ HB1.out HT.out).mono ?_
  rintro e w2 ⟨rfl, hT, hst⟩
  have hM := ownM_fr HM.out hst.f
  have hS := st_trans HS.out hst
  have hO := box_op (k := k) (v := v) hst.f HO1.out
  obtain ⟨ad3, cap3, w3, hr3, ho3, hb3⟩ := copy_m (by rw [prs_len]; omega) hM
  rw [prs_len] at hr3
  obtain ⟨g3, rfl, hg3, hg3l⟩ := row_some ho3 (by rw [prs_len]; omega)
  have hB2 := Nat.le_trans hB hS.f.size
  have hset := ownM_set ho3 (prs_at HJ.out) v
  have hbs : Below w2.heap.size w2 (((w3.setCell ⟨g3, j * 6 + 3, none⟩ (.int .i64 v.1)).setCell ⟨g3, j * 6 + 4, none⟩ (.int .i64 v.2.1)).setCell ⟨g3, j * 6 + 5, none⟩ (.string v.2.2)) := ((hb3.setCell hg3 _).setCell hg3 _).setCell hg3 _
  rw [← prs_set E j k v c] at hset
  have HTE := Lib.hid (isTab_below hT hbs)
  have HME := Lib.hid (ownM_down hset (Nat.le_trans hBm.out hB2))
  have HSE := Lib.hid (st_trans hS (st_below hbs hB2))
  have hO3 := box_op (k := k) (v := v) (frT_below hb3) hO
  have hcp : E.length ≤ cap3 := by
    rcases ownM_shape ho3 with ⟨e, _⟩ | ⟨_, _, _, h2⟩
    · cases e
    · rw [prs_len] at h2; exact h2
  have hE9 : (E.set j (k, v, c)).length = E.length := List.length_set
  clear d0 d1 d2 d3 d4 d5 d6 HO1 HT HM HS hM hT hst hS hset hbs hb3 hg3 hB2
  obtain ⟨d0, d1, d2, d3, d4, d5, d6⟩ := seven hO
  obtain ⟨e0, e1, e2, e3, e4, e5⟩ := ownM_at ho3 (prs_at HJ.out)
  obtain ⟨f0, f1, f2, f3, f4, f5, f6⟩ := seven hO3
  have fz : ∀ j, w3.frozen? ⟨g3, j, none⟩ = false := World.ownsRow.frozenAt ho3
  clear hO hO3 ho3 HJ HB1 hE hB
  go_wp2_with (at_builtin; refine Lib.wpList_append_run _ rfl _ _ _ _ rfl _ _ rfl rfl _ _ hr3 ?_)
  go_ret2
  refine ⟨some ⟨g3, 0, none⟩, cap3, sz, us, ?_, HTE.out, HME.out, HSE.out⟩
  rw [hE9]; rfl

theorem prs_app (E : List (Vl × Vl × Int)) (k v : Vl) (c : Int) : prs (E ++ [(k, v, c)]) = prs E ++ [(k, v)] := by unfold prs; rw [List.map_append]; rfl
/-- As run_cat, and what other blocks hold stays. -/
theorem run_catg {cap c : Nat} {ad a : Option Addr} {W w : World} {L M : List (Vl × Vl)} (hm : L.length + M.length ≤ 100000) (hb : Below W.heap.size W w) (h : OwnM W.heap.size ad cap w L) (hs : SrcP a w M) (hc : a = none → c = 0) :
    ∃ ad' cap' w', (Builtin.append_ #[28, 28] 28 #[.slice ad L.length cap, .slice a M.length c]).run Try.prog w = .ok (.slice ad' (L ++ M).length cap') w' ∧ OwnM W.heap.size ad' cap' w' (L ++ M) ∧ Below W.heap.size W w' ∧ w.grownBy w' (ad.map (·.block)) := by
  obtain ⟨i0, hi, hz0, hz1, hz2⟩ := info_parts A.infoM
  cases a with
  | some a =>
    obtain ⟨v', w', hr, hown, hgr, _⟩ := run_append_own (P := Try.prog) (w := w) W.heap.size 28 28 43 i0 (.agg #[.int .i64 0, .int .i64 0, .string ⟨#[]⟩, .int .i64 0, .int .i64 0, .string ⟨#[]⟩]) 6 64 Try.underlying28 hi hz0 hz1 hz2 rfl (by decide) _ L.length (flatP L) h a M.length c (flatP M) (flatP_len M) (by
        rcases hs with ⟨rfl, _⟩ | ⟨a', e, hs⟩
        · intro j u hj; simp [flatP] at hj
        · cases e; exact hs) (flatP_cells M) (by unfold maxLen; omega) (by omega) hb.size
    obtain ⟨ad', cap', rfl⟩ := shapeM hown
    rw [Li.own_blockv] at hgr
    refine ⟨ad', cap', w', by rw [hr, List.length_append], ?_, hb.grown hgr hb.size (fun k e => ownM_low h k e), hgr⟩
    show World.ownsRow _ _ _ _ _ _ _
    rw [List.length_append, flatP_append]; exact hown
  | none =>
    obtain rfl : M = [] := by rcases hs with ⟨h, _⟩ | ⟨_, e, _⟩; exact h; cases e
    obtain rfl := hc rfl
    rw [List.append_nil]
    exact ⟨ad, cap, w, run_append_owned_none w W.heap.size 28 28 43 i0 6 Try.underlying28 hi _ _ _ h, h, hb, ⟨rfl, rfl, rfl, Nat.le_refl _, fun _ _ _ => rfl⟩⟩
theorem grown_blkM {g : Nat} {og : Option Nat} {w w' : World} {A : Obj} (h : w.heap[g]? = some A) (hU : w.grownBy w' og) (h1 : og ≠ some g) : w'.heap[g]? = some A := (hU.block g (lt_of_block h) (fun e => h1 e.symm)).trans h
/-- What stands when a pair is put behind a copy: the pair laid ahead of all. -/
theorem chain_putA {eA vA n B cap : Nat} {ad : Option Addr} {W W' : World} {L : List (Vl × Vl)} (e : Vl × Vl) (hn : L.length = n) (hl : n ≤ 10000) (hb : Below W.heap.size W W') (hO : OwnM W.heap.size (some ⟨eA, 0, none⟩) 0 W' [])
    (hX : W'.heap[vA]? = some (.cells (flatP [e]).toArray 43 (0, 0))) (hne : vA ≠ eA) (h : OwnM B ad cap W L) :
    ∃ ad1 cap1 w1 ad2 cap2 w2, (Builtin.append_ #[28, 28] 28 #[.slice (some ⟨eA, 0, none⟩) 0 0, .slice ad n cap]).run Try.prog W' = .ok (.slice ad1 n cap1) w1 ∧
      (Builtin.append_ #[28, 28] 28 #[.slice ad1 n cap1, .slice (some ⟨vA, 0, none⟩) 1 1]).run Try.prog w1 = .ok (.slice ad2 (n + 1) cap2) w2 ∧
      Below W.heap.size W w1 ∧ Below W.heap.size W w2 ∧ OwnM W.heap.size ad2 cap2 w2 (L ++ [e]) := by
  subst hn
  obtain ⟨s1, s2⟩ := src_whole h hb
  obtain ⟨ad1, cap1, w1, hr1, ho1, hb1, hg1⟩ := run_catg (L := []) (by simp; omega) hb hO s1 s2
  rw [List.nil_append] at hr1 ho1
  have hX1 := grown_blkM hX hg1 (fun x => hne (by simp at x; exact x.symm))
  obtain ⟨ad2, cap2, w2, hr2, ho2, hb2, _⟩ := run_catg (c := 1) (M := [e]) (by simp; omega) hb1 ho1 (srcP_lit [e] hX1) (fun e => by cases e)
  rw [List.length_append] at hr2
  exact ⟨ad1, cap1, w1, ad2, cap2, w2, hr1, hr2, hb1, hb2, ho2⟩
/-- The same, the pair laid behind the copy. -/
theorem chain_putC {eA n B cap : Nat} {ad : Option Addr} {W W' : World} {L : List (Vl × Vl)} (e : Vl × Vl) (hn : L.length = n) (hl : n ≤ 10000) (hb : Below W.heap.size W W') (hO : OwnM W.heap.size (some ⟨eA, 0, none⟩) 0 W' []) (h : OwnM B ad cap W L) :
    ∃ ad1 cap1 w1 ad2 cap2 w2, (Builtin.append_ #[28, 28] 28 #[.slice (some ⟨eA, 0, none⟩) 0 0, .slice ad n cap]).run Try.prog W' = .ok (.slice ad1 n cap1) w1 ∧
      (Builtin.append_ #[28, 28] 28 #[.slice ad1 n cap1, .slice (some ⟨w1.heap.size, 0, none⟩) 1 1]).run Try.prog (w1.alloc (.cells (flatP [e]).toArray 43)) = .ok (.slice ad2 (n + 1) cap2) w2 ∧
      Below W.heap.size W w1 ∧ Below W.heap.size W (w1.alloc (.cells (flatP [e]).toArray 43)) ∧ Below W.heap.size W w2 ∧ OwnM W.heap.size ad2 cap2 w2 (L ++ [e]) := by
  subst hn
  obtain ⟨s1, s2⟩ := src_whole h hb
  obtain ⟨ad1, cap1, w1, hr1, ho1, hb1, hg1⟩ := run_catg (L := []) (by simp; omega) hb hO s1 s2
  rw [List.nil_append] at hr1 ho1
  have hE : Below w1.heap.size w1 (w1.alloc (.cells (flatP [e]).toArray 43)) := (Below.refl _ _).alloc (Nat.le_refl _) _
  have hbE := hb1.trans (hE.mono hb1.size)
  obtain ⟨ad2, cap2, w2, hr2, ho2, hb2, _⟩ := run_catg (c := 1) (M := [e]) (by simp; omega) hbE (ownM_below ho1 hE) (srcP_lit [e] (heap_alloc_new w1 _)) (fun e => by cases e)
  rw [List.length_append] at hr2
  exact ⟨ad1, cap1, w1, ad2, cap2, w2, hr1, hr2, hb1, hbE, hb2, ho2⟩
/-- The cells of an act's key and value. -/
def Kv (n : Nat) (k v : Vl) (w : World) : Prop :=
  w.cell? ⟨n, 1, none⟩ = some (.int .i64 k.1) ∧ w.cell? ⟨n, 2, none⟩ = some (.int .i64 k.2.1) ∧ w.cell? ⟨n, 3, none⟩ = some (.string k.2.2) ∧ w.cell? ⟨n, 4, none⟩ = some (.int .i64 v.1) ∧ w.cell? ⟨n, 5, none⟩ = some (.int .i64 v.2.1) ∧ w.cell? ⟨n, 6, none⟩ = some (.string v.2.2)
theorem kv_of {w : World} {n : Nat} {kd : Int} {k v : Vl} (h : w.heap[n]? = some (opB kd k v)) : Kv n k v w := (seven h).2
set_option maxRecDepth 100000 in
set_option maxHeartbeats 4000000 in
theorem do_put_new {B Bm b sz us cap : Nat} {ad : Option Addr} {E : List (Vl × Vl × Int)} {last : Int} (k v : Vl) (hk0 : (k.1 == 0) = false) (hok : okK k) (hkn : k ≠ nul) (hn : NoKey E k) (hl : last + 1 < 4611686018427387904) (hi : idx k (prs E) 0 = -1) (w : World) (hB : B ≤ w.heap.size) (hBm : Hid (Bm ≤ B)) (hE : E.length ≤ 1000) (h : IsTab B b w E last sz us) (hm : OwnM Bm ad cap w (prs E)) :
    Calls Try.prog 13 #[.pointer (some ⟨b, 0, none⟩), .slice ad E.length cap, opV 0 k v] w (Did B Bm b w (E ++ [(k, v, last + 1)]) (last + 1)) := by
  have hb1 := (Below.refl w.heap.size w).alloc (Nat.le_refl _) (opB 0 k v)
  have ho := heap_alloc_new w (opB 0 k v)
  have HA := Lib.hid (at_any (prs E) (by rw [prs_len]; omega) k _ (ownM_below hm hb1))
  rw [prs_len] at HA
  rw [show idx k (prs E) 0 = -1 from hi] at HA
  clear hi
  have HEND : Hid (∀ w', Below (w.alloc (opB 0 k v)).heap.size (w.alloc (opB 0 k v)) w' → IsTab B b w' E last sz us ∧ OwnM Bm ad cap w' (prs E) ∧ St B w w') := fun w' hb => by
    have hz := hb1.trans (hb.mono hb1.size)
    exact ⟨isTab_below h hz, ownM_below hm hz, st_below hz hB⟩
  obtain ⟨c0, c1, c2, c3, c4, c5, c6⟩ := seven ho
  have HO := Lib.hid ho
  clear ho hb1 h hm
  unfold opB at HA c0 c1 c2 c3 c4 c5 c6 HEND HO
  unfold opV
  go_enter Try.func13, Try.ntmps13
  go_wp2_with fail
  refine HA.out.mono ?_
  rintro e w1 ⟨rfl, hb⟩
  obtain ⟨hT, hM, hS⟩ := HEND.out w1 hb
  have HT := Lib.hid hT
  have HM := Lib.hid hM
  have HS := Lib.hid hS
  have HO1 := Lib.hid (box_op (kd := 0) (k := k) (v := v) (frT_below hb) HO.out)
  have HB1 := Lib.hid (Nat.le_trans hB hS.f.size)
  obtain ⟨d0, d1, d2, d3, d4, d5, d6⟩ := seven HO1.out
  clear c0 c1 c2 c3 c4 c5 c6 HA HEND HO hb hT hM hS
  go_wp2_with fail
  refine (put_new k v hok hkn hn (by omega) hl _ HB1.out HT.out).mono ?_
  rintro e w2 ⟨rfl, sz', us', hT, _, hst⟩
  have hM := ownM_fr HM.out hst.f
  have hS := st_trans HS.out hst
  have hO := box_op (k := k) (v := v) hst.f HO1.out
  have hB2 := Nat.le_trans hB hS.f.size
  have hbx : Below w2.heap.size w2 (w2.drew.alloc (.cells (flatP [(k, v)]).toArray 43)) := (Below.refl _ _).drew.alloc (Nat.le_refl _) _
  have hbe : Below w2.heap.size w2 (w2.drew.alloc (.cells #[] 43)) := (Below.refl _ _).drew.alloc (Nat.le_refl _) _
  have hbxe : Below w2.heap.size w2 ((w2.drew.alloc (.cells (flatP [(k, v)]).toArray 43)).alloc (.cells #[] 43)) := hbx.alloc hbx.size _
  have hbex : Below w2.heap.size w2 ((w2.drew.alloc (.cells #[] 43)).alloc (.cells (flatP [(k, v)]).toArray 43)) := hbe.alloc hbe.size _
  have zx : (w2.drew.alloc (.cells (flatP [(k, v)]).toArray 43)).heap.size = w2.heap.size + 1 := by show (w2.drew.alloc _).heap.size = w2.drew.heap.size + 1; simp
  have ze : (w2.drew.alloc (.cells #[] 43)).heap.size = w2.heap.size + 1 := by show (w2.drew.alloc _).heap.size = w2.drew.heap.size + 1; simp
  have oA := emptyM (w2.drew.alloc (.cells (flatP [(k, v)]).toArray 43)) w2.heap.size (by rw [zx]; omega)
  have oB := emptyM w2.drew w2.heap.size (Nat.le_refl _)
  rw [zx] at oA
  have xA : ((w2.drew.alloc (.cells (flatP [(k, v)]).toArray 43)).alloc (.cells #[] 43)).heap[w2.heap.size]? = some (.cells (flatP [(k, v)]).toArray 43) := (heap_alloc_old _ _ (by rw [zx]; omega)).trans (heap_alloc_new w2.drew _)
  have xB : ((w2.drew.alloc (.cells #[] 43)).alloc (.cells (flatP [(k, v)]).toArray 43)).heap[w2.heap.size + 1]? = some (.cells (flatP [(k, v)]).toArray 43) := by
    have := heap_alloc_new (w2.drew.alloc (.cells #[] 43)) (.cells (flatP [(k, v)]).toArray 43)
    rw [ze] at this
    exact this
  have hL9 : (prs E).length = E.length := prs_len E
  obtain ⟨da1, ea1, va1, da2, ea2, va2, ra1, ra2, ba1, ba2, oa2⟩ := chain_putA (k, v) hL9 (by omega) hbxe oA xA (by omega) hM
  obtain ⟨db1, eb1, vb1, db2, eb2, vb2, rb1, rb2, bb1, bb2, ob2⟩ := chain_putA (k, v) hL9 (by omega) hbex (ownM_below oB ((Below.refl _ _).alloc (Nat.le_refl _) _)) xB (by show _ ≠ w2.heap.size; omega) hM
  obtain ⟨dc1, ec1, vc1, dc2, ec2, vc2, rc1, rc2, bc1, bcx, bc2, oc2⟩ := chain_putC (k, v) hL9 (by omega) hbe oB hM
  have ra1' : (Builtin.append_ #[28, 28] 28 #[.slice (some ⟨w2.heap.size + 1, 0, none⟩) 0 0, .slice ad E.length cap]).run Try.prog ((w2.alloc (.cells #[.int .i64 k.1, .int .i64 k.2.1, .string k.2.2, .int .i64 v.1, .int .i64 v.2.1, .string v.2.2] 43)).alloc (.cells #[] 43)).drew = .ok (.slice da1 E.length ea1) va1 := ra1
  have rb1' : (Builtin.append_ #[28, 28] 28 #[.slice (some ⟨w2.heap.size, 0, none⟩) 0 0, .slice ad E.length cap]).run Try.prog ((w2.alloc (.cells #[] 43)).alloc (.cells #[.int .i64 k.1, .int .i64 k.2.1, .string k.2.2, .int .i64 v.1, .int .i64 v.2.1, .string v.2.2] 43)).drew = .ok (.slice db1 E.length eb1) vb1 := rb1
  have rc1' : (Builtin.append_ #[28, 28] 28 #[.slice (some ⟨w2.heap.size, 0, none⟩) 0 0, .slice ad E.length cap]).run Try.prog (w2.alloc (.cells #[] 43)).drew = .ok (.slice dc1 E.length ec1) vc1 := rc1
  have rc2' : (Builtin.append_ #[28, 28] 28 #[.slice dc1 E.length ec1, .slice (some ⟨vc1.heap.size, 0, none⟩) 1 1]).run Try.prog (vc1.alloc (.cells #[.int .i64 k.1, .int .i64 k.2.1, .string k.2.2, .int .i64 v.1, .int .i64 v.2.1, .string v.2.2] 43)) = .ok (.slice dc2 (E.length + 1) ec2) vc2 := rc2
  have G0 := Lib.hid (show (w2.cell? ⟨w.heap.size, 1, none⟩ = some (.int .i64 k.1) ∧ w2.cell? ⟨w.heap.size, 2, none⟩ = some (.int .i64 k.2.1) ∧ w2.cell? ⟨w.heap.size, 3, none⟩ = some (.string k.2.2) ∧ w2.cell? ⟨w.heap.size, 4, none⟩ = some (.int .i64 v.1) ∧ w2.cell? ⟨w.heap.size, 5, none⟩ = some (.int .i64 v.2.1) ∧ w2.cell? ⟨w.heap.size, 6, none⟩ = some (.string v.2.2)) from kv_of hO)
  have G1 := Lib.hid (show (w2.drew.cell? ⟨w.heap.size, 1, none⟩ = some (.int .i64 k.1) ∧ w2.drew.cell? ⟨w.heap.size, 2, none⟩ = some (.int .i64 k.2.1) ∧ w2.drew.cell? ⟨w.heap.size, 3, none⟩ = some (.string k.2.2) ∧ w2.drew.cell? ⟨w.heap.size, 4, none⟩ = some (.int .i64 v.1) ∧ w2.drew.cell? ⟨w.heap.size, 5, none⟩ = some (.int .i64 v.2.1) ∧ w2.drew.cell? ⟨w.heap.size, 6, none⟩ = some (.string v.2.2)) from kv_of (w := w2.drew) hO)
  have G2 := Lib.hid (show ((w2.alloc (.cells #[.int .i64 k.1, .int .i64 k.2.1, .string k.2.2, .int .i64 v.1, .int .i64 v.2.1, .string v.2.2] 43)).drew.cell? ⟨w.heap.size, 1, none⟩ = some (.int .i64 k.1) ∧ (w2.alloc (.cells #[.int .i64 k.1, .int .i64 k.2.1, .string k.2.2, .int .i64 v.1, .int .i64 v.2.1, .string v.2.2] 43)).drew.cell? ⟨w.heap.size, 2, none⟩ = some (.int .i64 k.2.1) ∧ (w2.alloc (.cells #[.int .i64 k.1, .int .i64 k.2.1, .string k.2.2, .int .i64 v.1, .int .i64 v.2.1, .string v.2.2] 43)).drew.cell? ⟨w.heap.size, 3, none⟩ = some (.string k.2.2) ∧ (w2.alloc (.cells #[.int .i64 k.1, .int .i64 k.2.1, .string k.2.2, .int .i64 v.1, .int .i64 v.2.1, .string v.2.2] 43)).drew.cell? ⟨w.heap.size, 4, none⟩ = some (.int .i64 v.1) ∧ (w2.alloc (.cells #[.int .i64 k.1, .int .i64 k.2.1, .string k.2.2, .int .i64 v.1, .int .i64 v.2.1, .string v.2.2] 43)).drew.cell? ⟨w.heap.size, 5, none⟩ = some (.int .i64 v.2.1) ∧ (w2.alloc (.cells #[.int .i64 k.1, .int .i64 k.2.1, .string k.2.2, .int .i64 v.1, .int .i64 v.2.1, .string v.2.2] 43)).drew.cell? ⟨w.heap.size, 6, none⟩ = some (.string v.2.2)) from kv_of (w := (w2.alloc (.cells #[.int .i64 k.1, .int .i64 k.2.1, .string k.2.2, .int .i64 v.1, .int .i64 v.2.1, .string v.2.2] 43)).drew) (box_op (frT_below hbx) hO))
  have G3 := Lib.hid (show ((w2.alloc (.cells #[] 43)).drew.cell? ⟨w.heap.size, 1, none⟩ = some (.int .i64 k.1) ∧ (w2.alloc (.cells #[] 43)).drew.cell? ⟨w.heap.size, 2, none⟩ = some (.int .i64 k.2.1) ∧ (w2.alloc (.cells #[] 43)).drew.cell? ⟨w.heap.size, 3, none⟩ = some (.string k.2.2) ∧ (w2.alloc (.cells #[] 43)).drew.cell? ⟨w.heap.size, 4, none⟩ = some (.int .i64 v.1) ∧ (w2.alloc (.cells #[] 43)).drew.cell? ⟨w.heap.size, 5, none⟩ = some (.int .i64 v.2.1) ∧ (w2.alloc (.cells #[] 43)).drew.cell? ⟨w.heap.size, 6, none⟩ = some (.string v.2.2)) from kv_of (w := (w2.alloc (.cells #[] 43)).drew) (box_op (frT_below hbe) hO))
  have G4 := Lib.hid (show (((w2.alloc (.cells #[.int .i64 k.1, .int .i64 k.2.1, .string k.2.2, .int .i64 v.1, .int .i64 v.2.1, .string v.2.2] 43)).alloc (.cells #[] 43)).drew.cell? ⟨w.heap.size, 1, none⟩ = some (.int .i64 k.1) ∧ ((w2.alloc (.cells #[.int .i64 k.1, .int .i64 k.2.1, .string k.2.2, .int .i64 v.1, .int .i64 v.2.1, .string v.2.2] 43)).alloc (.cells #[] 43)).drew.cell? ⟨w.heap.size, 2, none⟩ = some (.int .i64 k.2.1) ∧ ((w2.alloc (.cells #[.int .i64 k.1, .int .i64 k.2.1, .string k.2.2, .int .i64 v.1, .int .i64 v.2.1, .string v.2.2] 43)).alloc (.cells #[] 43)).drew.cell? ⟨w.heap.size, 3, none⟩ = some (.string k.2.2) ∧ ((w2.alloc (.cells #[.int .i64 k.1, .int .i64 k.2.1, .string k.2.2, .int .i64 v.1, .int .i64 v.2.1, .string v.2.2] 43)).alloc (.cells #[] 43)).drew.cell? ⟨w.heap.size, 4, none⟩ = some (.int .i64 v.1) ∧ ((w2.alloc (.cells #[.int .i64 k.1, .int .i64 k.2.1, .string k.2.2, .int .i64 v.1, .int .i64 v.2.1, .string v.2.2] 43)).alloc (.cells #[] 43)).drew.cell? ⟨w.heap.size, 5, none⟩ = some (.int .i64 v.2.1) ∧ ((w2.alloc (.cells #[.int .i64 k.1, .int .i64 k.2.1, .string k.2.2, .int .i64 v.1, .int .i64 v.2.1, .string v.2.2] 43)).alloc (.cells #[] 43)).drew.cell? ⟨w.heap.size, 6, none⟩ = some (.string v.2.2)) from kv_of (w := ((w2.alloc (.cells #[.int .i64 k.1, .int .i64 k.2.1, .string k.2.2, .int .i64 v.1, .int .i64 v.2.1, .string v.2.2] 43)).alloc (.cells #[] 43)).drew) (box_op (frT_below hbxe) hO))
  have G5 := Lib.hid (show (((w2.alloc (.cells #[] 43)).alloc (.cells #[.int .i64 k.1, .int .i64 k.2.1, .string k.2.2, .int .i64 v.1, .int .i64 v.2.1, .string v.2.2] 43)).drew.cell? ⟨w.heap.size, 1, none⟩ = some (.int .i64 k.1) ∧ ((w2.alloc (.cells #[] 43)).alloc (.cells #[.int .i64 k.1, .int .i64 k.2.1, .string k.2.2, .int .i64 v.1, .int .i64 v.2.1, .string v.2.2] 43)).drew.cell? ⟨w.heap.size, 2, none⟩ = some (.int .i64 k.2.1) ∧ ((w2.alloc (.cells #[] 43)).alloc (.cells #[.int .i64 k.1, .int .i64 k.2.1, .string k.2.2, .int .i64 v.1, .int .i64 v.2.1, .string v.2.2] 43)).drew.cell? ⟨w.heap.size, 3, none⟩ = some (.string k.2.2) ∧ ((w2.alloc (.cells #[] 43)).alloc (.cells #[.int .i64 k.1, .int .i64 k.2.1, .string k.2.2, .int .i64 v.1, .int .i64 v.2.1, .string v.2.2] 43)).drew.cell? ⟨w.heap.size, 4, none⟩ = some (.int .i64 v.1) ∧ ((w2.alloc (.cells #[] 43)).alloc (.cells #[.int .i64 k.1, .int .i64 k.2.1, .string k.2.2, .int .i64 v.1, .int .i64 v.2.1, .string v.2.2] 43)).drew.cell? ⟨w.heap.size, 5, none⟩ = some (.int .i64 v.2.1) ∧ ((w2.alloc (.cells #[] 43)).alloc (.cells #[.int .i64 k.1, .int .i64 k.2.1, .string k.2.2, .int .i64 v.1, .int .i64 v.2.1, .string v.2.2] 43)).drew.cell? ⟨w.heap.size, 6, none⟩ = some (.string v.2.2)) from kv_of (w := ((w2.alloc (.cells #[] 43)).alloc (.cells #[.int .i64 k.1, .int .i64 k.2.1, .string k.2.2, .int .i64 v.1, .int .i64 v.2.1, .string v.2.2] 43)).drew) (box_op (frT_below hbex) hO))
  have GA1 := Lib.hid (show (va1.cell? ⟨w.heap.size, 1, none⟩ = some (.int .i64 k.1) ∧ va1.cell? ⟨w.heap.size, 2, none⟩ = some (.int .i64 k.2.1) ∧ va1.cell? ⟨w.heap.size, 3, none⟩ = some (.string k.2.2) ∧ va1.cell? ⟨w.heap.size, 4, none⟩ = some (.int .i64 v.1) ∧ va1.cell? ⟨w.heap.size, 5, none⟩ = some (.int .i64 v.2.1) ∧ va1.cell? ⟨w.heap.size, 6, none⟩ = some (.string v.2.2)) from kv_of (box_op (frT_below ba1) hO))
  have GA2 := Lib.hid (show (va2.cell? ⟨w.heap.size, 1, none⟩ = some (.int .i64 k.1) ∧ va2.cell? ⟨w.heap.size, 2, none⟩ = some (.int .i64 k.2.1) ∧ va2.cell? ⟨w.heap.size, 3, none⟩ = some (.string k.2.2) ∧ va2.cell? ⟨w.heap.size, 4, none⟩ = some (.int .i64 v.1) ∧ va2.cell? ⟨w.heap.size, 5, none⟩ = some (.int .i64 v.2.1) ∧ va2.cell? ⟨w.heap.size, 6, none⟩ = some (.string v.2.2)) from kv_of (box_op (frT_below ba2) hO))
  have GB1 := Lib.hid (show (vb1.cell? ⟨w.heap.size, 1, none⟩ = some (.int .i64 k.1) ∧ vb1.cell? ⟨w.heap.size, 2, none⟩ = some (.int .i64 k.2.1) ∧ vb1.cell? ⟨w.heap.size, 3, none⟩ = some (.string k.2.2) ∧ vb1.cell? ⟨w.heap.size, 4, none⟩ = some (.int .i64 v.1) ∧ vb1.cell? ⟨w.heap.size, 5, none⟩ = some (.int .i64 v.2.1) ∧ vb1.cell? ⟨w.heap.size, 6, none⟩ = some (.string v.2.2)) from kv_of (box_op (frT_below bb1) hO))
  have GB2 := Lib.hid (show (vb2.cell? ⟨w.heap.size, 1, none⟩ = some (.int .i64 k.1) ∧ vb2.cell? ⟨w.heap.size, 2, none⟩ = some (.int .i64 k.2.1) ∧ vb2.cell? ⟨w.heap.size, 3, none⟩ = some (.string k.2.2) ∧ vb2.cell? ⟨w.heap.size, 4, none⟩ = some (.int .i64 v.1) ∧ vb2.cell? ⟨w.heap.size, 5, none⟩ = some (.int .i64 v.2.1) ∧ vb2.cell? ⟨w.heap.size, 6, none⟩ = some (.string v.2.2)) from kv_of (box_op (frT_below bb2) hO))
  have GC1 := Lib.hid (show (vc1.cell? ⟨w.heap.size, 1, none⟩ = some (.int .i64 k.1) ∧ vc1.cell? ⟨w.heap.size, 2, none⟩ = some (.int .i64 k.2.1) ∧ vc1.cell? ⟨w.heap.size, 3, none⟩ = some (.string k.2.2) ∧ vc1.cell? ⟨w.heap.size, 4, none⟩ = some (.int .i64 v.1) ∧ vc1.cell? ⟨w.heap.size, 5, none⟩ = some (.int .i64 v.2.1) ∧ vc1.cell? ⟨w.heap.size, 6, none⟩ = some (.string v.2.2)) from kv_of (box_op (frT_below bc1) hO))
  have GCX := Lib.hid (show ((vc1.alloc (.cells #[.int .i64 k.1, .int .i64 k.2.1, .string k.2.2, .int .i64 v.1, .int .i64 v.2.1, .string v.2.2] 43)).cell? ⟨w.heap.size, 1, none⟩ = some (.int .i64 k.1) ∧ (vc1.alloc (.cells #[.int .i64 k.1, .int .i64 k.2.1, .string k.2.2, .int .i64 v.1, .int .i64 v.2.1, .string v.2.2] 43)).cell? ⟨w.heap.size, 2, none⟩ = some (.int .i64 k.2.1) ∧ (vc1.alloc (.cells #[.int .i64 k.1, .int .i64 k.2.1, .string k.2.2, .int .i64 v.1, .int .i64 v.2.1, .string v.2.2] 43)).cell? ⟨w.heap.size, 3, none⟩ = some (.string k.2.2) ∧ (vc1.alloc (.cells #[.int .i64 k.1, .int .i64 k.2.1, .string k.2.2, .int .i64 v.1, .int .i64 v.2.1, .string v.2.2] 43)).cell? ⟨w.heap.size, 4, none⟩ = some (.int .i64 v.1) ∧ (vc1.alloc (.cells #[.int .i64 k.1, .int .i64 k.2.1, .string k.2.2, .int .i64 v.1, .int .i64 v.2.1, .string v.2.2] 43)).cell? ⟨w.heap.size, 5, none⟩ = some (.int .i64 v.2.1) ∧ (vc1.alloc (.cells #[.int .i64 k.1, .int .i64 k.2.1, .string k.2.2, .int .i64 v.1, .int .i64 v.2.1, .string v.2.2] 43)).cell? ⟨w.heap.size, 6, none⟩ = some (.string v.2.2)) from kv_of (box_op (frT_below bcx) hO))
  have GC2 := Lib.hid (show (vc2.cell? ⟨w.heap.size, 1, none⟩ = some (.int .i64 k.1) ∧ vc2.cell? ⟨w.heap.size, 2, none⟩ = some (.int .i64 k.2.1) ∧ vc2.cell? ⟨w.heap.size, 3, none⟩ = some (.string k.2.2) ∧ vc2.cell? ⟨w.heap.size, 4, none⟩ = some (.int .i64 v.1) ∧ vc2.cell? ⟨w.heap.size, 5, none⟩ = some (.int .i64 v.2.1) ∧ vc2.cell? ⟨w.heap.size, 6, none⟩ = some (.string v.2.2)) from kv_of (box_op (frT_below bc2) hO))
  rw [← prs_app E k v (last + 1)] at oa2 ob2 oc2
  have hE9 : (E ++ [(k, v, last + 1)]).length = E.length + 1 := by simp
  have HEA : Hid (IsTab B b va2 (E ++ [(k, v, last + 1)]) (last + 1) sz' us' ∧ OwnM Bm da2 ea2 va2 (prs (E ++ [(k, v, last + 1)])) ∧ St B w va2) := ⟨isTab_below hT ba2, ownM_down oa2 (Nat.le_trans hBm.out hB2), st_trans hS (st_below ba2 hB2)⟩
  have HEB : Hid (IsTab B b vb2 (E ++ [(k, v, last + 1)]) (last + 1) sz' us' ∧ OwnM Bm db2 eb2 vb2 (prs (E ++ [(k, v, last + 1)])) ∧ St B w vb2) := ⟨isTab_below hT bb2, ownM_down ob2 (Nat.le_trans hBm.out hB2), st_trans hS (st_below bb2 hB2)⟩
  have HEC : Hid (IsTab B b vc2 (E ++ [(k, v, last + 1)]) (last + 1) sz' us' ∧ OwnM Bm dc2 ec2 vc2 (prs (E ++ [(k, v, last + 1)])) ∧ St B w vc2) := ⟨isTab_below hT bc2, ownM_down oc2 (Nat.le_trans hBm.out hB2), st_trans hS (st_below bc2 hB2)⟩
  clear d0 d1 d2 d3 d4 d5 d6
  obtain ⟨d0, d1, d2, d3, d4, d5, d6⟩ := seven hO
  have RA1 := Lib.hid ra1'
  have RA2 := Lib.hid ra2
  have RB1 := Lib.hid rb1'
  have RB2 := Lib.hid rb2
  have RC1 := Lib.hid rc1'
  have RC2 := Lib.hid rc2'
  clear HO1 HT HM HS hM hT hO hst hS hB2 hbx hbe hbxe hbex zx ze oA oB xA xB hL9 ra1 rb1 rc1 ra2 rb2 rc2 ra1' rb1' rc1' rc2' ba1 ba2 bb1 bb2 bc1 bcx bc2 oa2 ob2 oc2 HB1 hE hB hok hkn hn hl
  go_wp2_with fail
  go_region_held3 (fun w' => (w'.cell? ⟨w.heap.size, 1, none⟩ = some (.int .i64 k.1) ∧ w'.cell? ⟨w.heap.size, 2, none⟩ = some (.int .i64 k.2.1) ∧ w'.cell? ⟨w.heap.size, 3, none⟩ = some (.string k.2.2) ∧ w'.cell? ⟨w.heap.size, 4, none⟩ = some (.int .i64 v.1) ∧ w'.cell? ⟨w.heap.size, 5, none⟩ = some (.int .i64 v.2.1) ∧ w'.cell? ⟨w.heap.size, 6, none⟩ = some (.string v.2.2)))
    (with_reducible (first | exact G0.out | exact G1.out | exact G2.out | exact G3.out | exact G4.out | exact G5.out | exact GA1.out | exact GA2.out | exact GB1.out | exact GB2.out | exact GC1.out | exact GCX.out | exact GC2.out))
    (first
      | (refine Li.step_append_run rfl (.tmp 27) (.tmp 28) 28 rfl (.slice (some ⟨w2.heap.size + 1, 0, none⟩) 0 0) (.slice ad E.length cap) rfl rfl (by with_reducible exact RA1.out) ?_)
      | (refine Li.step_append_run rfl (.tmp 27) (.tmp 28) 28 rfl (.slice (some ⟨w2.heap.size, 0, none⟩) 0 0) (.slice ad E.length cap) rfl rfl (by with_reducible exact RB1.out) ?_)
      | (refine Li.step_append_run rfl (.tmp 27) (.tmp 28) 28 rfl (.slice (some ⟨w2.heap.size, 0, none⟩) 0 0) (.slice ad E.length cap) rfl rfl (by with_reducible exact RC1.out) ?_)
      | (refine Li.step_append_run rfl (.tmp 29) (.tmp 35) 28 rfl (.slice da1 E.length ea1) (.slice (some ⟨w2.heap.size, 0, none⟩) 1 1) rfl rfl (by with_reducible exact RA2.out) ?_)
      | (refine Li.step_append_run rfl (.tmp 29) (.tmp 35) 28 rfl (.slice db1 E.length eb1) (.slice (some ⟨w2.heap.size + 1, 0, none⟩) 1 1) rfl rfl (by with_reducible exact RB2.out) ?_)
      | (refine Li.step_append_run rfl (.tmp 29) (.tmp 35) 28 rfl (.slice dc1 E.length ec1) (.slice (some ⟨vc1.heap.size, 0, none⟩) 1 1) rfl rfl (by with_reducible exact RC2.out) ?_))
  all_goals go_wp2_with fail
  all_goals go_ret2
  all_goals first | exact ⟨da2, ea2, sz', us', (by rw [hE9]; rfl), HEA.out⟩ | exact ⟨db2, eb2, sz', us', (by rw [hE9]; rfl), HEB.out⟩ | exact ⟨dc2, ec2, sz', us', (by rw [hE9]; rfl), HEC.out⟩

theorem prs_erase (E : List (Vl × Vl × Int)) (j : Nat) : prs (E.eraseIdx j) = (prs E).eraseIdx j := by unfold prs; rw [List.eraseIdx_eq_take_drop_succ, List.eraseIdx_eq_take_drop_succ, List.map_append, List.map_take, List.map_drop]
/-- What is read where the model loses a pair. -/
def Dl (n g o : Nat) (v : Vl) (w : World) : Prop :=
  w.cell? ⟨n, 0, none⟩ = some (.int .i64 v.1) ∧ w.cell? ⟨n, 1, none⟩ = some (.int .i64 v.2.1) ∧ w.cell? ⟨n, 2, none⟩ = some (.string v.2.2) ∧ w.cell? ⟨g, o + 3, none⟩ = some (.int .i64 v.1) ∧ w.cell? ⟨g, o + 4, none⟩ = some (.int .i64 v.2.1) ∧ w.cell? ⟨g, o + 5, none⟩ = some (.string v.2.2)
theorem dl_of {B cap n g j : Nat} {w : World} {L : List (Vl × Vl)} {k v : Vl} (h : w.heap[n]? = some (valB v)) (hm : OwnM B (some ⟨g, 0, none⟩) cap w L) (hj : L[j]? = some (k, v)) : Dl n g (j * 6) v w := by
  obtain ⟨a, b, c⟩ := threeB h
  obtain ⟨_, _, _, d, e, f⟩ := ownM_at hm hj
  exact ⟨a, b, c, d, e, f⟩
set_option maxRecDepth 100000 in
set_option maxHeartbeats 4000000 in
theorem do_del_yes {B Bm b sz us cap : Nat} {ad : Option Addr} {E : List (Vl × Vl × Int)} {last : Int} (k v : Vl) {j : Nat} {v0 : Vl} {c : Int} (hj : E[j]? = some (k, v0, c)) (hi : idx k (prs E) 0 = (j : Int)) (w : World) (hB : B ≤ w.heap.size) (hBm : Hid (Bm ≤ B)) (hE : E.length ≤ 1000) (h : IsTab B b w E last sz us) (hm : OwnM Bm ad cap w (prs E)) :
    Calls Try.prog 13 #[.pointer (some ⟨b, 0, none⟩), .slice ad E.length cap, opV 2 k v] w (Did B Bm b w (E.eraseIdx j) last) := by
  have hb1 := (Below.refl w.heap.size w).alloc (Nat.le_refl _) (opB 2 k v)
  have ho := heap_alloc_new w (opB 2 k v)
  have HA := Lib.hid (at_any (prs E) (by rw [prs_len]; omega) k _ (ownM_below hm hb1))
  rw [prs_len] at HA
  rw [show idx k (prs E) 0 = (j : Int) from hi] at HA
  clear hi
  have hj0 : (0 : Int) ≤ (j : Int) := by omega
  have hjn : ¬ (j : Int) < 0 := by omega
  have hjl := (List.getElem?_eq_some_iff.1 hj).1
  have hjl2 : (j : Int) < (E.length : Int) := by omega
  have HJ := Lib.hid hj
  clear hj
  obtain ⟨gm, hgm, _, _⟩ := row_some hm (by rw [prs_len]; omega)
  subst hgm
  have HEND : Hid (∀ w', Below (w.alloc (opB 2 k v)).heap.size (w.alloc (opB 2 k v)) w' → IsTab B b w' E last sz us ∧ OwnM Bm (some ⟨gm, 0, none⟩) cap w' (prs E) ∧ St B w w') := fun w' hb => by
    have hz := hb1.trans (hb.mono hb1.size)
    exact ⟨isTab_below h hz, ownM_below hm hz, st_below hz hB⟩
  obtain ⟨c0, c1, c2, c3, c4, c5, c6⟩ := seven ho
  have HO := Lib.hid ho
  clear ho hb1 h hm
  unfold opB at HA c0 c1 c2 c3 c4 c5 c6 HEND HO
  unfold opV
  go_enter Try.func13, Try.ntmps13
  go_wp2_with fail
  refine HA.out.mono ?_
  rintro e w1 ⟨rfl, hb⟩
  obtain ⟨hT, hM, hS⟩ := HEND.out w1 hb
  have HT := Lib.hid hT
  have HM := Lib.hid hM
  have HS := Lib.hid hS
  have HO1 := Lib.hid (box_op (kd := 2) (k := k) (v := v) (frT_below hb) HO.out)
  have HB1 := Lib.hid (Nat.le_trans hB hS.f.size)
  obtain ⟨d0, d1, d2, d3, d4, d5, d6⟩ := seven HO1.out
  clear c0 c1 c2 c3 c4 c5 c6 HA HEND HO hb hT hM hS
  go_wp2_with fail
  refine (delete_yes HJ.out _ HB1.out HT.out).mono ?_
  rintro e w2 ⟨rfl, hT, hst⟩
  have hM := ownM_fr HM.out hst.f
  have hS := st_trans HS.out hst
  have hO := box_op (k := k) (v := v) hst.f HO1.out
  have hB2 := Nat.le_trans hB hS.f.size
  have hq := (Below.refl w2.heap.size w2).alloc (Nat.le_refl _) (valB v0)
  have hv := heap_alloc_new w2 (valB v0)
  have hT3 := isTab_below hT hq
  have hM3 := ownM_below hM hq
  have hS3 := st_trans hS (st_below hq hB2)
  have hO3 := box_op (k := k) (v := v) (frT_below hq) hO
  have hB3 := Nat.le_trans hB2 hq.size
  have hp := prs_at HJ.out
  have hWO := fun W (h : OwnM Bm (some ⟨gm, 0, none⟩) cap W (prs E)) => without_any (prs_len E) (by omega : E.length ≤ 10000) h hjl
  have HD := Lib.hid (show ((w2.alloc (valB v0)).cell? ⟨w2.heap.size, 0, none⟩ = some (.int .i64 v0.1) ∧ (w2.alloc (valB v0)).cell? ⟨w2.heap.size, 1, none⟩ = some (.int .i64 v0.2.1) ∧ (w2.alloc (valB v0)).cell? ⟨w2.heap.size, 2, none⟩ = some (.string v0.2.2) ∧ (w2.alloc (valB v0)).cell? ⟨gm, j * 6 + 3, none⟩ = some (.int .i64 v0.1) ∧ (w2.alloc (valB v0)).cell? ⟨gm, j * 6 + 4, none⟩ = some (.int .i64 v0.2.1) ∧ (w2.alloc (valB v0)).cell? ⟨gm, j * 6 + 5, none⟩ = some (.string v0.2.2)) from dl_of hv hM3 hp)
  have hqd : Below (w2.alloc (valB v0)).heap.size (w2.alloc (valB v0)) (w2.alloc (valB v0)).drew := (Below.refl _ _).drew
  have hMd := ownM_below hM3 hqd
  have hvd : (w2.alloc (valB v0)).drew.heap[w2.heap.size]? = some (valB v0) := hv
  have HDD := Lib.hid (show ((w2.alloc (valB v0)).drew.cell? ⟨w2.heap.size, 0, none⟩ = some (.int .i64 v0.1) ∧ (w2.alloc (valB v0)).drew.cell? ⟨w2.heap.size, 1, none⟩ = some (.int .i64 v0.2.1) ∧ (w2.alloc (valB v0)).drew.cell? ⟨w2.heap.size, 2, none⟩ = some (.string v0.2.2) ∧ (w2.alloc (valB v0)).drew.cell? ⟨gm, j * 6 + 3, none⟩ = some (.int .i64 v0.1) ∧ (w2.alloc (valB v0)).drew.cell? ⟨gm, j * 6 + 4, none⟩ = some (.int .i64 v0.2.1) ∧ (w2.alloc (valB v0)).drew.cell? ⟨gm, j * 6 + 5, none⟩ = some (.string v0.2.2)) from dl_of hvd hMd hp)
  have HWO := Lib.hid (hWO _ hMd)
  have HEND : Hid (∀ w' ad' cap', Below (w2.alloc (valB v0)).drew.heap.size (w2.alloc (valB v0)).drew w' → OwnM (w2.alloc (valB v0)).drew.heap.size ad' cap' w' ((prs E).eraseIdx j) → IsTab B b w' (E.eraseIdx j) last sz us ∧ OwnM Bm ad' cap' w' (prs (E.eraseIdx j)) ∧ St B w w' ∧ (w'.cell? ⟨w2.heap.size, 0, none⟩ = some (.int .i64 v0.1) ∧ w'.cell? ⟨w2.heap.size, 1, none⟩ = some (.int .i64 v0.2.1) ∧ w'.cell? ⟨w2.heap.size, 2, none⟩ = some (.string v0.2.2) ∧ w'.cell? ⟨gm, j * 6 + 3, none⟩ = some (.int .i64 v0.1) ∧ w'.cell? ⟨gm, j * 6 + 4, none⟩ = some (.int .i64 v0.2.1) ∧ w'.cell? ⟨gm, j * 6 + 5, none⟩ = some (.string v0.2.2))) := fun w' ad' cap' hb ho => by
    have hb' := hqd.trans hb
    refine ⟨isTab_below hT3 hb', ?_, st_trans hS3 (st_below hb' hB3), dl_of ((hb.block _ (lt_of_block hvd)).trans hvd) (ownM_below hMd hb) hp⟩
    rw [prs_erase]
    exact ownM_down ho (Nat.le_trans hBm.out hB3)
  have hE9 : (E.eraseIdx j).length = E.length - 1 := by rw [List.length_eraseIdx, if_pos hjl]
  clear d0 d1 d2 d3 d4 d5 d6 HO1 HT HM HS hM hT hst hS hq hv hT3 hM3 hS3 hB3 hWO hqd hMd hvd hB2 hp
  obtain ⟨d0, d1, d2, d3, d4, d5, d6⟩ := seven hO
  obtain ⟨z0, z1, z2, z3, z4, z5⟩ := HD.out
  clear hO hO3 HJ HB1 hE hB
  unfold valB at HD HDD HWO HEND z0 z1 z2 z3 z4 z5
  go_wp2_with fail
  go_region_held3 (fun w' => (w'.cell? ⟨w2.heap.size, 0, none⟩ = some (.int .i64 v0.1) ∧ w'.cell? ⟨w2.heap.size, 1, none⟩ = some (.int .i64 v0.2.1) ∧ w'.cell? ⟨w2.heap.size, 2, none⟩ = some (.string v0.2.2) ∧ w'.cell? ⟨gm, j * 6 + 3, none⟩ = some (.int .i64 v0.1) ∧ w'.cell? ⟨gm, j * 6 + 4, none⟩ = some (.int .i64 v0.2.1) ∧ w'.cell? ⟨gm, j * 6 + 5, none⟩ = some (.string v0.2.2))) (with_reducible (first | assumption | exact HD.out | exact HDD.out))
    (first | (go_at_call 53; with_reducible refine HWO.out.mono ?_; rintro e9 w9 ⟨ad9, cap9, rfl, ho9, hb9⟩; have hx9 := HEND.out w9 ad9 cap9 hb9 ho9; have hd9 := hx9.2.2.2; have HX9 := Lib.hid hx9; clear hx9 hb9 ho9))
  all_goals go_wp2_with fail
  all_goals go_ret2
  all_goals
    obtain ⟨h1, h2, h3, _⟩ := HX9.out
    refine ⟨_, _, sz, us, ?_, h1, h2, h3⟩
    rw [hE9]; rfl
end Go.Proofs.Ytipdjjgpcmbpdaa.Ta
