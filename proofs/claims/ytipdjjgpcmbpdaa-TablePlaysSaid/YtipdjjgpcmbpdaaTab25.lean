/- The statements' do: a key that is there gets another value. -/
import Derived.Test.YtipdjjgpcmbpdaaTab24
set_option linter.unusedVariables false
namespace Go.Proofs.Ytipdjjgpcmbpdaa.Ta
open Go.RowKit Go.ChangeShapes Go.WideShapes Go.ChangeAt Go.Proofs.Ytipdjjgpcmbpdaa.Va

theorem prs_set (E : List (Vl × Vl × Int)) (j : Nat) (k v : Vl) (c : Int) : prs (E.set j (k, v, c)) = (prs E).set j (k, v) := by unfold prs; rw [List.map_set]
set_option maxRecDepth 100000 in
set_option maxHeartbeats 4000000 in
theorem do_put_old {B b sz us cap : Nat} {ad : Option Addr} {E : List (Vl × Vl × Int)} {last : Int} (k v : Vl) {j : Nat} {v0 : Vl} {c : Int} (hj : E[j]? = some (k, v0, c)) (hi : idx k (prs E) 0 = (j : Int)) (hk0 : (k.1 == 0) = false) (w : World) (hB : B ≤ w.heap.size) (hE : E.length ≤ 1000) (h : IsTab B b w E last sz us) (hm : OwnM B ad cap w (prs E)) :
    Calls Try.prog 13 #[.pointer (some ⟨b, 0, none⟩), .slice ad E.length cap, opV 0 k v] w (Did B b w (E.set j (k, v, c)) last) := by
  have hb1 := (Below.refl w.heap.size w).alloc (Nat.le_refl _) (opB 0 k v)
  have ho := heap_alloc_new w (opB 0 k v)
  have HA := Lib.hid (at_any (prs E) (by rw [prs_len]; omega) k _ (ownM_below hm hb1))
  rw [prs_len] at HA
  rw [show idx k (prs E) 0 = (j : Int) from hi] at HA
  clear hi
  have hj0 : (0 : Int) ≤ (j : Int) := by omega
  have hjn : ¬ (j : Int) < 0 := by omega
  have hjl := (List.getElem?_eq_some_iff.1 hj).1
  have hjl2 : (j : Int) < (E.length : Int) := by omega
  have HJ := Lib.hid hj
  clear hj
  have HEND : Hid (∀ w', Below (w.alloc (opB 0 k v)).heap.size (w.alloc (opB 0 k v)) w' → IsTab B b w' E last sz us ∧ OwnM B ad cap w' (prs E) ∧ St B w w') := fun w' hb => by
    have hz := hb1.trans (hb.mono hb1.size)
    exact ⟨isTab_below h hz, ownM_below hm hz, st_below hz hB⟩
  obtain ⟨c0, c1, c2, c3, c4, c5, c6⟩ := seven ho
  have HO := Lib.hid ho
  clear ho hb1 h hm
  unfold opB at HA c0 c1 c2 c3 c4 c5 c6 HEND HO
  unfold opV
  go_enter Try.func13, Try.ntmps13
  go_wp2_with fail
  refine HA.out.mono ?_
  rintro e w1 ⟨rfl, hb⟩
  obtain ⟨hT, hM, hS⟩ := HEND.out w1 hb
  have HT := Lib.hid hT
  have HM := Lib.hid hM
  have HS := Lib.hid hS
  have HO1 := Lib.hid (box_op (kd := 0) (k := k) (v := v) (frT_below hb) HO.out)
  have HB1 := Lib.hid (Nat.le_trans hB hS.f.size)
  obtain ⟨d0, d1, d2, d3, d4, d5, d6⟩ := seven HO1.out
  clear c0 c1 c2 c3 c4 c5 c6 HA HEND HO hb hT hM hS
  go_wp2_with fail
  refine (put_old HJ.out v _ HB1.out HT.out).mono ?_
  rintro e w2 ⟨rfl, hT, hst⟩
  have hM := ownM_fr HM.out hst.f
  have hS := st_trans HS.out hst
  have hO := box_op (k := k) (v := v) hst.f HO1.out
  obtain ⟨ad3, cap3, w3, hr3, ho3, hb3⟩ := copy_m (by rw [prs_len]; omega) hM
  rw [prs_len] at hr3
  obtain ⟨g3, rfl, hg3, hg3l⟩ := row_some ho3 (by rw [prs_len]; omega)
  have hB2 := Nat.le_trans hB hS.f.size
  have hset := ownM_set ho3 (prs_at HJ.out) v
  have hbs : Below w2.heap.size w2 (((w3.setCell ⟨g3, j * 6 + 3, none⟩ (.int .i64 v.1)).setCell ⟨g3, j * 6 + 4, none⟩ (.int .i64 v.2.1)).setCell ⟨g3, j * 6 + 5, none⟩ (.string v.2.2)) := ((hb3.setCell hg3 _).setCell hg3 _).setCell hg3 _
  rw [← prs_set E j k v c] at hset
  have HTE := Lib.hid (isTab_below hT hbs)
  have HME := Lib.hid (ownM_down hset hB2)
  have HSE := Lib.hid (st_trans hS (st_below hbs hB2))
  have hO3 := box_op (k := k) (v := v) (frT_below hb3) hO
  have hcp : E.length ≤ cap3 := by
    rcases ownM_shape ho3 with ⟨e, _⟩ | ⟨_, _, _, h2⟩
    · cases e
    · rw [prs_len] at h2; exact h2
  have hE9 : (E.set j (k, v, c)).length = E.length := List.length_set
  clear d0 d1 d2 d3 d4 d5 d6 HO1 HT HM HS hM hT hst hS hset hbs hb3 hg3 hB2
  obtain ⟨d0, d1, d2, d3, d4, d5, d6⟩ := seven hO
  obtain ⟨e0, e1, e2, e3, e4, e5⟩ := ownM_at ho3 (prs_at HJ.out)
  obtain ⟨f0, f1, f2, f3, f4, f5, f6⟩ := seven hO3
  have fz : ∀ j, w3.frozen? ⟨g3, j, none⟩ = false := World.ownsRow.frozenAt ho3
  clear hO hO3 ho3 HJ HB1 hE hB
  go_wp2_with (at_builtin; refine Lib.wpList_append_run _ rfl _ _ _ _ rfl _ _ rfl rfl _ _ hr3 ?_)
  go_ret2
  refine ⟨some ⟨g3, 0, none⟩, cap3, sz, us, ?_, HTE.out, HME.out, HSE.out⟩
  rw [hE9]; rfl
set_option maxRecDepth 100000 in
set_option maxHeartbeats 4000000 in
theorem do_set_yes {B b sz us cap : Nat} {ad : Option Addr} {E : List (Vl × Vl × Int)} {last : Int} (k v : Vl) {j : Nat} {v0 : Vl} {c : Int} (hj : E[j]? = some (k, v0, c)) (hi : idx k (prs E) 0 = (j : Int)) (w : World) (hB : B ≤ w.heap.size) (hE : E.length ≤ 1000) (h : IsTab B b w E last sz us) (hm : OwnM B ad cap w (prs E)) :
    Calls Try.prog 13 #[.pointer (some ⟨b, 0, none⟩), .slice ad E.length cap, opV 1 k v] w (Did B b w (E.set j (k, v, c)) last) := by
  have hb1 := (Below.refl w.heap.size w).alloc (Nat.le_refl _) (opB 1 k v)
  have ho := heap_alloc_new w (opB 1 k v)
  have HA := Lib.hid (at_any (prs E) (by rw [prs_len]; omega) k _ (ownM_below hm hb1))
  rw [prs_len] at HA
  rw [show idx k (prs E) 0 = (j : Int) from hi] at HA
  clear hi
  have hj0 : (0 : Int) ≤ (j : Int) := by omega
  have hjn : ¬ (j : Int) < 0 := by omega
  have hjl := (List.getElem?_eq_some_iff.1 hj).1
  have hjl2 : (j : Int) < (E.length : Int) := by omega
  have HJ := Lib.hid hj
  clear hj
  have HEND : Hid (∀ w', Below (w.alloc (opB 1 k v)).heap.size (w.alloc (opB 1 k v)) w' → IsTab B b w' E last sz us ∧ OwnM B ad cap w' (prs E) ∧ St B w w') := fun w' hb => by
    have hz := hb1.trans (hb.mono hb1.size)
    exact ⟨isTab_below h hz, ownM_below hm hz, st_below hz hB⟩
  obtain ⟨c0, c1, c2, c3, c4, c5, c6⟩ := seven ho
  have HO := Lib.hid ho
  clear ho hb1 h hm
  unfold opB at HA c0 c1 c2 c3 c4 c5 c6 HEND HO
  unfold opV
  go_enter Try.func13, Try.ntmps13
  go_wp2_with fail
  refine HA.out.mono ?_
  rintro e w1 ⟨rfl, hb⟩
  obtain ⟨hT, hM, hS⟩ := HEND.out w1 hb
  have HT := Lib.hid hT
  have HM := Lib.hid hM
  have HS := Lib.hid hS
  have HO1 := Lib.hid (box_op (kd := 1) (k := k) (v := v) (frT_below hb) HO.out)
  have HB1 := Lib.hid (Nat.le_trans hB hS.f.size)
  obtain ⟨d0, d1, d2, d3, d4, d5, d6⟩ := seven HO1.out
  clear c0 c1 c2 c3 c4 c5 c6 HA HEND HO hb hT hM hS
  go_wp2_with fail
  refine (set_yes HJ.out v _ HB1.out HT.out).mono ?_
  rintro e w2 ⟨rfl, hT, hst⟩
  have hM := ownM_fr HM.out hst.f
  have hS := st_trans HS.out hst
  have hO := box_op (k := k) (v := v) hst.f HO1.out
  obtain ⟨ad3, cap3, w3, hr3, ho3, hb3⟩ := copy_m (by rw [prs_len]; omega) hM
  rw [prs_len] at hr3
  obtain ⟨g3, rfl, hg3, hg3l⟩ := row_some ho3 (by rw [prs_len]; omega)
  have hB2 := Nat.le_trans hB hS.f.size
  have hset := ownM_set ho3 (prs_at HJ.out) v
  have hbs : Below w2.heap.size w2 (((w3.setCell ⟨g3, j * 6 + 3, none⟩ (.int .i64 v.1)).setCell ⟨g3, j * 6 + 4, none⟩ (.int .i64 v.2.1)).setCell ⟨g3, j * 6 + 5, none⟩ (.string v.2.2)) := ((hb3.setCell hg3 _).setCell hg3 _).setCell hg3 _
  rw [← prs_set E j k v c] at hset
  have HTE := Lib.hid (isTab_below hT hbs)
  have HME := Lib.hid (ownM_down hset hB2)
  have HSE := Lib.hid (st_trans hS (st_below hbs hB2))
  have hO3 := box_op (k := k) (v := v) (frT_below hb3) hO
  have hcp : E.length ≤ cap3 := by
    rcases ownM_shape ho3 with ⟨e, _⟩ | ⟨_, _, _, h2⟩
    · cases e
    · rw [prs_len] at h2; exact h2
  have hE9 : (E.set j (k, v, c)).length = E.length := List.length_set
  clear d0 d1 d2 d3 d4 d5 d6 HO1 HT HM HS hM hT hst hS hset hbs hb3 hg3 hB2
  obtain ⟨d0, d1, d2, d3, d4, d5, d6⟩ := seven hO
  obtain ⟨e0, e1, e2, e3, e4, e5⟩ := ownM_at ho3 (prs_at HJ.out)
  obtain ⟨f0, f1, f2, f3, f4, f5, f6⟩ := seven hO3
  have fz : ∀ j, w3.frozen? ⟨g3, j, none⟩ = false := World.ownsRow.frozenAt ho3
  clear hO hO3 ho3 HJ HB1 hE hB
  go_wp2_with (at_builtin; refine Lib.wpList_append_run _ rfl _ _ _ _ rfl _ _ rfl rfl _ _ hr3 ?_)
  go_ret2
  refine ⟨some ⟨g3, 0, none⟩, cap3, sz, us, ?_, HTE.out, HME.out, HSE.out⟩
  rw [hE9]; rfl
end Go.Proofs.Ytipdjjgpcmbpdaa.Ta
