/- The statements' do: a key goes. -/
import Derived.Test.YtipdjjgpcmbpdaaTab26
set_option linter.unusedVariables false
namespace Go.Proofs.Ytipdjjgpcmbpdaa.Ta
open Go.RowKit Go.ChangeShapes Go.WideShapes Go.ChangeAt Go.Proofs.Ytipdjjgpcmbpdaa.Va

theorem prs_erase (E : List (Vl × Vl × Int)) (j : Nat) : prs (E.eraseIdx j) = (prs E).eraseIdx j := by unfold prs; rw [List.eraseIdx_eq_take_drop_succ, List.eraseIdx_eq_take_drop_succ, List.map_append, List.map_take, List.map_drop]
/-- What is read where the model loses a pair. -/
def Dl (n g o : Nat) (v : Vl) (w : World) : Prop :=
  w.cell? ⟨n, 0, none⟩ = some (.int .i64 v.1) ∧ w.cell? ⟨n, 1, none⟩ = some (.int .i64 v.2.1) ∧ w.cell? ⟨n, 2, none⟩ = some (.string v.2.2) ∧ w.cell? ⟨g, o + 3, none⟩ = some (.int .i64 v.1) ∧ w.cell? ⟨g, o + 4, none⟩ = some (.int .i64 v.2.1) ∧ w.cell? ⟨g, o + 5, none⟩ = some (.string v.2.2)
theorem dl_of {B cap n g j : Nat} {w : World} {L : List (Vl × Vl)} {k v : Vl} (h : w.heap[n]? = some (valB v)) (hm : OwnM B (some ⟨g, 0, none⟩) cap w L) (hj : L[j]? = some (k, v)) : Dl n g (j * 6) v w := by
  obtain ⟨a, b, c⟩ := threeB h
  obtain ⟨_, _, _, d, e, f⟩ := ownM_at hm hj
  exact ⟨a, b, c, d, e, f⟩
set_option maxRecDepth 100000 in
set_option maxHeartbeats 4000000 in
theorem do_del_yes {B b sz us cap : Nat} {ad : Option Addr} {E : List (Vl × Vl × Int)} {last : Int} (k v : Vl) {j : Nat} {v0 : Vl} {c : Int} (hj : E[j]? = some (k, v0, c)) (hi : idx k (prs E) 0 = (j : Int)) (w : World) (hB : B ≤ w.heap.size) (hE : E.length ≤ 1000) (h : IsTab B b w E last sz us) (hm : OwnM B ad cap w (prs E)) :
    Calls Try.prog 13 #[.pointer (some ⟨b, 0, none⟩), .slice ad E.length cap, opV 2 k v] w (Did B b w (E.eraseIdx j) last) := by
  have hb1 := (Below.refl w.heap.size w).alloc (Nat.le_refl _) (opB 2 k v)
  have ho := heap_alloc_new w (opB 2 k v)
  have HA := Lib.hid (at_any (prs E) (by rw [prs_len]; omega) k _ (ownM_below hm hb1))
  rw [prs_len] at HA
  rw [show idx k (prs E) 0 = (j : Int) from hi] at HA
  clear hi
  have hj0 : (0 : Int) ≤ (j : Int) := by omega
  have hjn : ¬ (j : Int) < 0 := by omega
  have hjl := (List.getElem?_eq_some_iff.1 hj).1
  have hjl2 : (j : Int) < (E.length : Int) := by omega
  have HJ := Lib.hid hj
  clear hj
  obtain ⟨gm, hgm, _, _⟩ := row_some hm (by rw [prs_len]; omega)
  subst hgm
  have HEND : Hid (∀ w', Below (w.alloc (opB 2 k v)).heap.size (w.alloc (opB 2 k v)) w' → IsTab B b w' E last sz us ∧ OwnM B (some ⟨gm, 0, none⟩) cap w' (prs E) ∧ St B w w') := fun w' hb => by
    have hz := hb1.trans (hb.mono hb1.size)
    exact ⟨isTab_below h hz, ownM_below hm hz, st_below hz hB⟩
  obtain ⟨c0, c1, c2, c3, c4, c5, c6⟩ := seven ho
  have HO := Lib.hid ho
  clear ho hb1 h hm
  unfold opB at HA c0 c1 c2 c3 c4 c5 c6 HEND HO
  unfold opV
  go_enter Try.func13, Try.ntmps13
  go_wp2_with fail
  refine HA.out.mono ?_
  rintro e w1 ⟨rfl, hb⟩
  obtain ⟨hT, hM, hS⟩ := HEND.out w1 hb
  have HT := Lib.hid hT
  have HM := Lib.hid hM
  have HS := Lib.hid hS
  have HO1 := Lib.hid (box_op (kd := 2) (k := k) (v := v) (frT_below hb) HO.out)
  have HB1 := Lib.hid (Nat.le_trans hB hS.f.size)
  obtain ⟨d0, d1, d2, d3, d4, d5, d6⟩ := seven HO1.out
  clear c0 c1 c2 c3 c4 c5 c6 HA HEND HO hb hT hM hS
  go_wp2_with fail
  refine (delete_yes HJ.out _ HB1.out HT.out).mono ?_
  rintro e w2 ⟨rfl, hT, hst⟩
  have hM := ownM_fr HM.out hst.f
  have hS := st_trans HS.out hst
  have hO := box_op (k := k) (v := v) hst.f HO1.out
  have hB2 := Nat.le_trans hB hS.f.size
  have hq := (Below.refl w2.heap.size w2).alloc (Nat.le_refl _) (valB v0)
  have hv := heap_alloc_new w2 (valB v0)
  have hT3 := isTab_below hT hq
  have hM3 := ownM_below hM hq
  have hS3 := st_trans hS (st_below hq hB2)
  have hO3 := box_op (k := k) (v := v) (frT_below hq) hO
  have hB3 := Nat.le_trans hB2 hq.size
  have hp := prs_at HJ.out
  have hWO := fun W (h : OwnM B (some ⟨gm, 0, none⟩) cap W (prs E)) => without_any (prs_len E) (by omega : E.length ≤ 10000) h hjl
  have HD := Lib.hid (show ((w2.alloc (valB v0)).cell? ⟨w2.heap.size, 0, none⟩ = some (.int .i64 v0.1) ∧ (w2.alloc (valB v0)).cell? ⟨w2.heap.size, 1, none⟩ = some (.int .i64 v0.2.1) ∧ (w2.alloc (valB v0)).cell? ⟨w2.heap.size, 2, none⟩ = some (.string v0.2.2) ∧ (w2.alloc (valB v0)).cell? ⟨gm, j * 6 + 3, none⟩ = some (.int .i64 v0.1) ∧ (w2.alloc (valB v0)).cell? ⟨gm, j * 6 + 4, none⟩ = some (.int .i64 v0.2.1) ∧ (w2.alloc (valB v0)).cell? ⟨gm, j * 6 + 5, none⟩ = some (.string v0.2.2)) from dl_of hv hM3 hp)
  have hqd : Below (w2.alloc (valB v0)).heap.size (w2.alloc (valB v0)) (w2.alloc (valB v0)).drew := (Below.refl _ _).drew
  have hMd := ownM_below hM3 hqd
  have hvd : (w2.alloc (valB v0)).drew.heap[w2.heap.size]? = some (valB v0) := hv
  have HDD := Lib.hid (show ((w2.alloc (valB v0)).drew.cell? ⟨w2.heap.size, 0, none⟩ = some (.int .i64 v0.1) ∧ (w2.alloc (valB v0)).drew.cell? ⟨w2.heap.size, 1, none⟩ = some (.int .i64 v0.2.1) ∧ (w2.alloc (valB v0)).drew.cell? ⟨w2.heap.size, 2, none⟩ = some (.string v0.2.2) ∧ (w2.alloc (valB v0)).drew.cell? ⟨gm, j * 6 + 3, none⟩ = some (.int .i64 v0.1) ∧ (w2.alloc (valB v0)).drew.cell? ⟨gm, j * 6 + 4, none⟩ = some (.int .i64 v0.2.1) ∧ (w2.alloc (valB v0)).drew.cell? ⟨gm, j * 6 + 5, none⟩ = some (.string v0.2.2)) from dl_of hvd hMd hp)
  have HWO := Lib.hid (hWO _ hMd)
  have HEND : Hid (∀ w' ad' cap', Below (w2.alloc (valB v0)).drew.heap.size (w2.alloc (valB v0)).drew w' → OwnM (w2.alloc (valB v0)).drew.heap.size ad' cap' w' ((prs E).eraseIdx j) → IsTab B b w' (E.eraseIdx j) last sz us ∧ OwnM B ad' cap' w' (prs (E.eraseIdx j)) ∧ St B w w' ∧ (w'.cell? ⟨w2.heap.size, 0, none⟩ = some (.int .i64 v0.1) ∧ w'.cell? ⟨w2.heap.size, 1, none⟩ = some (.int .i64 v0.2.1) ∧ w'.cell? ⟨w2.heap.size, 2, none⟩ = some (.string v0.2.2) ∧ w'.cell? ⟨gm, j * 6 + 3, none⟩ = some (.int .i64 v0.1) ∧ w'.cell? ⟨gm, j * 6 + 4, none⟩ = some (.int .i64 v0.2.1) ∧ w'.cell? ⟨gm, j * 6 + 5, none⟩ = some (.string v0.2.2))) := fun w' ad' cap' hb ho => by
    have hb' := hqd.trans hb
    refine ⟨isTab_below hT3 hb', ?_, st_trans hS3 (st_below hb' hB3), dl_of ((hb.block _ (lt_of_block hvd)).trans hvd) (ownM_below hMd hb) hp⟩
    rw [prs_erase]
    exact ownM_down ho hB3
  have hE9 : (E.eraseIdx j).length = E.length - 1 := by rw [List.length_eraseIdx, if_pos hjl]
  clear d0 d1 d2 d3 d4 d5 d6 HO1 HT HM HS hM hT hst hS hq hv hT3 hM3 hS3 hB3 hWO hqd hMd hvd hB2 hp
  obtain ⟨d0, d1, d2, d3, d4, d5, d6⟩ := seven hO
  obtain ⟨z0, z1, z2, z3, z4, z5⟩ := HD.out
  clear hO hO3 HJ HB1 hE hB
  unfold valB at HD HDD HWO HEND z0 z1 z2 z3 z4 z5
  go_wp2_with fail
  go_region_held3 (fun w' => (w'.cell? ⟨w2.heap.size, 0, none⟩ = some (.int .i64 v0.1) ∧ w'.cell? ⟨w2.heap.size, 1, none⟩ = some (.int .i64 v0.2.1) ∧ w'.cell? ⟨w2.heap.size, 2, none⟩ = some (.string v0.2.2) ∧ w'.cell? ⟨gm, j * 6 + 3, none⟩ = some (.int .i64 v0.1) ∧ w'.cell? ⟨gm, j * 6 + 4, none⟩ = some (.int .i64 v0.2.1) ∧ w'.cell? ⟨gm, j * 6 + 5, none⟩ = some (.string v0.2.2))) (with_reducible (first | assumption | exact HD.out | exact HDD.out))
    (first | (go_at_call 53; with_reducible refine HWO.out.mono ?_; rintro e9 w9 ⟨ad9, cap9, rfl, ho9, hb9⟩; have hx9 := HEND.out w9 ad9 cap9 hb9 ho9; have hd9 := hx9.2.2.2; have HX9 := Lib.hid hx9; clear hx9 hb9 ho9))
  all_goals go_wp2_with fail
  all_goals go_ret2
  all_goals
    obtain ⟨h1, h2, h3, _⟩ := HX9.out
    refine ⟨_, _, sz, us, ?_, h1, h2, h3⟩
    rw [hE9]; rfl
end Go.Proofs.Ytipdjjgpcmbpdaa.Ta
