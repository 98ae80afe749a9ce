/- The statements' do: what changes no model, and Clear. -/
import Derived.Test.YtipdjjgpcmbpdaaTab21
set_option linter.unusedVariables false
namespace Go.Proofs.Ytipdjjgpcmbpdaa.Ta
open Go.RowKit Go.ChangeShapes Go.WideShapes Go.ChangeAt Go.Proofs.Ytipdjjgpcmbpdaa.Va

set_option maxRecDepth 100000 in
set_option maxHeartbeats 4000000 in
theorem do_clear {B b sz us cap : Nat} {ad : Option Addr} {E : List (Vl × Vl × Int)} {last : Int} (k v : Vl) (w : World) (hB : B ≤ w.heap.size) (hE : E.length ≤ 1000) (h : IsTab B b w E last sz us) (hm : OwnM B ad cap w (prs E)) :
    Calls Try.prog 13 #[.pointer (some ⟨b, 0, none⟩), .slice ad E.length cap, opV 3 k v] w (Did B b w [] last) := by
  have hb1 := (Below.refl w.heap.size w).alloc (Nat.le_refl _) (opB 3 k v)
  have ho := heap_alloc_new w (opB 3 k v)
  have HA := Lib.hid (at_any (prs E) (by rw [prs_len]; omega) k _ (ownM_below hm hb1))
  rw [prs_len] at HA
  have HEND : Hid (∀ w', Below (w.alloc (opB 3 k v)).heap.size (w.alloc (opB 3 k v)) w' → IsTab B b w' E last sz us ∧ OwnM B ad cap w' (prs E) ∧ St B w w') := fun w' hb => by
    have hz := hb1.trans (hb.mono hb1.size)
    exact ⟨isTab_below h hz, ownM_below hm hz, st_below hz hB⟩
  obtain ⟨c0, c1, c2, c3, c4, c5, c6⟩ := seven ho
  have HO := Lib.hid ho
  clear ho hb1 h hm
  unfold opB at HA c0 c1 c2 c3 c4 c5 c6 HEND HO
  unfold opV
  go_enter Try.func13, Try.ntmps13
  go_wp2_with fail
  refine HA.out.mono ?_
  rintro e w1 ⟨rfl, hb⟩
  obtain ⟨hT, hM, hS⟩ := HEND.out w1 hb
  have HT := Lib.hid hT
  have HM := Lib.hid hM
  have HS := Lib.hid hS
  have HO1 := Lib.hid (box_op (kd := 3) (k := k) (v := v) (frT_below hb) HO.out)
  have HB1 := Lib.hid (Nat.le_trans hB hS.f.size)
  obtain ⟨d0, d1, d2, d3, d4, d5, d6⟩ := seven HO1.out
  clear c0 c1 c2 c3 c4 c5 c6 HA HEND HO hb hT hM hS
  go_wp2_with fail
  refine (tclear_any _ HT.out).mono ?_
  rintro e w2 ⟨rfl, hT, hst⟩
  have hM := ownM_fr HM.out hst.f
  have hS := st_trans HS.out hst
  have hO := box_op (k := k) (v := v) hst.f HO1.out
  clear d0 d1 d2 d3 d4 d5 d6 HO1 HT HM HS
  have HT := Lib.hid hT
  have HS := Lib.hid hS
  clear hT hM hS hO hst
  go_wp2_with fail
  go_ret2
  exact ⟨none, 0, 0, 0, rfl, HT.out, World.ownsRow_nil _ _ _ _, HS.out⟩
set_option maxRecDepth 100000 in
set_option maxHeartbeats 4000000 in
theorem do_set_no {B b sz us cap : Nat} {ad : Option Addr} {E : List (Vl × Vl × Int)} {last : Int} (k v : Vl) (hok : okK k) (hi : idx k (prs E) 0 = -1) (hn : NoKey E k) (w : World) (hB : B ≤ w.heap.size) (hE : E.length ≤ 1000) (h : IsTab B b w E last sz us) (hm : OwnM B ad cap w (prs E)) :
    Calls Try.prog 13 #[.pointer (some ⟨b, 0, none⟩), .slice ad E.length cap, opV 1 k v] w (Did B b w E last) := by
  have hb1 := (Below.refl w.heap.size w).alloc (Nat.le_refl _) (opB 1 k v)
  have ho := heap_alloc_new w (opB 1 k v)
  have HA := Lib.hid (at_any (prs E) (by rw [prs_len]; omega) k _ (ownM_below hm hb1))
  rw [prs_len] at HA
  rw [show idx k (prs E) 0 = -1 from hi] at HA
  clear hi
  have HEND : Hid (∀ w', Below (w.alloc (opB 1 k v)).heap.size (w.alloc (opB 1 k v)) w' → IsTab B b w' E last sz us ∧ OwnM B ad cap w' (prs E) ∧ St B w w') := fun w' hb => by
    have hz := hb1.trans (hb.mono hb1.size)
    exact ⟨isTab_below h hz, ownM_below hm hz, st_below hz hB⟩
  obtain ⟨c0, c1, c2, c3, c4, c5, c6⟩ := seven ho
  have HO := Lib.hid ho
  clear ho hb1 h hm
  unfold opB at HA c0 c1 c2 c3 c4 c5 c6 HEND HO
  unfold opV
  go_enter Try.func13, Try.ntmps13
  go_wp2_with fail
  refine HA.out.mono ?_
  rintro e w1 ⟨rfl, hb⟩
  obtain ⟨hT, hM, hS⟩ := HEND.out w1 hb
  have HT := Lib.hid hT
  have HM := Lib.hid hM
  have HS := Lib.hid hS
  have HO1 := Lib.hid (box_op (kd := 1) (k := k) (v := v) (frT_below hb) HO.out)
  have HB1 := Lib.hid (Nat.le_trans hB hS.f.size)
  obtain ⟨d0, d1, d2, d3, d4, d5, d6⟩ := seven HO1.out
  clear c0 c1 c2 c3 c4 c5 c6 HA HEND HO hb hT hM hS
  go_wp2_with fail
  refine (set_no k v hok hn _ HT.out).mono ?_
  rintro e w2 ⟨rfl, hb⟩
  have hT := isTab_below HT.out hb
  have hM := ownM_below HM.out hb
  have hS := st_trans HS.out (st_below hb HB1.out)
  have hO := box_op (k := k) (v := v) (frT_below hb) HO1.out
  clear hb
  clear d0 d1 d2 d3 d4 d5 d6 HO1 HT HM HS
  have HT := Lib.hid hT
  have HM := Lib.hid hM
  have HS := Lib.hid hS
  have HO1 := Lib.hid hO
  clear hT hM hS hO
  obtain ⟨d0, d1, d2, d3, d4, d5, d6⟩ := seven HO1.out
  go_wp2_with fail
  go_ret2
  exact ⟨ad, cap, sz, us, rfl, HT.out, HM.out, HS.out⟩
set_option maxRecDepth 100000 in
set_option maxHeartbeats 4000000 in
theorem do_put_nul {B b sz us cap : Nat} {ad : Option Addr} {E : List (Vl × Vl × Int)} {last : Int} (v : Vl) (hi : idx nul (prs E) 0 = -1) (w : World) (hB : B ≤ w.heap.size) (hE : E.length ≤ 1000) (h : IsTab B b w E last sz us) (hm : OwnM B ad cap w (prs E)) :
    Calls Try.prog 13 #[.pointer (some ⟨b, 0, none⟩), .slice ad E.length cap, opV 0 nul v] w (Did B b w E last) := by
  have hb1 := (Below.refl w.heap.size w).alloc (Nat.le_refl _) (opB 0 nul v)
  have ho := heap_alloc_new w (opB 0 nul v)
  have HA := Lib.hid (at_any (prs E) (by rw [prs_len]; omega) nul _ (ownM_below hm hb1))
  rw [prs_len] at HA
  rw [show idx nul (prs E) 0 = -1 from hi] at HA
  clear hi
  have HEND : Hid (∀ w', Below (w.alloc (opB 0 nul v)).heap.size (w.alloc (opB 0 nul v)) w' → IsTab B b w' E last sz us ∧ OwnM B ad cap w' (prs E) ∧ St B w w') := fun w' hb => by
    have hz := hb1.trans (hb.mono hb1.size)
    exact ⟨isTab_below h hz, ownM_below hm hz, st_below hz hB⟩
  obtain ⟨c0, c1, c2, c3, c4, c5, c6⟩ := seven ho
  have HO := Lib.hid ho
  clear ho hb1 h hm
  unfold opB at HA c0 c1 c2 c3 c4 c5 c6 HEND HO
  unfold opV
  go_enter Try.func13, Try.ntmps13
  go_wp2_with fail
  refine HA.out.mono ?_
  rintro e w1 ⟨rfl, hb⟩
  obtain ⟨hT, hM, hS⟩ := HEND.out w1 hb
  have HT := Lib.hid hT
  have HM := Lib.hid hM
  have HS := Lib.hid hS
  have HO1 := Lib.hid (box_op (kd := 0) (k := nul) (v := v) (frT_below hb) HO.out)
  have HB1 := Lib.hid (Nat.le_trans hB hS.f.size)
  obtain ⟨d0, d1, d2, d3, d4, d5, d6⟩ := seven HO1.out
  clear c0 c1 c2 c3 c4 c5 c6 HA HEND HO hb hT hM hS
  go_wp2_with fail
  refine (put_nul b v _).mono ?_
  rintro e w2 ⟨rfl, hb⟩
  have hT := isTab_below HT.out hb
  have hM := ownM_below HM.out hb
  have hS := st_trans HS.out (st_below hb HB1.out)
  have hO := box_op (k := nul) (v := v) (frT_below hb) HO1.out
  clear hb
  clear d0 d1 d2 d3 d4 d5 d6 HO1 HT HM HS
  have HT := Lib.hid hT
  have HM := Lib.hid hM
  have HS := Lib.hid hS
  have HO1 := Lib.hid hO
  clear hT hM hS hO
  obtain ⟨d0, d1, d2, d3, d4, d5, d6⟩ := seven HO1.out
  go_wp2_with fail
  go_ret2
  exact ⟨ad, cap, sz, us, rfl, HT.out, HM.out, HS.out⟩
set_option maxRecDepth 100000 in
set_option maxHeartbeats 4000000 in
theorem do_del_no {B b sz us cap : Nat} {ad : Option Addr} {E : List (Vl × Vl × Int)} {last : Int} (k v : Vl) (hok : okK k) (hi : idx k (prs E) 0 = -1) (hn : NoKey E k) (w : World) (hB : B ≤ w.heap.size) (hE : E.length ≤ 1000) (h : IsTab B b w E last sz us) (hm : OwnM B ad cap w (prs E)) :
    Calls Try.prog 13 #[.pointer (some ⟨b, 0, none⟩), .slice ad E.length cap, opV 2 k v] w (Did B b w E last) := by
  have hb1 := (Below.refl w.heap.size w).alloc (Nat.le_refl _) (opB 2 k v)
  have ho := heap_alloc_new w (opB 2 k v)
  have HA := Lib.hid (at_any (prs E) (by rw [prs_len]; omega) k _ (ownM_below hm hb1))
  rw [prs_len] at HA
  rw [show idx k (prs E) 0 = -1 from hi] at HA
  clear hi
  have HEND : Hid (∀ w', Below (w.alloc (opB 2 k v)).heap.size (w.alloc (opB 2 k v)) w' → IsTab B b w' E last sz us ∧ OwnM B ad cap w' (prs E) ∧ St B w w') := fun w' hb => by
    have hz := hb1.trans (hb.mono hb1.size)
    exact ⟨isTab_below h hz, ownM_below hm hz, st_below hz hB⟩
  obtain ⟨c0, c1, c2, c3, c4, c5, c6⟩ := seven ho
  have HO := Lib.hid ho
  clear ho hb1 h hm
  unfold opB at HA c0 c1 c2 c3 c4 c5 c6 HEND HO
  unfold opV
  go_enter Try.func13, Try.ntmps13
  go_wp2_with fail
  refine HA.out.mono ?_
  rintro e w1 ⟨rfl, hb⟩
  obtain ⟨hT, hM, hS⟩ := HEND.out w1 hb
  have HT := Lib.hid hT
  have HM := Lib.hid hM
  have HS := Lib.hid hS
  have HO1 := Lib.hid (box_op (kd := 2) (k := k) (v := v) (frT_below hb) HO.out)
  have HB1 := Lib.hid (Nat.le_trans hB hS.f.size)
  obtain ⟨d0, d1, d2, d3, d4, d5, d6⟩ := seven HO1.out
  clear c0 c1 c2 c3 c4 c5 c6 HA HEND HO hb hT hM hS
  go_wp2_with fail
  refine (delete_no k hok hn _ HT.out).mono ?_
  rintro e w2 ⟨rfl, hb⟩
  have hT := isTab_below HT.out hb
  have hM := ownM_below HM.out hb
  have hS := st_trans HS.out (st_below hb HB1.out)
  have hO := box_op (k := k) (v := v) (frT_below hb) HO1.out
  have hq := (Below.refl w2.heap.size w2).alloc (Nat.le_refl _) (valB (0, 0, ⟨#[]⟩))
  have hv := heap_alloc_new w2 (valB (0, 0, ⟨#[]⟩))
  have hB2 := Nat.le_trans HB1.out hb.size
  have hT := isTab_below hT hq
  have hM := ownM_below hM hq
  have hS := st_trans hS (st_below hq hB2)
  have hO := box_op (k := k) (v := v) (frT_below hq) hO
  clear hb hq hB2
  clear d0 d1 d2 d3 d4 d5 d6 HO1 HT HM HS
  have HT := Lib.hid hT
  have HM := Lib.hid hM
  have HS := Lib.hid hS
  have HO1 := Lib.hid hO
  clear hT hM hS hO
  obtain ⟨d0, d1, d2, d3, d4, d5, d6⟩ := seven HO1.out
  obtain ⟨z0, z1, z2⟩ := threeB hv
  clear hv
  unfold valB at HT HM HS d0 d1 d2 d3 d4 d5 d6 z0 z1 z2
  go_wp2_with fail
  go_quiet (fail)
  go_wp2_with fail
  go_ret2
  exact ⟨ad, cap, sz, us, rfl, isTab_below HT.out (below_drewN (Below.refl _ _) _), ownM_below HM.out (below_drewN (Below.refl _ _) _), st_trans HS.out (st_below (below_drewN (Below.refl _ _) _) (Nat.le_trans hB HS.out.f.size))⟩
end Go.Proofs.Ytipdjjgpcmbpdaa.Ta
