/- dreylaw05.keeps is true. -/
import Derived.Test.YtipdjjgpcmbpdaaTab15
import Derived.Laws.StructEq
import Derived.Deep.RegionHeld3
set_option linter.unusedVariables false
namespace Go.Proofs.Ytipdjjgpcmbpdaa.Ta
open Go.RowKit Go.ChangeShapes Go.WideShapes Go.ChangeAt Go.Proofs.Ytipdjjgpcmbpdaa.Va

theorem keys_any {B b sz us : Nat} {E : List (Vl × Vl × Int)} {last : Int} (w : World) (h : IsTab B b w E last sz us) (hE : E.length ≤ 1048576) :
    Calls Try.prog 51 #[.pointer (some ⟨b, 0, none⟩)] w fun e W' => ∃ ad cap, e = .returned (.slice ad E.length cap) ∧ Li.Own w.heap.size ad cap W' (E.map (·.1)) ∧ Below w.heap.size w W' := by
  obtain ⟨ar, cr, ap, cp, R, P, n, hT, rfl, _, _⟩ := h
  exact keys_tab w hT hE
theorem notT_val (cs : Array Value) (fr : Nat × Nat) : NotT (.cells cs 30 fr) := fun cur t fr' h => by
  cases h
  exact ⟨by decide, by decide, by decide⟩
theorem box_fr {w w' : World} {g : Nat} {cs : Array Value} {fr : Nat × Nat} (h : FrT w w') (hg : w.heap[g]? = some (.cells cs 30 fr)) : w'.heap[g]? = some (.cells cs 30 fr) := h.block _ _ hg (notT_val _ _)
def EA : Vl × Vl × Int := ((3, 0, ⟨#[97]⟩), (2, 1, ⟨#[]⟩), 1)
def EB : Vl × Vl × Int := ((2, 2, ⟨#[]⟩), (2, 3, ⟨#[]⟩), 2)
/-- What stands at the end of keeps. -/
structure KM (w0 : World) (b g2 g5 g8 sz us : Nat) (w : World) : Prop where
  t : IsTab w0.heap.size b w [EB] 2 sz us
  z : Below w0.heap.size w0 w
  x2 : w.heap[g2]? = some (.cells #[.int .i64 2, .int .i64 1, .string ⟨#[]⟩] 30 (0, 0))
  x5 : w.heap[g5]? = some (.cells #[.int .i64 3, .int .i64 0, .string ⟨#[97]⟩] 30 (0, 0))
  x8 : w.heap[g8]? = some (.cells #[.int .i64 2, .int .i64 1, .string ⟨#[]⟩] 30 (0, 0))
theorem km_below {w0 w w' : World} {b g2 g5 g8 sz us : Nat} (h : KM w0 b g2 g5 g8 sz us w) (hb : Below w.heap.size w w') : KM w0 b g2 g5 g8 sz us w' :=
  ⟨isTab_below h.t hb, h.z.trans (hb.mono h.z.size), box_fr (frT_below hb) h.x2, box_fr (frT_below hb) h.x5, box_fr (frT_below hb) h.x8⟩
theorem km_cells {w0 w : World} {b g2 g5 g8 sz us : Nat} (h : KM w0 b g2 g5 g8 sz us w) :
    w.cell? ⟨g2, 0, none⟩ = some (.int .i64 2) ∧ w.cell? ⟨g2, 1, none⟩ = some (.int .i64 1) ∧ w.cell? ⟨g2, 2, none⟩ = some (.string ⟨#[]⟩) ∧ w.cell? ⟨g5, 0, none⟩ = some (.int .i64 3) ∧ w.cell? ⟨g5, 1, none⟩ = some (.int .i64 0) ∧ w.cell? ⟨g5, 2, none⟩ = some (.string ⟨#[97]⟩) ∧ w.cell? ⟨g8, 1, none⟩ = some (.int .i64 1) := by
  obtain ⟨_, _, h2, h5, h8⟩ := h
  refine ⟨?_, ?_, ?_, ?_, ?_, ?_, ?_⟩ <;> simp [World.cell?, h2, h5, h8]
theorem noEB : NoKey [EB] (3, 0, ⟨#[97]⟩) := .inr fun j v c h => by
  cases j with
  | zero =>
    rw [List.getElem?_cons_zero] at h
    exact absurd (Prod.mk.inj (Option.some.inj h)).1 (by decide)
  | succ j => simp at h
set_option maxRecDepth 100000 in
set_option maxHeartbeats 4000000 in
theorem keeps_any (w : World) : Calls Try.prog 10 #[] w fun e w' => e = .returned (.bool true) ∧ Below w.heap.size w w' := by
  go_enter Try.func10, Try.ntmps10
  go_wp2_with fail
  refine (tnew_any _).mono ?_
  rintro e w1 ⟨b, rfl, hT, hb1⟩
  have HT := Lib.hid hT
  have HZ := Lib.hid hb1
  clear hT hb1
  go_wp2_with fail
  refine (str_any _ _).mono ?_
  rintro e w2 ⟨rfl, hb⟩
  have hT := isTab_below HT.out hb
  have hz := HZ.out.trans (hb.mono HZ.out.size)
  clear HT HZ
  have HT := Lib.hid hT
  have HZ := Lib.hid hz
  clear hT hz hb
  go_wp2_with fail
  refine (int_any 1 _).mono ?_
  rintro e w3 ⟨rfl, hb⟩
  have hT := isTab_below HT.out hb
  have hz := HZ.out.trans (hb.mono HZ.out.size)
  clear HT HZ
  have HT := Lib.hid hT
  have HZ := Lib.hid hz
  clear hT hz hb
  go_wp2_with fail
  refine (put_new (3, 0, ⟨#[97]⟩) (2, 1, ⟨#[]⟩) ⟨by decide, by decide, by decide⟩ (by decide) (.inr fun j v c h => by simp at h) (by decide) (by decide) _ HZ.out.size HT.out).mono ?_
  rintro e w4 ⟨rfl, sz1, us1, hT, -, hst⟩
  have hz := HZ.out.trans hst.b
  clear HT HZ
  have HT := Lib.hid hT
  have HZ := Lib.hid hz
  clear hT hz hst
  go_wp2_with fail
  refine (int_any 2 _).mono ?_
  rintro e w5 ⟨rfl, hb⟩
  have hT := isTab_below HT.out hb
  have hz := HZ.out.trans (hb.mono HZ.out.size)
  clear HT HZ
  have HT := Lib.hid hT
  have HZ := Lib.hid hz
  clear hT hz hb
  go_wp2_with fail
  refine (int_any 3 _).mono ?_
  rintro e w6 ⟨rfl, hb⟩
  have hT := isTab_below HT.out hb
  have hz := HZ.out.trans (hb.mono HZ.out.size)
  clear HT HZ
  have HT := Lib.hid hT
  have HZ := Lib.hid hz
  clear hT hz hb
  go_wp2_with fail
  refine (put_new (2, 2, ⟨#[]⟩) (2, 3, ⟨#[]⟩) ⟨by decide, by decide, by decide⟩ (by decide) (.inr fun j v c h => by cases j with | zero => simp at h | succ j => simp at h) (by decide) (by decide) _ HZ.out.size HT.out).mono ?_
  rintro e w7 ⟨rfl, sz2, us2, hT, -, hst⟩
  have hT : IsTab w.heap.size b w7 [EA, EB] 2 sz2 us2 := hT
  have hz := HZ.out.trans hst.b
  clear HT HZ
  have HT := Lib.hid hT
  have HZ := Lib.hid hz
  clear hT hz hst
  go_wp2_with fail
  refine (null_any _).mono ?_
  rintro e w8 ⟨rfl, hb⟩
  have hT := isTab_below HT.out hb
  have hz := HZ.out.trans (hb.mono HZ.out.size)
  clear HT HZ
  have HT := Lib.hid hT
  have HZ := Lib.hid hz
  clear hT hz hb
  go_wp2_with fail
  refine (null_any _).mono ?_
  rintro e w9 ⟨rfl, hb⟩
  have hT := isTab_below HT.out hb
  have hz := HZ.out.trans (hb.mono HZ.out.size)
  clear HT HZ
  have HT := Lib.hid hT
  have HZ := Lib.hid hz
  clear hT hz hb
  go_wp2_with fail
  refine (put_nul b (0, 0, ⟨#[]⟩) _).mono ?_
  rintro e w10 ⟨rfl, hb⟩
  have hT := isTab_below HT.out hb
  have hz := HZ.out.trans (hb.mono HZ.out.size)
  clear HT HZ
  have HT := Lib.hid hT
  have HZ := Lib.hid hz
  clear hT hz hb
  go_wp2_with fail
  refine (str_any _ _).mono ?_
  rintro e w11 ⟨rfl, hb⟩
  have hT := isTab_below HT.out hb
  have hz := HZ.out.trans (hb.mono HZ.out.size)
  clear HT HZ
  have HT := Lib.hid hT
  have HZ := Lib.hid hz
  clear hT hz hb
  go_wp2_with fail
  refine (get_yes (j := 0) (k := (3, 0, ⟨#[97]⟩)) (v := (2, 1, ⟨#[]⟩)) (c := 1) rfl _ HT.out).mono ?_
  rintro e w12 ⟨rfl, hb⟩
  have hb := hb.alloc hb.size (.cells #[.int .i64 2, .int .i64 1, .string ⟨#[]⟩] 30)
  have hT := isTab_below HT.out hb
  have hz := HZ.out.trans (hb.mono HZ.out.size)
  clear HT HZ 
  have HT := Lib.hid hT
  have HZ := Lib.hid hz
  clear hT hz 
  have HX2 : Hid (_ = some (Obj.cells #[.int .i64 2, .int .i64 1, .string ⟨#[]⟩] 30 (0, 0))) := heap_alloc_new w12 (.cells #[.int .i64 2, .int .i64 1, .string ⟨#[]⟩] 30)
  clear hb
  go_wp2_with fail
  refine (next_some (j := 0) (cur := 0) (k := (3, 0, ⟨#[97]⟩)) (v := (2, 1, ⟨#[]⟩)) (c := 1) _ HZ.out.size HT.out rfl (by decide) (fun i k v c hi => by omega)).mono ?_
  rintro e w13 ⟨rfl, hT, hst⟩
  have hz := HZ.out.trans hst.b
  have hx2 := box_fr hst.f HX2.out
  clear HT HZ HX2
  have hb := ((Below.refl w13.heap.size w13).alloc (Nat.le_refl _) (.cells #[.int .i64 3, .int .i64 0, .string ⟨#[97]⟩] 30)).alloc (by simp) (.cells #[.int .i64 2, .int .i64 1, .string ⟨#[]⟩] 30)
  have hT := isTab_below hT hb
  have hz := hz.trans (hb.mono hz.size)
  have hx2 := box_fr (frT_below hb) hx2
  have HT := Lib.hid hT
  have HZ := Lib.hid hz
  have HX2 := Lib.hid hx2
  have HX5 : Hid (_ = some (Obj.cells #[.int .i64 3, .int .i64 0, .string ⟨#[97]⟩] 30 (0, 0))) := (heap_alloc_old (w13.alloc (.cells #[.int .i64 3, .int .i64 0, .string ⟨#[97]⟩] 30)) (.cells #[.int .i64 2, .int .i64 1, .string ⟨#[]⟩] 30) (show w13.heap.size < _ by simp)).trans (heap_alloc_new w13 (.cells #[.int .i64 3, .int .i64 0, .string ⟨#[97]⟩] 30))
  clear hT hz hx2 hb
  go_wp2_with fail
  refine (str_any _ _).mono ?_
  rintro e w14 ⟨rfl, hb⟩
  have hT := isTab_below HT.out hb
  have hz := HZ.out.trans (hb.mono HZ.out.size)
  have hhx2 := box_fr (frT_below hb) HX2.out
  have hhx5 := box_fr (frT_below hb) HX5.out
  clear HT HZ HX2 HX5
  have HT := Lib.hid hT
  have HZ := Lib.hid hz
  have HX2 := Lib.hid hhx2
  have HX5 := Lib.hid hhx5
  clear hT hz hhx2 hhx5
  clear hb
  go_wp2_with fail
  refine (delete_yes (j := 0) (k := (3, 0, ⟨#[97]⟩)) (v := (2, 1, ⟨#[]⟩)) (c := 1) rfl _ HZ.out.size HT.out).mono ?_
  rintro e w15 ⟨rfl, hT, hst⟩
  have hT : IsTab w.heap.size b w15 [EB] 2 sz2 us2 := hT
  have hz := HZ.out.trans hst.b
  have hx2 := box_fr hst.f HX2.out
  have hx5 := box_fr hst.f HX5.out
  clear HT HZ HX2 HX5
  have hb := (Below.refl w15.heap.size w15).alloc (Nat.le_refl _) (.cells #[.int .i64 2, .int .i64 1, .string ⟨#[]⟩] 30)
  have hT := isTab_below hT hb
  have hz := hz.trans (hb.mono hz.size)
  have hx2 := box_fr (frT_below hb) hx2
  have hx5 := box_fr (frT_below hb) hx5
  have HT := Lib.hid hT
  have HZ := Lib.hid hz
  have HX2 := Lib.hid hx2
  have HX5 := Lib.hid hx5
  have HX8 : Hid (_ = some (Obj.cells #[.int .i64 2, .int .i64 1, .string ⟨#[]⟩] 30 (0, 0))) := heap_alloc_new w15 (.cells #[.int .i64 2, .int .i64 1, .string ⟨#[]⟩] 30)
  clear hT hz hx2 hx5 hb
  go_wp2_with fail
  refine (str_any _ _).mono ?_
  rintro e w16 ⟨rfl, hb⟩
  have hT := isTab_below HT.out hb
  have hz := HZ.out.trans (hb.mono HZ.out.size)
  have hhx2 := box_fr (frT_below hb) HX2.out
  have hhx5 := box_fr (frT_below hb) HX5.out
  have hhx8 := box_fr (frT_below hb) HX8.out
  clear HT HZ HX2 HX5 HX8
  have HT := Lib.hid hT
  have HZ := Lib.hid hz
  have HX2 := Lib.hid hhx2
  have HX5 := Lib.hid hhx5
  have HX8 := Lib.hid hhx8
  clear hT hz hhx2 hhx5 hhx8
  clear hb
  go_wp2_with fail
  refine (get_no (3, 0, ⟨#[97]⟩) ⟨by decide, by decide, by decide⟩ noEB _ HT.out).mono ?_
  rintro e w17 ⟨rfl, hb⟩
  have hb := hb.alloc hb.size (.cells #[.int .i64 0, .int .i64 0, .string ⟨#[]⟩] 30)
  have hT := isTab_below HT.out hb
  have hz := HZ.out.trans (hb.mono HZ.out.size)
  have hhx2 := box_fr (frT_below hb) HX2.out
  have hhx5 := box_fr (frT_below hb) HX5.out
  have hhx8 := box_fr (frT_below hb) HX8.out
  clear HT HZ HX2 HX5 HX8
  have HT := Lib.hid hT
  have HZ := Lib.hid hz
  have HX2 := Lib.hid hhx2
  have HX5 := Lib.hid hhx5
  have HX8 := Lib.hid hhx8
  clear hT hz hhx2 hhx5 hhx8
  clear hb
  have HK := Lib.hid (KM.mk HT.out HZ.out HX2.out HX5.out HX8.out)
  clear HT HZ HX2 HX5 HX8
  go_wp2_with fail
  obtain ⟨o1, o2, o3, o4, o5, o6, o7⟩ := km_cells HK.out
  have HO := Lib.hid (km_cells HK.out)
  have HKn := Lib.hid (km_below HK.out (Below.refl _ _).drew)
  have HOd := Lib.hid (km_cells HKn.out)
  clear HK
  have HK := HKn
  clear HKn
  go_region_held3 (fun w' => w'.cell? ⟨w12.heap.size, 0, none⟩ = some (.int .i64 2) ∧ w'.cell? ⟨w12.heap.size, 1, none⟩ = some (.int .i64 1) ∧ w'.cell? ⟨w12.heap.size, 2, none⟩ = some (.string ⟨#[]⟩) ∧ w'.cell? ⟨w13.heap.size, 0, none⟩ = some (.int .i64 3) ∧ w'.cell? ⟨w13.heap.size, 1, none⟩ = some (.int .i64 0) ∧ w'.cell? ⟨w13.heap.size, 2, none⟩ = some (.string ⟨#[97]⟩) ∧ w'.cell? ⟨w15.heap.size, 1, none⟩ = some (.int .i64 1)) (with_reducible (first | exact HO.out | exact HOd.out)) (first | (go_at_call 49; refine (str_any _ _).mono ?_; rintro e9 w9 ⟨rfl, hb9⟩; have HKn := Lib.hid (km_below HK.out hb9); clear HK hb9; have HK := HKn; clear HKn; have HO := Lib.hid (km_cells HK.out); obtain ⟨o1, o2, o3, o4, o5, o6, o7⟩ := HO.out) | (go_at_call 16; refine (tlen_any _ HK.out.t).mono ?_; rintro e9 w9 ⟨rfl, rfl⟩) | (go_at_call 51; refine (keys_any _ HK.out.t (by decide)).mono ?_; rintro e9 w9 ⟨ad, cap, rfl, _, hb9⟩; have HKn := Lib.hid (km_below HK.out hb9); clear HK hb9; have HK := HKn; clear HKn; have HO := Lib.hid (km_cells HK.out); obtain ⟨o1, o2, o3, o4, o5, o6, o7⟩ := HO.out) | (go_at_call 52; refine (set_no (3, 0, ⟨#[97]⟩) (2, 1, ⟨#[]⟩) ⟨by decide, by decide, by decide⟩ noEB _ HK.out.t).mono ?_; rintro e9 w9 ⟨rfl, hb9⟩; have HKn := Lib.hid (km_below HK.out hb9); clear HK hb9; have HK := HKn; clear HKn; have HO := Lib.hid (km_cells HK.out); obtain ⟨o1, o2, o3, o4, o5, o6, o7⟩ := HO.out))
  go_wp2_with fail
  go_ret
  exact ⟨rfl, HK.out.z⟩
end Go.Proofs.Ytipdjjgpcmbpdaa.Ta
