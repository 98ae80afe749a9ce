/- The statements' same: a table has just a model's pairs. -/
import Derived.Test.YtipdjjgpcmbpdaaTab19
set_option linter.unusedVariables false
namespace Go.Proofs.Ytipdjjgpcmbpdaa.Ta
open Go.RowKit Go.ChangeShapes Go.WideShapes Go.ChangeAt Go.Proofs.Ytipdjjgpcmbpdaa.Va

/-- The pairs of a table. -/
def prs (E : List (Vl × Vl × Int)) : List (Vl × Vl) := E.map fun e => (e.1, e.2.1)
theorem prs_len (E : List (Vl × Vl × Int)) : (prs E).length = E.length := by unfold prs; simp
theorem prs_at {E : List (Vl × Vl × Int)} {i : Nat} {k v : Vl} {c : Int} (h : E[i]? = some (k, v, c)) : (prs E)[i]? = some (k, v) := by unfold prs; rw [List.getElem?_map, h]; rfl
theorem isTab_rise {B b sz us : Nat} {w : World} {E : List (Vl × Vl × Int)} {last : Int} (h : IsTab B b w E last sz us) : (∀ (i j : Nat) (k v : Vl) (c : Int) (k' v' : Vl) (c' : Int), E[i]? = some (k, v, c) → E[j]? = some (k', v', c') → i < j → c < c') ∧ ∀ (i : Nat) (k v : Vl) (c : Int), E[i]? = some (k, v, c) → 0 < c := by
  obtain ⟨ar, cr, ap, cp, R, P, n, hT, rfl, _, _⟩ := h
  refine ⟨fun i j k v c k' v' c' hi hj hij => ents_rise hT.g hi hj hij, fun i k v c hi => ?_⟩
  obtain ⟨j, r, hj, _, _, rfl, _, _⟩ := ents_row hi
  exact (hT.g.cur j r hj).1
theorem ownL_at {B g cap : Nat} {w : World} {L : List Vl} (h : Li.Own B (some ⟨g, 0, none⟩) cap w L) {i : Nat} {e : Vl} (hi : L[i]? = some e) :
    w.cell? ⟨g, i * 3, none⟩ = some (.int .i64 e.1) ∧ w.cell? ⟨g, i * 3 + 1, none⟩ = some (.int .i64 e.2.1) ∧ w.cell? ⟨g, i * 3 + 2, none⟩ = some (.string e.2.2) := by
  obtain ⟨h1, h2⟩ := List.getElem?_eq_some_iff.1 hi
  rw [← h2]; exact Li.own_at h i h1
/-- The cells of a pair's box. -/
def pairB (p : Vl × Vl) : Obj := .cells #[.int .i64 p.1.1, .int .i64 p.1.2.1, .string p.1.2.2, .int .i64 p.2.1, .int .i64 p.2.2.1, .string p.2.2.2] 43
def valB (e : Vl) : Obj := .cells #[.int .i64 e.1, .int .i64 e.2.1, .string e.2.2] 30
theorem row_fr {w w' : World} {B size n : Nat} {e : TypeId} {v : Value} {xs : List Value} (he : e ≠ 109 ∧ e ≠ 21 ∧ e ≠ 103) (h : w.ownsRow B e size v n xs) (hf : FrT w w') : w'.ownsRow B e size v n xs := by
  refine ⟨h.1, ?_⟩
  rcases h.2 with h1 | ⟨g, c, cur, hv, hb, hg, rest⟩
  · exact .inl h1
  · exact .inr ⟨g, c, cur, hv, hb, hf.block g _ hg (fun cur' t fr' h => by cases h; exact he), rest⟩
/-- A row's block, and where it lies. -/
def Cur (E : List (Vl × Vl × Int)) (k : Nat) (cur : Int) : Prop := ∀ (j : Nat) (x v : Vl) (c : Int), E[j]? = some (x, v, c) → (j < k → c ≤ cur) ∧ (k ≤ j → cur < c)
theorem box_pair {w w' : World} {g : Nat} {p : Vl × Vl} (h : FrT w w') (hg : w.heap[g]? = some (pairB p)) : w'.heap[g]? = some (pairB p) := h.block _ _ hg (fun cur t fr h => by cases h; exact ⟨by decide, by decide, by decide⟩)
theorem box_val {w w' : World} {g : Nat} {e : Vl} (h : FrT w w') (hg : w.heap[g]? = some (valB e)) : w'.heap[g]? = some (valB e) := box_fr h hg
/-- What stands while a table is held against a model. -/
structure SM (B b sz us gk ck gv cv cap : Nat) (Bk Bv Bm : Nat) (ak av ad : Option Addr) (E : List (Vl × Vl × Int)) (last : Int) (w0 w : World) : Prop where
  t : IsTab B b w E last sz us
  s : St B w0 w
  k : Li.Own Bk ak ck w (E.map (·.1))
  v : Li.Own Bv av cv w (E.map (·.2.1))
  m : OwnM Bm ad cap w (prs E)
theorem sm_st {B b sz us gk ck gv cv cap Bk Bv Bm : Nat} {ak av ad : Option Addr} {E : List (Vl × Vl × Int)} {last : Int} {w0 w w' : World} (h : SM B b sz us gk ck gv cv cap Bk Bv Bm ak av ad E last w0 w) (ht : IsTab B b w' E last sz us) (hs : St B w w') : SM B b sz us gk ck gv cv cap Bk Bv Bm ak av ad E last w0 w' :=
  ⟨ht, st_trans h.s hs, row_fr ⟨by decide, by decide, by decide⟩ h.k hs.f, row_fr ⟨by decide, by decide, by decide⟩ h.v hs.f, row_fr ⟨by decide, by decide, by decide⟩ h.m hs.f⟩
theorem sm_below {B b sz us gk ck gv cv cap Bk Bv Bm : Nat} {ak av ad : Option Addr} {E : List (Vl × Vl × Int)} {last : Int} {w0 w w' : World} (h : SM B b sz us gk ck gv cv cap Bk Bv Bm ak av ad E last w0 w) (hb : Below w.heap.size w w') (hB : B ≤ w.heap.size) : SM B b sz us gk ck gv cv cap Bk Bv Bm ak av ad E last w0 w' :=
  sm_st h (isTab_below h.t hb) (st_below hb hB)
theorem threeB {w : World} {g : Nat} {e : Vl} (h : w.heap[g]? = some (valB e)) : w.cell? ⟨g, 0, none⟩ = some (.int .i64 e.1) ∧ w.cell? ⟨g, 1, none⟩ = some (.int .i64 e.2.1) ∧ w.cell? ⟨g, 2, none⟩ = some (.string e.2.2) := three h
theorem sixB {w : World} {g : Nat} {p : Vl × Vl} (h : w.heap[g]? = some (pairB p)) : w.cell? ⟨g, 0, none⟩ = some (.int .i64 p.1.1) ∧ w.cell? ⟨g, 1, none⟩ = some (.int .i64 p.1.2.1) ∧ w.cell? ⟨g, 2, none⟩ = some (.string p.1.2.2) ∧ w.cell? ⟨g, 3, none⟩ = some (.int .i64 p.2.1) ∧ w.cell? ⟨g, 4, none⟩ = some (.int .i64 p.2.2.1) ∧ w.cell? ⟨g, 5, none⟩ = some (.string p.2.2.2) := six h
set_option maxRecDepth 100000 in
set_option maxHeartbeats 8000000 in
theorem same_yes {B Bm b sz us cap : Nat} {ad : Option Addr} {E : List (Vl × Vl × Int)} {last : Int} (w : World) (hB : B ≤ w.heap.size) (hE : E.length ≤ 1000) (h : IsTab B b w E last sz us) (hm : OwnM Bm ad cap w (prs E)) :
    Calls Try.prog 14 #[.pointer (some ⟨b, 0, none⟩), .slice ad E.length cap] w fun e w' => e = .returned (.bool true) ∧ IsTab B b w' E last sz us ∧ St B w w' := by
  obtain ⟨hrise, hpos⟩ := isTab_rise h
  go_enter Try.func14, Try.ntmps14
  go_wp2_with fail
  refine (tlen_any _ h).mono ?_
  rintro e w1 ⟨rfl, rfl⟩
  go_wp2_with fail
  refine (keys_any _ h (by omega)).mono ?_
  rintro e w2 ⟨ak, ck, rfl, hok, hb2⟩
  have hT := isTab_below h hb2
  go_wp2_with fail
  refine (vals_any _ hT (by omega)).mono ?_
  rintro e w3 ⟨av, cv, rfl, hov, hb3⟩
  have HT := Lib.hid (isTab_below hT hb3)
  have HS := Lib.hid (st_trans (st_below hb2 hB) (st_below hb3 (Nat.le_trans hB hb2.size)))
  have HOK := Lib.hid (Li.own_below hok hb3)
  have HOV := Lib.hid hov
  have HOM := Lib.hid (ownM_below (ownM_below hm hb2) hb3)
  have HR := Lib.hid hrise
  have HP := Lib.hid hpos
  clear h hT hok hov hm hb2 hb3 hrise hpos
  go_wp2_with fail
  go_loopw [7, 8, 9, 10, 11, 12, 13, 14, 15, 35] (fun cu _ _ _ _ _ _ _ _ i wr => ∃ (k : Nat) (cur : Int), k ≤ E.length ∧ i = .int .i64 (k : Int) ∧ cu = .int .i64 cur ∧ Hid (Cur E k cur) ∧ Hid (SM B b sz us 0 ck 0 cv cap w.heap.size w2.heap.size Bm ak av ad E last w wr)) (fun _ _ _ _ _ _ _ _ _ i _ => E.length - (intOf i).toNat)
  case atStart => exact ⟨0, 0, by omega, rfl, rfl, fun j x v c hj => ⟨fun h => by omega, fun _ => HP.out j x v c hj⟩, ⟨HT.out, HS.out, HOK.out, HOV.out, HOM.out⟩⟩
  case round =>
    obtain ⟨k, cur, hk, rfl, rfl, HC, HM⟩ := hrel
    by_cases hlt : k < E.length
    · obtain ⟨⟨x, v, c⟩, he⟩ := get_some hlt
      have hp := prs_at he
      obtain ⟨gm, hgm, _, _⟩ := row_some HM.out.m (by rw [prs_len]; omega)
      subst hgm
      obtain ⟨gk, hgk, _, _⟩ := row_some HM.out.k (by simp; omega)
      subst hgk
      obtain ⟨gv, hgv, _, _⟩ := row_some HM.out.v (by simp; omega)
      subst hgv
      have hcur := HC.out k x v c he
      have hnc : ¬ c ≤ cur := by have := hcur.2 (Nat.le_refl _); omega
      have HCN : Hid (Cur E (k + 1) c) := fun j x' v' c' hj => ⟨fun h => by
        rcases Nat.lt_or_ge j k with h1 | h1
        · exact Int.le_of_lt (HR.out j k _ _ _ _ _ _ hj he h1)
        · have e1 : j = k := by omega
          subst e1; rw [he] at hj; cases hj; exact Int.le_refl _, fun h => HR.out k j _ _ _ _ _ _ he hj (by omega)⟩
      have hb1 := (Below.refl wr.heap.size wr).alloc (Nat.le_refl _) (pairB (x, v))
      have hm1 := heap_alloc_new wr (pairB (x, v))
      obtain ⟨r0, r1, r2, r3, r4, r5⟩ := ownM_at HM.out.m hp
      have hbs : B ≤ wr.heap.size := Nat.le_trans hB HM.out.s.b.size
      have HM1 := Lib.hid (sm_below HM.out hb1 hbs)
      have HX9 := Lib.hid hm1
      have HB1 := Lib.hid (Nat.le_trans hbs hb1.size)
      have HNX := Lib.hid (fun (W : World) (hW : B ≤ W.heap.size ∧ IsTab B b W E last sz us) => next_some (j := k) (cur := cur) (k := x) (v := v) (c := c) (B := B) (b := b) (sz := sz) (us := us) (E := E) (last := last) W hW.1 hW.2 he (hcur.2 (Nat.le_refl _)) (fun i _ _ _ hi hj => (HC.out i _ _ _ hj).1 hi))
      clear hb1 hm1 hcur HC hbs HM
      unfold pairB at HM1 HB1
      go_wp2_with fail
      refine (HNX.out _ ⟨HB1.out, HM1.out.t⟩).mono ?_
      rintro e w4 ⟨rfl, hT4, hst4⟩
      have hm4 := sm_st HM1.out hT4 hst4
      have hx9 := box_pair hst4.f HX9.out
      have hb4 := Nat.le_trans HB1.out hst4.b.size
      have hq := ((Below.refl w4.heap.size w4).alloc (Nat.le_refl _) (valB x)).alloc (by simp) (valB v)
      have hm5 := sm_below hm4 hq hb4
      have hx5 := box_pair (frT_below hq) hx9
      have hk5 : ((w4.alloc (valB x)).alloc (valB v)).heap[w4.heap.size]? = some (valB x) := (heap_alloc_old (w4.alloc (valB x)) (valB v) (show w4.heap.size < _ by simp)).trans (heap_alloc_new w4 (valB x))
      have hv5 : ((w4.alloc (valB x)).alloc (valB v)).heap[w4.heap.size + 1]? = some (valB v) := by
        have h := heap_alloc_new (w4.alloc (valB x)) (valB v)
        rw [World.size_alloc] at h; exact h
      have hb5 := Nat.le_trans hb4 hq.size
      clear r0 r1 r2 r3 r4 r5 HM1 HX9 HB1 HNX hT4 hst4 hm4 hx9 hb4
      obtain ⟨r0, r1, r2, r3, r4, r5⟩ := sixB hx5
      obtain ⟨k0, k1, k2⟩ := threeB hk5
      obtain ⟨v0, v1, v2⟩ := threeB hv5
      obtain ⟨a0, a1, a2⟩ := ownL_at hm5.k (i := k) (e := x) (by rw [List.getElem?_map, he]; rfl)
      obtain ⟨c0, c1, c2⟩ := ownL_at hm5.v (i := k) (e := v) (by rw [List.getElem?_map, he]; rfl)
      have HM5 := Lib.hid hm5
      have HB5 := Lib.hid hb5
      have HX5 := Lib.hid hx5
      have hkl : k < (E.map (·.1)).length := by simp; omega
      clear hm5 hb5 hx5 hk5 hv5 hq
      unfold valB at r0 r1 r2 r3 r4 r5 k0 k1 k2 v0 v1 v2 a0 a1 a2 c0 c1 c2
      go_wp2_with fail
      go_quiet (fail)
      have hd := below_drewN (Below.refl ((w4.alloc (valB x)).alloc (valB v)).heap.size ((w4.alloc (valB x)).alloc (valB v))) nq
      have hm6 := sm_below HM5.out hd HB5.out
      have hx6 := box_pair (frT_below hd) HX5.out
      have hb6 := Nat.le_trans HB5.out hd.size
      unfold valB at hm6 hx6 hb6
      clear k0 k1 k2 v0 v1 v2 a0 a1 a2 c0 c1 c2 r0 r1 r2 r3 r4 r5 HM5 HB5 HX5 hd
      generalize hW6 : (((w4.alloc (.cells #[.int .i64 x.1, .int .i64 x.2.1, .string x.2.2] 30)).alloc (.cells #[.int .i64 v.1, .int .i64 v.2.1, .string v.2.2] 30)).drewN nq) = W6 at *
      clear hW6
      obtain ⟨r0, r1, r2, r3, r4, r5⟩ := sixB hx6
      have HM6 := Lib.hid hm6
      have HB6 := Lib.hid hb6
      have HX6 := Lib.hid hx6
      clear hm6 hb6 hx6
      go_wp2_with fail
      refine (get_yes he _ HM6.out.t).mono ?_
      rintro e w7 ⟨rfl, hb7⟩
      have hq := hb7.alloc hb7.size (valB v)
      have hm8 := sm_below HM6.out hq HB6.out
      have hx8 := box_pair (frT_below hq) HX6.out
      have hb8 := Nat.le_trans HB6.out hq.size
      have hv8 := heap_alloc_new w7 (valB v)
      clear r0 r1 r2 r3 r4 r5 HM6 HB6 HX6 hq hb7
      obtain ⟨r0, r1, r2, r3, r4, r5⟩ := sixB hx8
      obtain ⟨v0, v1, v2⟩ := threeB hv8
      have HM8 := Lib.hid hm8
      have HB8 := Lib.hid hb8
      clear hm8 hb8 hx8 hv8
      unfold valB at HM8 HB8 r0 r1 r2 r3 r4 r5 v0 v1 v2
      go_wp2_with fail
      refine (has_yes he _ HM8.out.t).mono ?_
      rintro e w9 ⟨rfl, hb9⟩
      have HM9 := Lib.hid (sm_below HM8.out hb9 HB8.out)
      clear hb9 r0 r1 r2 r3 r4 r5 v0 v1 v2
      go_wp2_with fail
      go_roundw
      case rel => exact ⟨k + 1, c, by omega, by go_num, rfl, HCN.out, HM9.out⟩
      case measure => simp [intOf]; omega
    · obtain rfl : k = E.length := by omega
      have hbs : B ≤ wr.heap.size := Nat.le_trans hB HM.out.s.b.size
      have HNX := Lib.hid (next_none (cur := cur) wr hbs HM.out.t (fun j x v c hj => (HC.out j x v c hj).1 (by
        rcases Nat.lt_or_ge j E.length with h1 | h1
        · exact h1
        · rw [List.getElem?_eq_none h1] at hj; cases hj)))
      clear HC hbs
      go_wp2_with fail
      refine HNX.out.mono ?_
      rintro e w4 ⟨rfl, hT4, hst4⟩
      have hm4 := sm_st HM.out hT4 hst4
      have hq := ((Below.refl w4.heap.size w4).alloc (Nat.le_refl _) (valB (0, 0, ⟨#[]⟩))).alloc (by simp) (valB (0, 0, ⟨#[]⟩))
      have hm5 := sm_below hm4 hq (Nat.le_trans hB hm4.s.b.size)
      have hk5 : ((w4.alloc (valB (0, 0, ⟨#[]⟩))).alloc (valB (0, 0, ⟨#[]⟩))).heap[w4.heap.size]? = some (valB (0, 0, ⟨#[]⟩)) := (heap_alloc_old (w4.alloc (valB (0, 0, ⟨#[]⟩))) (valB (0, 0, ⟨#[]⟩)) (show w4.heap.size < _ by simp)).trans (heap_alloc_new w4 (valB (0, 0, ⟨#[]⟩)))
      have hv5 : ((w4.alloc (valB (0, 0, ⟨#[]⟩))).alloc (valB (0, 0, ⟨#[]⟩))).heap[w4.heap.size + 1]? = some (valB (0, 0, ⟨#[]⟩)) := by
        have h := heap_alloc_new (w4.alloc (valB (0, 0, ⟨#[]⟩))) (valB (0, 0, ⟨#[]⟩))
        rw [World.size_alloc] at h; exact h
      obtain ⟨k0, k1, k2⟩ := threeB hk5
      obtain ⟨v0, v1, v2⟩ := threeB hv5
      have HM5 := Lib.hid hm5
      clear hm5 hm4 hq hk5 hv5 hT4 hst4 HM HNX
      unfold valB at HM5 k0 k1 k2 v0 v1 v2
      go_wp2_with fail
      go_ret
      exact ⟨rfl, HM5.out.t, HM5.out.s⟩
end Go.Proofs.Ytipdjjgpcmbpdaa.Ta
