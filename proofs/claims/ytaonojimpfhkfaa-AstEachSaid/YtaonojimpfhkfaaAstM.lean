/- alike, Same. -/
import Derived.Test.YtaonojimpfhkfaaAstL
import Derived.Deep.DeepCutAuto
namespace Go.Proofs.Ytaonojimpfhkfaa.As
open Go.RowKit Go.ChangeShapes Go.WideShapes Go.ChangeAt

def zipB (P : Int → Int → Bool) : List Int → List Int → Bool
  | x :: xs, y :: ys => P x y && zipB P xs ys
  | _, _ => true
/-- Do two nodes of trees say the same? -/
def alk (L M : List Nd) : Nat → Int → Int → Bool
  | 0, _, _ => false
  | f + 1, i, j =>
    if i = -1 ∨ j = -1 then decide (i = j)
    else match L[i.toNat]?, M[j.toNat]? with
      | some x, some y => decide (x.kind = y.kind) && (decide (x.text.toList = y.text.toList) && (decide (x.num = y.num) && (decide (x.kids.length = y.kids.length) && zipB (alk L M f) x.kids y.kids)))
      | _, _ => false
/-- Kids come ahead. -/
def Kin (L : List Nd) : Prop := ∀ (i : Nat) (n : Nd), L[i]? = some n → ∀ x ∈ n.kids, -1 ≤ x ∧ x < (i : Int)
theorem zipB_take {P : Int → Int → Bool} {L M : List Int} {k : Nat} {x y : Int} (h : L[k]? = some x) (h2 : M[k]? = some y) : zipB P (L.drop k) (M.drop k) = (P x y && zipB P (L.drop (k + 1)) (M.drop (k + 1))) := by
  rw [drop_get h, drop_get h2]; rfl
set_option maxRecDepth 100000 in
set_option maxHeartbeats 4000000 in
theorem eqf_any {B B2 ga gb c c2 : Nat} {A A2 : Option Addr} {w : World} {xs ys : List Int} (P : Int → Int → Bool) (hx : RowI w B A xs) (hy : RowI w B2 A2 ys) (hB : B ≤ w.heap.size) (hB2 : B2 ≤ w.heap.size) (hl : xs.length ≤ 1000000)
    (H : ∀ (W : World) (k : Nat) (x y : Int), Below w.heap.size w W → xs[k]? = some x → ys[k]? = some y → Calls Try.prog 48 #[.int .i64 x, .int .i64 y, .pointer (some ⟨ga, 0, none⟩), .pointer (some ⟨gb, 0, none⟩)] W fun e w' => e = .returned (.bool (P x y)) ∧ Below W.heap.size W w') :
    Calls Try.prog 47 #[.slice A xs.length c, .slice A2 ys.length c2, .func (.func 48) #[] #[.pointer (some ⟨ga, 0, none⟩), .pointer (some ⟨gb, 0, none⟩)]] w fun e w' => e = .returned (.bool (decide (xs.length = ys.length) && zipB P xs ys)) ∧ Below w.heap.size w w' := by
  have HX := Lib.hid hx
  have HY := Lib.hid hy
  have HB := Lib.hid hB
  have HB2 := Lib.hid hB2
  have HH := Lib.hid H
  have hxb : (xs.length : Int) ≤ 1000000 := by omega
  clear hx hy hB hB2 H
  by_cases hlen : xs.length = ys.length
  · have hb : ((xs.length : Int) != (ys.length : Int)) = false := by simp [hlen]
    have HE : Hid ((decide (xs.length = ys.length) && zipB P xs ys) = zipB P xs ys) := by show _ = _; rw [decide_eq_true hlen]; rfl
    have HLN := Lib.hid hlen
    generalize (decide (xs.length = ys.length) && zipB P xs ys) = R at *
    clear hlen
    go_enter Try.func47, Try.ntmps47
    go_wp2_with fail
    go_loopw [17] (fun i wr => ∃ k : Nat, k ≤ xs.length ∧ i = .int .i64 (k : Int) ∧ Hid (zipB P xs ys = zipB P (xs.drop k) (ys.drop k)) ∧ Hid (Below w.heap.size w wr)) (fun i _ => xs.length - (intOf i).toNat)
    case atStart => exact ⟨0, Nat.zero_le _, rfl, rfl, Below.refl _ _⟩
    case round =>
      obtain ⟨k, hk, rfl, HR, HZ⟩ := hrel
      by_cases hlt : k < xs.length
      · obtain ⟨x, hx⟩ := get_some hlt
        obtain ⟨y, hy⟩ := get_some (show k < ys.length by have := HLN.out; omega)
        obtain ⟨g, o, rfl, _, hcx⟩ := (HX.out.keep (w' := wr) (Nat.le_refl _) fun b hb => HZ.out.block b (by have := HB.out; omega)).at_ hx
        obtain ⟨g2, o2, rfl, _, hcy⟩ := (HY.out.keep (w' := wr) (Nat.le_refl _) fun b hb => HZ.out.block b (by have := HB2.out; omega)).at_ hy
        have HC := Lib.hid (HH.out wr k x y HZ.out hx hy)
        have HD := Lib.hid (zipB_take (P := P) hx hy)
        have hkl : (k : Int) < (xs.length : Int) := by omega
        have hkl2 : (k : Int) < (ys.length : Int) := by have := HLN.out; omega
        clear hx hy
        generalize P x y = b at *
        cases b
        · go_wp2_with fail
          refine HC.out.mono ?_
          rintro e w' ⟨rfl, hb1⟩
          have HZ1 := Lib.hid (HZ.out.trans (hb1.mono HZ.out.size))
          clear hb1
          go_wp2_with fail
          go_ret
          exact ⟨ret_b (by rw [HE.out, HR.out, HD.out]; rfl), HZ1.out⟩
        · go_wp2_with fail
          refine HC.out.mono ?_
          rintro e w' ⟨rfl, hb1⟩
          have HZ1 := Lib.hid (HZ.out.trans (hb1.mono HZ.out.size))
          clear hb1
          go_wp2_with fail
          go_roundw
          case rel => exact ⟨k + 1, by omega, by go_num, by show _ = _; rw [HR.out, HD.out]; rfl, HZ1.out⟩
          case measure => simp [intOf]; omega
      · go_wp2_with fail
        go_ret
        exact ⟨ret_b (by rw [HE.out, HR.out, List.drop_eq_nil_of_le (by omega)]; simp [zipB]), HZ.out⟩
  · have hb : ((xs.length : Int) != (ys.length : Int)) = true := by simp; omega
    have HE : Hid (false = (decide (xs.length = ys.length) && zipB P xs ys)) := by show _ = _; rw [decide_eq_false hlen]; rfl
    clear hlen
    go_enter Try.func47, Try.ntmps47
    go_wp2_with fail
    go_ret
    exact ⟨ret_b HE.out, Below.refl _ _⟩
set_option maxRecDepth 100000 in
theorem alike1_any {A A2 : Option Addr} {ca cb n m ga gb : Nat} {w : World} {x y : Int} {b : Bool} (ha : w.heap[ga]? = some (.cells #[.slice A n ca] 24 (0, 0))) (hb : w.heap[gb]? = some (.cells #[.slice A2 m cb] 24 (0, 0)))
    (H : Calls Try.prog 37 #[.agg #[.slice A n ca], .int .i64 x, .agg #[.slice A2 m cb], .int .i64 y] w fun e w' => e = .returned (.bool b) ∧ Below w.heap.size w w') :
    Calls Try.prog 48 #[.int .i64 x, .int .i64 y, .pointer (some ⟨ga, 0, none⟩), .pointer (some ⟨gb, 0, none⟩)] w fun e w' => e = .returned (.bool b) ∧ Below w.heap.size w w' := by
  have c0 := cell_of_one ha
  have c1 := cell_of_one hb
  have HH := Lib.hid H
  clear ha hb H
  go_enter Try.func48, Try.ntmps48
  go_wp2_with fail
  refine HH.out.mono ?_
  rintro e w' ⟨rfl, hb⟩
  have HB := Lib.hid hb
  clear hb
  go_wp2_with fail
  go_ret
  exact ⟨rfl, HB.out⟩
theorem alk_some {L M : List Nd} {f a b : Nat} {x y : Nd} (hx : L[a]? = some x) (hy : M[b]? = some y) : alk L M (f + 1) (a : Int) (b : Int) = (decide (x.kind = y.kind) && (decide (x.text.toList = y.text.toList) && (decide (x.num = y.num) && (decide (x.kids.length = y.kids.length) && zipB (alk L M f) x.kids y.kids)))) := by
  rw [alk, if_neg (by omega), Int.toNat_natCast, Int.toNat_natCast, hx, hy]
set_option maxRecDepth 100000 in
set_option maxHeartbeats 8000000 in
theorem alike_any {A A2 : Option Addr} {ca cb : Nat} {L M : List Nd} (kL : Kin L) (kM : Kin M) (sL : Szd L) (f : Nat) :
    ∀ (i j : Int) (w : World), Tr w w.heap.size A L → Tr w w.heap.size A2 M → -1 ≤ i → i < (L.length : Int) → -1 ≤ j → j < (M.length : Int) → i + 2 ≤ (f : Int) →
    Calls Try.prog 37 #[.agg #[.slice A L.length ca], .int .i64 i, .agg #[.slice A2 M.length cb], .int .i64 j] w fun e w' => e = .returned (.bool (alk L M f i j)) ∧ Below w.heap.size w w' := by
  induction f with
  | zero => intro i j w _ _ h1 _ _ _ h2; omega
  | succ f ih =>
    intro i j w hA hA2 hi0 hi1 hj0 hj1 hf
    generalize hR : alk L M (f + 1) i j = R
    have HR := Lib.hid hR
    clear hR
    by_cases hn : i = -1 ∨ j = -1
    · have HE : Hid (decide (i = j) = R) := by show _ = _; rw [← HR.out, alk, if_pos hn]
      have HZ := Lib.hid (bel2 w (.cells #[.slice A L.length ca] 24) (.cells #[.slice A2 M.length cb] 24))
      have hg : (i == -1) = true ∨ ((i == -1) = false ∧ (j == -1) = true) := by
        by_cases h : i = -1
        · left; simp [h]
        · right; exact ⟨by simpa using h, by rcases hn with hn | hn; exact absurd hn h; simp [hn]⟩
      have hq : (i == j) = R := by rw [← HE.out]; by_cases h : i = j <;> simp [h]
      have HQ := Lib.hid hq
      clear hA hA2 hn hq ih
      rcases hg with h1 | ⟨h1, h2⟩
      all_goals
        go_enter Try.func37, Try.ntmps37
        go_wp2_with fail
        go_ret
        exact ⟨ret_b HQ.out, HZ.out⟩
    · obtain ⟨a, rfl⟩ : ∃ a : Nat, i = (a : Int) := ⟨i.toNat, by omega⟩
      obtain ⟨b, rfl⟩ : ∃ b : Nat, j = (b : Int) := ⟨j.toNat, by omega⟩
      obtain ⟨x, hx⟩ := get_some (show a < L.length by omega)
      obtain ⟨y, hy⟩ := get_some (show b < M.length by omega)
      have hz := bel2 w (.cells #[.slice A L.length ca] 24) (.cells #[.slice A2 M.length cb] 24)
      have hn1 : ((w.alloc (.cells #[.slice A L.length ca] 24)).alloc (.cells #[.slice A2 M.length cb] 24)).heap[w.heap.size]? = some (.cells #[.slice A L.length ca] 24) := (heap_alloc_old _ _ (by simp)).trans (new1 w _)
      have hn2 := new2 w (.cells #[.slice A L.length ca] 24) (.cells #[.slice A2 M.length cb] 24)
      have HZ := Lib.hid hz
      have HN1 := Lib.hid hn1
      have HN2 := Lib.hid hn2
      have HA := Lib.hid hA
      have HA2 := Lib.hid hA2
      have HX := Lib.hid hx
      have HY := Lib.hid hy
      have HIH := Lib.hid ih
      have HF := Lib.hid hf
      have hab : ((a : Int) == -1) = false := by simp
      have hbb : ((b : Int) == -1) = false := by simp
      have haL : (a : Int) < (L.length : Int) := hi1
      have hbM : (b : Int) < (M.length : Int) := hj1
      have hrx := hA.at_ hx
      have hry := hA2.at_ hy
      have HRX := Lib.hid hrx
      have HRY := Lib.hid hry
      clear hz hn1 hn2 hA hA2 hx hy ih hf hn hi0 hi1 hj0 hj1 hrx hry
      go_enter Try.func37, Try.ntmps37
      go_upto_region 3 with fail
      obtain ⟨g1, o1, he1, hg1, hat1⟩ := HRX.out
      obtain ⟨g2, o2, he2, hg2, hat2⟩ := HRY.out
      subst he1 he2
      have HAT1 := Lib.hid (hat1.keep hg1 (Nat.le_refl _) fun b hb => HZ.out.block b hb)
      have HAT2 := Lib.hid (hat2.keep hg2 (Nat.le_refl _) fun b hb => HZ.out.block b hb)
      generalize hW0 : (w.alloc (.cells #[.slice (some ⟨g1, o1, none⟩) L.length ca] 24)).alloc (.cells #[.slice (some ⟨g2, o2, none⟩) M.length cb] 24) = W0 at *
      have HWS : Hid (w.heap.size + 2 = W0.heap.size) := by show _ = _; rw [← hW0]; simp
      clear hat1 hat2 HRX HRY hW0
      go_cut [9, 10] (fun s9 s10 wx => ∃ p1 p2 : Nat, s9 = .pointer (some ⟨p1, 0, none⟩) ∧ s10 = .pointer (some ⟨p2, 0, none⟩) ∧ Hid (wx.heap[p1]? = some (.cells #[.int .i64 x.kind, .int .i64 x.loc, .string x.text, .int .i64 x.num, .slice x.ka x.kids.length x.kc] 37)) ∧ Hid (wx.heap[p2]? = some (.cells #[.int .i64 y.kind, .int .i64 y.loc, .string y.text, .int .i64 y.num, .slice y.ka y.kids.length y.kc] 37)) ∧ Hid (Below W0.heap.size W0 wx))
      case first =>
        have f1 := cell_of_one HN1.out
        have f2 := cell_of_one HN2.out
        have hlt1 : w.heap.size < W0.heap.size := by have := HWS.out; omega
        have hlt2 : w.heap.size + 1 < W0.heap.size := by have := HWS.out; omega
        have hl1 : g1 < W0.heap.size := by have := HWS.out; omega
        have hl2 : g2 < W0.heap.size := by have := HWS.out; omega
        have b1 : ∀ o : Obj, Below W0.heap.size W0 (W0.alloc o) := fun o => bel1 W0 o
        have b2 : ∀ o o' : Obj, Below W0.heap.size W0 ((W0.alloc o).alloc o') := fun o o' => bel2 W0 o o'
        have HK : Hid (∀ w', Below W0.heap.size W0 w' → w'.cell? ⟨w.heap.size, 0, none⟩ = some (.slice (some ⟨g1, o1, none⟩) L.length ca) ∧ w'.cell? ⟨w.heap.size + 1, 0, none⟩ = some (.slice (some ⟨g2, o2, none⟩) M.length cb) ∧ w'.cell? ⟨g1, o1 + a * 5, none⟩ = some (.int .i64 x.kind) ∧ w'.cell? ⟨g1, o1 + a * 5 + 1, none⟩ = some (.int .i64 x.loc) ∧ w'.cell? ⟨g1, o1 + a * 5 + 2, none⟩ = some (.string x.text) ∧ w'.cell? ⟨g1, o1 + a * 5 + 3, none⟩ = some (.int .i64 x.num) ∧ w'.cell? ⟨g1, o1 + a * 5 + 4, none⟩ = some (.slice x.ka x.kids.length x.kc) ∧ w'.cell? ⟨g2, o2 + b * 5, none⟩ = some (.int .i64 y.kind) ∧ w'.cell? ⟨g2, o2 + b * 5 + 1, none⟩ = some (.int .i64 y.loc) ∧ w'.cell? ⟨g2, o2 + b * 5 + 2, none⟩ = some (.string y.text) ∧ w'.cell? ⟨g2, o2 + b * 5 + 3, none⟩ = some (.int .i64 y.num) ∧ w'.cell? ⟨g2, o2 + b * 5 + 4, none⟩ = some (.slice y.ka y.kids.length y.kc)) := fun w' hw => by
          have u1 := HAT1.out.keep (w' := w') (B' := W0.heap.size) (by omega) (by omega) fun b hb => hw.block b (by omega)
          have u2 := HAT2.out.keep (w' := w') (B' := W0.heap.size) (by omega) (by omega) fun b hb => hw.block b (by omega)
          exact ⟨(World.cell?_of_block (a := ⟨w.heap.size, 0, none⟩) (hw.block _ hlt1)).trans f1, (World.cell?_of_block (a := ⟨w.heap.size + 1, 0, none⟩) (hw.block _ hlt2)).trans f2, u1.k, u1.l, u1.t, u1.m, u1.s, u2.k, u2.l, u2.t, u2.m, u2.s⟩
        obtain ⟨_, _, x0, x1, x2, x3, x4, y0, y1, y2, y3, y4⟩ := HK.out W0 (Below.refl _ _)
        go_region_held3 (fun w' => w'.cell? ⟨w.heap.size, 0, none⟩ = some (.slice (some ⟨g1, o1, none⟩) L.length ca) ∧ w'.cell? ⟨w.heap.size + 1, 0, none⟩ = some (.slice (some ⟨g2, o2, none⟩) M.length cb) ∧ w'.cell? ⟨g1, o1 + a * 5, none⟩ = some (.int .i64 x.kind) ∧ w'.cell? ⟨g1, o1 + a * 5 + 1, none⟩ = some (.int .i64 x.loc) ∧ w'.cell? ⟨g1, o1 + a * 5 + 2, none⟩ = some (.string x.text) ∧ w'.cell? ⟨g1, o1 + a * 5 + 3, none⟩ = some (.int .i64 x.num) ∧ w'.cell? ⟨g1, o1 + a * 5 + 4, none⟩ = some (.slice x.ka x.kids.length x.kc) ∧ w'.cell? ⟨g2, o2 + b * 5, none⟩ = some (.int .i64 y.kind) ∧ w'.cell? ⟨g2, o2 + b * 5 + 1, none⟩ = some (.int .i64 y.loc) ∧ w'.cell? ⟨g2, o2 + b * 5 + 2, none⟩ = some (.string y.text) ∧ w'.cell? ⟨g2, o2 + b * 5 + 3, none⟩ = some (.int .i64 y.num) ∧ w'.cell? ⟨g2, o2 + b * 5 + 4, none⟩ = some (.slice y.ka y.kids.length y.kc)) (with_reducible (first | exact HK.out _ (Below.refl _ _) | exact HK.out _ (Below.refl _ _).drew | exact HK.out _ (b1 _) | exact HK.out _ (b1 _).drew | exact HK.out _ (b2 _ _) | exact HK.out _ (b2 _ _).drew)) (fail)
        · go_wp2_with fail
          go_meet
          case rel => exact ⟨W0.heap.size, W0.heap.size + 1, rfl, rfl, (heap_alloc_old _ _ (by simp)).trans (new1 W0 _), new2 W0 _ _, (b2 _ _).drew⟩
        · go_wp2_with fail
          go_meet
          case rel => exact ⟨W0.heap.size + 1, W0.heap.size, rfl, rfl, new2 W0 _ _, (heap_alloc_old _ _ (by simp)).trans (new1 W0 _), (b2 _ _).drew⟩
      case rest =>
        obtain ⟨p1, p2, rfl, rfl, HP1, HP2, HZC⟩ := hcut
        obtain ⟨⟨x0, x1, x2, x3, x4⟩, _⟩ := five_facts HP1.out
        obtain ⟨⟨y0, y1, y2, y3, y4⟩, _⟩ := five_facts HP2.out
        have HE := Lib.hid ((alk_some (f := f) HX.out HY.out).symm.trans HR.out)
        have HZ9 := Lib.hid (HZ.out.trans (HZC.out.mono HZ.out.size))
        have HEQ : Hid (Calls Try.prog 47 #[.slice x.ka x.kids.length x.kc, .slice y.ka y.kids.length y.kc, .func (.func 48) #[] #[.pointer (some ⟨w.heap.size, 0, none⟩), .pointer (some ⟨w.heap.size + 1, 0, none⟩)]] wc fun e w' => e = .returned (.bool (decide (x.kids.length = y.kids.length) && zipB (alk L M f) x.kids y.kids)) ∧ Below wc.heap.size wc w') :=
          eqf_any (alk L M f) (HAT1.out.r.keep (Nat.le_refl _) fun b hb => HZC.out.block b (by have := HWS.out; omega)) (HAT2.out.r.keep (Nat.le_refl _) fun b hb => HZC.out.block b (by have := HWS.out; omega)) (by have := HZC.out.size; have := HWS.out; omega) (by have := HZC.out.size; have := HWS.out; omega) (sL.2 x (List.mem_of_getElem? HX.out)).2.1 (fun W k p q hW hp hq => by
            have hpin := kL a x HX.out p (List.mem_of_getElem? hp)
            have hqin := kM b y HY.out q (List.mem_of_getElem? hq)
            have hWW : Below w.heap.size w W := HZ9.out.trans (hW.mono HZ9.out.size)
            have e1 := HZC.out.trans (hW.mono HZC.out.size)
            have n1 : W.heap[w.heap.size]? = _ := (e1.block _ (by have := HWS.out; omega)).trans HN1.out
            have n2 : W.heap[w.heap.size + 1]? = _ := (e1.block _ (by have := HWS.out; omega)).trans HN2.out
            exact alike1_any n1 n2 (HIH.out p q W (HA.out.keep hWW.size fun b hb => hWW.block b hb) (HA2.out.keep hWW.size fun b hb => hWW.block b hb) hpin.1 (by omega) hqin.1 (by omega) (by have := HF.out; omega)))
        clear HIH HA HA2 HAT1 HAT2 HX HY HR
        generalize (decide (x.kids.length = y.kids.length) && zipB (alk L M f) x.kids y.kids) = Z at *
        by_cases h1 : x.kind = y.kind
        · have b1 : (x.kind == y.kind) = true := by simpa using h1
          by_cases h2 : x.text.toList = y.text.toList
          · have b2 : (x.text.toList == y.text.toList) = true := by simpa using h2
            by_cases h3 : x.num = y.num
            · have b3 : (x.num == y.num) = true := by simpa using h3
              have HR2 : Hid (Z = R) := by show _ = _; rw [← HE.out, decide_eq_true h1, decide_eq_true h2, decide_eq_true h3]; rfl
              clear h1 h2 h3 HE
              go_wp2_with fail
              refine HEQ.out.mono ?_
              rintro e w' ⟨rfl, hb⟩
              have HBB := Lib.hid (HZ9.out.trans (hb.mono HZ9.out.size))
              clear hb
              go_wp2_with fail
              go_ret
              exact ⟨ret_b HR2.out, HBB.out⟩
            · have b3 : (x.num == y.num) = false := by simpa using h3
              have HR2 : Hid (false = R) := by show _ = _; rw [← HE.out, decide_eq_false h3]; simp
              clear h1 h2 h3 HE
              go_wp2_with fail
              go_ret
              exact ⟨ret_b HR2.out, HZ9.out⟩
          · have b2 : (x.text.toList == y.text.toList) = false := by simpa using h2
            have HR2 : Hid (false = R) := by show _ = _; rw [← HE.out, decide_eq_false h2]; simp
            clear h1 h2 HE
            go_wp2_with fail
            go_ret
            exact ⟨ret_b HR2.out, HZ9.out⟩
        · have b1 : (x.kind == y.kind) = false := by simpa using h1
          have HR2 : Hid (false = R) := by show _ = _; rw [← HE.out, decide_eq_false h1]; simp
          clear h1 HE
          go_wp2_with fail
          go_ret
          exact ⟨ret_b HR2.out, HZ9.out⟩
end Go.Proofs.Ytaonojimpfhkfaa.As
