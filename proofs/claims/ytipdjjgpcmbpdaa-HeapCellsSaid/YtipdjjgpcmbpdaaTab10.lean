/- Contracts of what Next hands to sort.Search, and of that; of table.here. -/
import Derived.Test.YtipdjjgpcmbpdaaTab9
set_option linter.unusedVariables false
namespace Go.Proofs.Ytipdjjgpcmbpdaa.Ta
open Go.RowKit Go.ChangeShapes Go.WideShapes Go.ChangeAt Go.Proofs.Ytipdjjgpcmbpdaa.Va

set_option maxRecDepth 100000 in
set_option maxHeartbeats 1000000 in
theorem ask_any {B b cr cp n p2 p3 i : Nat} {ar ap : Option Addr} {R : List Rw} {P : List Int} {last cur : Int} {r : Rw} (hi : R[i]? = some r) (w : World) (h : Tab B b ar cr ap cp w R P n last) (h2 : w.cell? ⟨p2, 0, none⟩ = some (.pointer (some ⟨b, 0, none⟩))) (h3 : w.cell? ⟨p3, 0, none⟩ = some (.int .i64 cur)) :
    Calls Try.prog 59 #[.int .i64 (i : Int), .pointer (some ⟨p2, 0, none⟩), .pointer (some ⟨p3, 0, none⟩)] w fun x w' => x = .returned (.bool (decide (cur < r.c))) ∧ Below w.heap.size w w' := by
  obtain ⟨c0, c1, c2, c3, _, _, _, _⟩ := four_cells h.blk
  have hil := (List.getElem?_eq_some_iff.1 hi).1
  obtain ⟨gr, rfl, _, hgr⟩ := row_some h.r (by omega)
  obtain ⟨_, _, _, _, _, _, r6, _⟩ := ownR_at h.r hi
  have hi0 : (0 : Int) ≤ (i : Int) := by omega
  have hi1 : (i : Int) < (R.length : Int) := by omega
  clear h hi
  go_enter Try.func59, Try.ntmps59
  go_wp2_with fail
  go_quiet (fail)
  go_wp2_with fail
  go_ret
  exact ⟨rfl, below_drewN (Below.refl _ _) _⟩
/-- The first row behind a cursor. -/
def Behind (R : List Rw) (cur : Int) (s : Nat) : Prop := s ≤ R.length ∧ (∀ (i : Nat) (r : Rw), R[i]? = some r → i < s → r.c ≤ cur) ∧ (∀ (i : Nat) (r : Rw), R[i]? = some r → s ≤ i → cur < r.c)
set_option maxRecDepth 100000 in
set_option maxHeartbeats 4000000 in
theorem search_any {B b cr cp n p2 p3 : Nat} {ar ap : Option Addr} {R : List Rw} {P : List Int} {last cur : Int} (w : World) (h : Tab B b ar cr ap cp w R P n last) (h2 : w.cell? ⟨p2, 0, none⟩ = some (.pointer (some ⟨b, 0, none⟩))) (h3 : w.cell? ⟨p3, 0, none⟩ = some (.int .i64 cur)) (hp2 : p2 < w.heap.size) (hp3 : p3 < w.heap.size) :
    Calls Try.prog 58 #[.int .i64 (R.length : Int), .func (.func 59) #[] #[.pointer (some ⟨p2, 0, none⟩), .pointer (some ⟨p3, 0, none⟩)]] w fun x w' => ∃ s : Nat, x = .returned (.int .i64 (s : Int)) ∧ Behind R cur s ∧ Below w.heap.size w w' := by
  have HT := Lib.hid h
  have H2 := Lib.hid h2
  have H3 := Lib.hid h3
  have hlr := (plen h.g).2
  have HG := Lib.hid h.g
  clear h h2 h3
  go_enter Try.func58, Try.ntmps58
  go_wp2_with fail
  go_loopw [5, 6] (fun s t wr => ∃ (i j : Nat), i ≤ j ∧ j ≤ R.length ∧ s = .int .i64 (i : Int) ∧ t = .int .i64 (j : Int) ∧ Hid (∀ (x : Nat) (r : Rw), R[x]? = some r → x < i → r.c ≤ cur) ∧ Hid (∀ (x : Nat) (r : Rw), R[x]? = some r → j ≤ x → cur < r.c) ∧ Hid (Below w.heap.size w wr)) (fun s t _ => (intOf t).toNat - (intOf s).toNat)
  case atStart => exact ⟨0, R.length, by omega, by omega, rfl, rfl, fun x r hx h => by omega, fun x r hx h => by have := (List.getElem?_eq_some_iff.1 hx).1; omega, Below.refl _ _⟩
  case round =>
    obtain ⟨i, j, hij, hj, rfl, rfl, HI, HJ, HB⟩ := hrel
    by_cases hlt : i < j
    · obtain ⟨m, hm⟩ : ∃ m, m = (i + j) / 2 := ⟨_, rfl⟩
      have hm1 : i ≤ m := by omega
      have hm2 : m < j := by omega
      obtain ⟨r, hr⟩ := get_some (show m < R.length by omega)
      have HA := Lib.hid (ask_any hr wr (tab_below HT.out HB.out) (cell_below HB.out hp2 H2.out) (cell_below HB.out hp3 H3.out))
      have hlt' : (i : Int) < (j : Int) := by omega
      have hm' : ((i : Int) + (j : Int)) / 2 = (m : Int) := by omega
      clear hm
      by_cases hc : cur < r.c
      · rw [decide_eq_true hc] at HA
        have HJ2 : Hid (∀ (x : Nat) (q : Rw), R[x]? = some q → m ≤ x → cur < q.c) := fun x q hx h => by
          by_cases e : m = x
          · subst e; rw [hr] at hx; cases hx; exact hc
          · have := HG.out.rise m x r q hr hx (by omega); omega
        clear hc hr
        go_wp2_with fail
        refine HA.out.mono ?_
        rintro e w1 ⟨rfl, hb1⟩
        have HB1 := Lib.hid (HB.out.trans (hb1.mono HB.out.size))
        clear hb1
        go_wp2_with fail
        go_roundw
        case rel => exact ⟨i, m, hm1, by omega, rfl, rfl, HI, HJ2, HB1⟩
        case measure => simp [intOf]; omega
      · rw [decide_eq_false hc] at HA
        have HI2 : Hid (∀ (x : Nat) (q : Rw), R[x]? = some q → x < m + 1 → q.c ≤ cur) := fun x q hx h => by
          by_cases e : m = x
          · subst e; rw [hr] at hx; cases hx; omega
          · have := HG.out.rise x m q r hx hr (by omega); omega
        clear hc hr
        go_wp2_with fail
        refine HA.out.mono ?_
        rintro e w1 ⟨rfl, hb1⟩
        have HB1 := Lib.hid (HB.out.trans (hb1.mono HB.out.size))
        clear hb1
        go_wp2_with fail
        go_roundw
        case rel => exact ⟨m + 1, j, by omega, hj, by go_num, rfl, HI2, HJ, HB1⟩
        case measure => simp [intOf]; omega
    · obtain rfl : i = j := by omega
      have hnl : ¬ (i : Int) < (i : Int) := by omega
      go_wp2_with fail
      go_ret
      exact ⟨i, rfl, ⟨hj, fun x r hx h => HI.out x r hx h, fun x r hx h => HJ.out x r hx h⟩, HB.out⟩
/-- Where the first row with a key is, from one on. -/
def Here (R : List Rw) (s t : Nat) : Prop := s ≤ t ∧ t ≤ R.length ∧ (∀ (i : Nat) (r : Rw), R[i]? = some r → s ≤ i → i < t → r.k = nul) ∧ (∀ (r : Rw), R[t]? = some r → r.k ≠ nul)
/-- The same rows, but for what is told on the way. -/
def Alike (R S : List Rw) : Prop := S.length = R.length ∧ ∀ (i : Nat) (r : Rw), S[i]? = some r → ∃ q, R[i]? = some q ∧ q.k = r.k ∧ q.v = r.v ∧ q.c = r.c
/-- What here leaves. -/
def Hered (B b : Nat) (ar : Option Addr) (cr : Nat) (ap : Option Addr) (cp : Nat) (w : World) (R : List Rw) (P : List Int) (n : Nat) (last : Int) (t : Nat) (x : Ending) (w' : World) : Prop :=
  x = .returned (.int .i64 (t : Int)) ∧ ∃ S, Tab B b ar cr ap cp w' S P n last ∧ Alike R S ∧ ents S = ents R ∧ St B w w'
theorem here_least {R : List Rw} {s : Nat} (hs : s ≤ R.length) : ∃ t, Here R s t := by
  have : ∀ m s, R.length - s ≤ m → s ≤ R.length → ∃ t, Here R s t := by
    intro m
    induction m with
    | zero => intro s h1 h2; exact ⟨s, Nat.le_refl _, h2, fun i r hi a b => by omega, fun r hr => by have := (List.getElem?_eq_some_iff.1 hr).1; omega⟩
    | succ m ih =>
      intro s h1 h2
      by_cases h : s < R.length
      · obtain ⟨r, hr⟩ := get_some h
        by_cases hk : r.k = nul
        · obtain ⟨t, a, b, c, d⟩ := ih (s + 1) (by omega) (by omega)
          refine ⟨t, by omega, b, fun i q hi x y => ?_, d⟩
          by_cases e : s = i
          · subst e; rw [hr] at hi; cases hi; exact hk
          · exact c i q hi (by omega) y
        · exact ⟨s, Nat.le_refl _, h2, fun i r hi a b => by omega, fun q hq => by rw [hr] at hq; cases hq; exact hk⟩
      · exact ⟨s, Nat.le_refl _, h2, fun i r hi a b => by omega, fun r hr => by have := (List.getElem?_eq_some_iff.1 hr).1; omega⟩
  exact this (R.length - s) s (Nat.le_refl _) hs
theorem alike_refl (R : List Rw) : Alike R R := ⟨rfl, fun i r h => ⟨r, h, rfl, rfl, rfl⟩⟩
theorem alike_set {R S : List Rw} (h : Alike R S) {i : Nat} {r : Rw} (hi : S[i]? = some r) (x : Int) : Alike R (S.set i ⟨r.k, r.v, r.c, x⟩) := by
  refine ⟨by rw [List.length_set]; exact h.1, fun j q hj => ?_⟩
  rw [set_get] at hj
  by_cases e : i = j
  · subst e
    rw [if_pos rfl, if_pos (List.getElem?_eq_some_iff.1 hi).1] at hj
    cases hj
    exact h.2 i r hi
  · rw [if_neg e] at hj; exact h.2 j q hj
set_option maxRecDepth 100000 in
set_option maxHeartbeats 4000000 in
theorem here_any {B b cr cp n s t : Nat} {ar ap : Option Addr} {R : List Rw} {P : List Int} {last : Int} (ht : Here R s t) (w : World) (hB : B ≤ w.heap.size) (h : Tab B b ar cr ap cp w R P n last) :
    Calls Try.prog 57 #[.pointer (some ⟨b, 0, none⟩), .int .i64 (s : Int)] w (Hered B b ar cr ap cp w R P n last t) := by
  have HT := Lib.hid h
  have hlr := (plen h.g).2
  have HH := Lib.hid ht
  have hst := ht.1
  have htl := ht.2.1
  clear h ht
  go_enter Try.func57, Try.ntmps57
  go_wp2_with fail
  go_loopw [5] (fun s' wr => ∃ e : Nat, s ≤ e ∧ e ≤ t ∧ s' = .int .i64 (e : Int) ∧ Hid (Below w.heap.size w wr)) (fun s' _ => t - (intOf s').toNat)
  case atStart => exact ⟨s, Nat.le_refl _, hst, rfl, Below.refl _ _⟩
  case round =>
    obtain ⟨e, he1, he2, rfl, HB⟩ := hrel
    have hT := tab_below HT.out HB.out
    obtain ⟨c0, c1, c2, c3, _, _, _, _⟩ := four_cells hT.blk
    by_cases het : e < t
    · obtain ⟨r, hr⟩ := get_some (show e < R.length by omega)
      have hk : r.k = nul := HH.out.2.2.1 e r hr he1 het
      obtain ⟨gr, hgr, _, _⟩ := row_some hT.r (by omega)
      subst hgr
      obtain ⟨r0, r1, r2, _, _, _, _, r7⟩ := ownR_at hT.r hr
      obtain ⟨k1, k2, k3⟩ := HT.out.g.skip e r hr hk
      have hst2 : r.s ≤ t := by
        rcases Int.lt_or_le (t : Int) r.s with h | h
        · exfalso
          obtain ⟨q, hq⟩ := get_some (show t < R.length by omega)
          exact HH.out.2.2.2 q hq (k3 t q (by omega) h hq)
        · exact h
      obtain ⟨e2, he3⟩ : ∃ e2 : Nat, r.s = (e2 : Int) := ⟨r.s.toNat, by omega⟩
      rw [he3] at r7 k1 hst2
      have HN := Lib.hid fun w => none_any r.k w
      rw [decide_eq_true hk] at HN
      have hel : (e : Int) < (R.length : Int) := by omega
      have he0 : (0 : Int) ≤ (e : Int) := by omega
      have HRR := Lib.hid hr
      have HE3 := Lib.hid he3
      clear hk k3 hr he3
      go_wp2_with fail
      refine (HN.out _).mono ?_
      rintro x w1 ⟨rfl, hb1⟩
      have hz := HB.out.trans (hb1.mono HB.out.size)
      have hT1 := tab_below HT.out hz
      clear c0 c1 c2 c3 r0 r1 r2 r7
      obtain ⟨c0, c1, c2, c3, _, _, _, _⟩ := four_cells hT1.blk
      obtain ⟨_, _, _, _, _, _, _, r7⟩ := ownR_at hT1.r HRR.out
      rw [HE3.out] at r7
      have HZ := Lib.hid hz
      clear hz hT1 hb1 hT
      go_wp2_with fail
      go_roundw
      case rel => exact ⟨e2, by omega, by omega, rfl, HZ⟩
      case measure => simp [intOf]; omega
    · obtain rfl : e = t := by omega
      by_cases hl : e < R.length
      · obtain ⟨r, hr⟩ := get_some hl
        have hk : r.k ≠ nul := HH.out.2.2.2 r hr
        obtain ⟨gr, hgr, _, _⟩ := row_some hT.r (by omega)
        obtain ⟨r0, r1, r2, _, _, _, _, r7⟩ := ownR_at (by have := hT.r; rw [hgr] at this; exact this) hr
        have HGR := Lib.hid hgr
        have HN := Lib.hid fun w => none_any r.k w
        rw [decide_eq_false hk] at HN
        have hel : (e : Int) < (R.length : Int) := by omega
        have he0 : (0 : Int) ≤ (e : Int) := by omega
        rw [hgr] at c0
        clear hk hr hT hgr
        go_wp2_with fail
        refine (HN.out _).mono ?_
        rintro x w1 ⟨rfl, hb1⟩
        have HB1 := Lib.hid (HB.out.trans (hb1.mono HB.out.size))
        clear hb1 HB HN c0 c1 c2 c3 r0 r1 r2 r7
        go_wp2_with fail
        go_loopw [6] (fun s' wr => ∃ (a : Nat) (S : List Rw), s ≤ a ∧ a ≤ e ∧ s' = .int .i64 (a : Int) ∧ Hid (Tab B b ar cr ap cp wr S P n last) ∧ Hid (Alike R S) ∧ Hid (ents S = ents R) ∧ Hid (St B w wr)) (fun s' _ => e - (intOf s').toNat)
        case atStart => exact ⟨s, R, Nat.le_refl _, hst, rfl, tab_below HT.out HB1.out, alike_refl R, rfl, st_below HB1.out hB⟩
        case round =>
          obtain ⟨a, S, ha1, ha2, rfl, HTS, HAL, HEN, HST⟩ := hrel
          by_cases hae : a < e
          · have hSl := HAL.out.1
            obtain ⟨q, hq⟩ := get_some (show a < S.length by omega)
            obtain ⟨p, hp, hpk, _, _⟩ := HAL.out.2 a q hq
            have hqk : q.k = nul := by rw [← hpk]; exact HH.out.2.2.1 a p hp ha1 hae
            have hdead : ∀ (i : Nat) (r : Rw), a ≤ i → (i : Int) < (e : Int) → S[i]? = some r → r.k = nul := fun i r h1 h2 h3 => by
              obtain ⟨p2, hp2, hpk2, _, _⟩ := HAL.out.2 i r h3
              rw [← hpk2]; exact HH.out.2.2.1 i p2 hp2 (by omega) (by omega)
            obtain ⟨k1, k2, k3⟩ := HTS.out.g.skip a q hq hqk
            have hqe : q.s ≤ e := by
              rcases Int.lt_or_le (e : Int) q.s with h | h
              · exfalso
                obtain ⟨p2, hp2⟩ := get_some (show e < S.length by omega)
                have h1 := k3 e p2 (by omega) h hp2
                obtain ⟨p3, hp3, hpk3, _, _⟩ := HAL.out.2 e p2 hp2
                exact HH.out.2.2.2 p3 hp3 (by rw [hpk3]; exact h1)
              · exact h
            obtain ⟨a2, ha3⟩ : ∃ a2 : Nat, q.s = (a2 : Int) := ⟨q.s.toNat, by omega⟩
            obtain ⟨g1, hg1, _, hg1l⟩ := row_some HTS.out.r (by omega)
            have hG2 := good_val HTS.out.g hq (q := ⟨q.k, q.v, q.c, (e : Int)⟩) rfl rfl (fun _ => ⟨show (a : Int) < (e : Int) by omega, show (e : Int) ≤ (S.length : Int) by omega, hdead⟩)
            have hTS := HTS.out
            rw [hg1] at hTS
            have hM := tabM_set ⟨hTS.m, HST.out⟩ (j := 7) (x := .int .i64 (e : Int)) (q := ⟨q.k, q.v, q.c, (e : Int)⟩) hq (by omega) rfl
            have hMd := hM.1
            have HM2 : Hid (Tab B b ar cr ap cp (wr.setCell ⟨g1, a * 8 + 7, none⟩ (.int .i64 (e : Int))) (S.set a ⟨q.k, q.v, q.c, (e : Int)⟩) P n last) := by
              show Tab _ _ _ _ _ _ _ _ _ _ _
              rw [hg1]
              exact ⟨hMd.blk, hMd.low, hMd.r, hMd.p, hG2, by rw [ents_same (q := ⟨q.k, q.v, q.c, (e : Int)⟩) hq rfl rfl rfl]; exact hTS.cnt, set_ok hTS.ok (hTS.ok a q hq), hTS.bd⟩
            have HAL2 := Lib.hid (alike_set HAL.out hq (e : Int))
            have HEN2 : Hid (ents (S.set a ⟨q.k, q.v, q.c, (e : Int)⟩) = ents R) := (ents_same (q := ⟨q.k, q.v, q.c, (e : Int)⟩) hq rfl rfl rfl).trans HEN.out
            have HST2 := Lib.hid hM.2
            obtain ⟨c0, c1, c2, c3, _, _, _, _⟩ := four_cells hTS.blk
            obtain ⟨_, _, _, _, _, _, _, r7⟩ := ownR_at hTS.r hq
            have fz : wr.frozen? ⟨g1, a * 8 + 7, none⟩ = false := World.ownsRow.frozenAt hTS.r _
            rw [ha3] at r7 k1 hqe
            have ha0 : (0 : Int) ≤ (a : Int) := by omega
            have hal : (a : Int) < (S.length : Int) := by omega
            have hae' : (a : Int) < (e : Int) := by omega
            clear hTS hM hMd hG2 hdead k3 hp hpk hqk hq hSl ha3 hg1
            go_wp2_with fail
            go_roundw
            case rel => exact ⟨a2, S.set a ⟨q.k, q.v, q.c, (e : Int)⟩, by omega, by omega, rfl, HM2, HAL2, HEN2, HST2⟩
            case measure => simp [intOf]; omega
          · obtain rfl : a = e := by omega
            have HEND : Hid (Hered B b ar cr ap cp w R P n last a (.returned (.int .i64 (a : Int))) wr) := ⟨rfl, S, HTS.out, HAL.out, HEN.out, HST.out⟩
            have hnl : ¬ (a : Int) < (a : Int) := by omega
            clear HTS HAL
            go_wp2_with fail
            go_ret
            exact HEND.out
      · have hel : ¬ (e : Int) < (R.length : Int) := by omega
        clear hT
        go_wp2_with fail
        generalize wr = w1 at *
        have HB1 := HB
        clear HB c0 c1 c2 c3
        go_loopw [6] (fun s' wr => ∃ (a : Nat) (S : List Rw), s ≤ a ∧ a ≤ e ∧ s' = .int .i64 (a : Int) ∧ Hid (Tab B b ar cr ap cp wr S P n last) ∧ Hid (Alike R S) ∧ Hid (ents S = ents R) ∧ Hid (St B w wr)) (fun s' _ => e - (intOf s').toNat)
        case atStart => exact ⟨s, R, Nat.le_refl _, hst, rfl, tab_below HT.out HB1.out, alike_refl R, rfl, st_below HB1.out hB⟩
        case round =>
          obtain ⟨a, S, ha1, ha2, rfl, HTS, HAL, HEN, HST⟩ := hrel
          by_cases hae : a < e
          · have hSl := HAL.out.1
            obtain ⟨q, hq⟩ := get_some (show a < S.length by omega)
            obtain ⟨p, hp, hpk, _, _⟩ := HAL.out.2 a q hq
            have hqk : q.k = nul := by rw [← hpk]; exact HH.out.2.2.1 a p hp ha1 hae
            have hdead : ∀ (i : Nat) (r : Rw), a ≤ i → (i : Int) < (e : Int) → S[i]? = some r → r.k = nul := fun i r h1 h2 h3 => by
              obtain ⟨p2, hp2, hpk2, _, _⟩ := HAL.out.2 i r h3
              rw [← hpk2]; exact HH.out.2.2.1 i p2 hp2 (by omega) (by omega)
            obtain ⟨k1, k2, k3⟩ := HTS.out.g.skip a q hq hqk
            have hqe : q.s ≤ e := by
              rcases Int.lt_or_le (e : Int) q.s with h | h
              · exfalso
                obtain ⟨p2, hp2⟩ := get_some (show e < S.length by omega)
                have h1 := k3 e p2 (by omega) h hp2
                obtain ⟨p3, hp3, hpk3, _, _⟩ := HAL.out.2 e p2 hp2
                exact HH.out.2.2.2 p3 hp3 (by rw [hpk3]; exact h1)
              · exact h
            obtain ⟨a2, ha3⟩ : ∃ a2 : Nat, q.s = (a2 : Int) := ⟨q.s.toNat, by omega⟩
            obtain ⟨g1, hg1, _, hg1l⟩ := row_some HTS.out.r (by omega)
            have hG2 := good_val HTS.out.g hq (q := ⟨q.k, q.v, q.c, (e : Int)⟩) rfl rfl (fun _ => ⟨show (a : Int) < (e : Int) by omega, show (e : Int) ≤ (S.length : Int) by omega, hdead⟩)
            have hTS := HTS.out
            rw [hg1] at hTS
            have hM := tabM_set ⟨hTS.m, HST.out⟩ (j := 7) (x := .int .i64 (e : Int)) (q := ⟨q.k, q.v, q.c, (e : Int)⟩) hq (by omega) rfl
            have hMd := hM.1
            have HM2 : Hid (Tab B b ar cr ap cp (wr.setCell ⟨g1, a * 8 + 7, none⟩ (.int .i64 (e : Int))) (S.set a ⟨q.k, q.v, q.c, (e : Int)⟩) P n last) := by
              show Tab _ _ _ _ _ _ _ _ _ _ _
              rw [hg1]
              exact ⟨hMd.blk, hMd.low, hMd.r, hMd.p, hG2, by rw [ents_same (q := ⟨q.k, q.v, q.c, (e : Int)⟩) hq rfl rfl rfl]; exact hTS.cnt, set_ok hTS.ok (hTS.ok a q hq), hTS.bd⟩
            have HAL2 := Lib.hid (alike_set HAL.out hq (e : Int))
            have HEN2 : Hid (ents (S.set a ⟨q.k, q.v, q.c, (e : Int)⟩) = ents R) := (ents_same (q := ⟨q.k, q.v, q.c, (e : Int)⟩) hq rfl rfl rfl).trans HEN.out
            have HST2 := Lib.hid hM.2
            obtain ⟨c0, c1, c2, c3, _, _, _, _⟩ := four_cells hTS.blk
            obtain ⟨_, _, _, _, _, _, _, r7⟩ := ownR_at hTS.r hq
            have fz : wr.frozen? ⟨g1, a * 8 + 7, none⟩ = false := World.ownsRow.frozenAt hTS.r _
            rw [ha3] at r7 k1 hqe
            have ha0 : (0 : Int) ≤ (a : Int) := by omega
            have hal : (a : Int) < (S.length : Int) := by omega
            have hae' : (a : Int) < (e : Int) := by omega
            clear hTS hM hMd hG2 hdead k3 hp hpk hqk hq hSl ha3 hg1
            go_wp2_with fail
            go_roundw
            case rel => exact ⟨a2, S.set a ⟨q.k, q.v, q.c, (e : Int)⟩, by omega, by omega, rfl, HM2, HAL2, HEN2, HST2⟩
            case measure => simp [intOf]; omega
          · obtain rfl : a = e := by omega
            have HEND : Hid (Hered B b ar cr ap cp w R P n last a (.returned (.int .i64 (a : Int))) wr) := ⟨rfl, S, HTS.out, HAL.out, HEN.out, HST.out⟩
            have hnl : ¬ (a : Int) < (a : Int) := by omega
            clear HTS HAL
            go_wp2_with fail
            go_ret
            exact HEND.out
end Go.Proofs.Ytipdjjgpcmbpdaa.Ta
