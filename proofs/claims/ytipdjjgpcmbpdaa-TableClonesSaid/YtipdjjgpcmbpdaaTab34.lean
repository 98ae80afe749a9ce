/- TableClones: the walk. -/
import Derived.Test.YtipdjjgpcmbpdaaTab33
import Derived.Test.YtipdjjgpcmbpdaaTab30
set_option linter.unusedVariables false
namespace Go.Proofs.Ytipdjjgpcmbpdaa.Ta
open Go.RowKit Go.ChangeShapes Go.WideShapes Go.ChangeAt Go.Proofs.Ytipdjjgpcmbpdaa.Va

theorem clone_any {B b sz us : Nat} {E : List (Vl × Vl × Int)} {last : Int} (w : World) (h : IsTab B b w E last sz us) (hE : E.length ≤ 1000000) :
    Calls Try.prog 19 #[.pointer (some ⟨b, 0, none⟩)] w fun e W' => ∃ c, e = .returned (.pointer (some ⟨c, 0, none⟩)) ∧ (∃ E2 last2 sz us, IsTab w.heap.size c W' E2 last2 sz us ∧ prs E2 = prs E ∧ last2 ≤ E.length) ∧ Below w.heap.size w W' := by
  obtain ⟨ar, cr, ap, cp, R, P, n, hT, rfl, _, _⟩ := h
  exact clone_tab w hT hE
theorem tcells_any {B b sz us : Nat} {E : List (Vl × Vl × Int)} {last : Int} (w : World) (h : IsTab B b w E last sz us) (hE : E.length ≤ 1000000) :
    Calls Try.prog 20 #[.pointer (some ⟨b, 0, none⟩)] w fun e W' => ∃ ad cap, e = .returned (.slice ad ((celK (prs E)).length + (celV (prs E)).length) cap) ∧ Below w.heap.size w W' := by
  obtain ⟨ar, cr, ap, cp, R, P, n, hT, rfl, _, _⟩ := h
  exact cells_tab w hT hE
theorem tcells_len {B b sz us q : Nat} {E : List (Vl × Vl × Int)} {last : Int} (hq : q = (celK (prs E)).length + (celV (prs E)).length) (w : World) (h : IsTab B b w E last sz us) (hE : E.length ≤ 1000000) :
    Calls Try.prog 20 #[.pointer (some ⟨b, 0, none⟩)] w fun e W' => ∃ ad cap, e = .returned (.slice ad q cap) ∧ Below w.heap.size w W' := by
  subst hq; exact tcells_any w h hE
theorem take_next {L : List (Vl × Vl)} {k : Nat} {p : Vl × Vl} (h : L[k]? = some p) : (celK (L.take (k + 1))).length = (celK (L.take k)).length + (if p.1.1 = 4 then 1 else 0) ∧ (celV (L.take (k + 1))).length = (celV (L.take k)).length + (if p.2.1 = 4 then 1 else 0) := by
  obtain ⟨h1, h2⟩ := List.getElem?_eq_some_iff.1 h
  rw [List.take_succ_eq_append_getElem h1, h2, celK_snoc, celV_snoc, List.length_append, List.length_append]
  unfold cel1
  refine ⟨?_, ?_⟩ <;> (split <;> rfl)
theorem same_len {B Bm b sz us cap n : Nat} {ad : Option Addr} {E : List (Vl × Vl × Int)} {last : Int} (hn : E.length = n) (w : World) (hB : B ≤ w.heap.size) (hE : n ≤ 1000) (h : IsTab B b w E last sz us) (hm : OwnM Bm ad cap w (prs E)) :
    Calls Try.prog 14 #[.pointer (some ⟨b, 0, none⟩), .slice ad n cap] w fun e w' => e = .returned (.bool true) ∧ IsTab B b w' E last sz us ∧ St B w w' := by
  subst hn; exact same_yes w hB hE h hm
theorem do_len {B Bm b sz us cap n : Nat} {ad : Option Addr} {E : List (Vl × Vl × Int)} {last : Int} (hn : E.length = n) (kd : Int) (k v : Vl) (hk : Ok1 k v) (w : World) (hB : B ≤ w.heap.size) (hBm : Hid (Bm ≤ B)) (hE : n ≤ 1000) (hl : last + 1 < 4611686018427387904) (h : IsTab B b w E last sz us) (hm : OwnM Bm ad cap w (prs E)) :
    ∃ E' last', Does kd k v E last E' last' ∧ Calls Try.prog 13 #[.pointer (some ⟨b, 0, none⟩), .slice ad n cap, opV kd k v] w (Did B Bm b w E' last') := by
  subst hn; exact do_any kd k v hk w hB hBm hE hl h hm
theorem lit_inO {w : World} {g : Nat} {kd : Int} {k v : Vl} (h : w.heap[g]? = some (opB kd k v)) : InO (some ⟨g, 0, none⟩) w [(kd, k, v)] := by
  refine Or.inr ⟨g, 0, rfl, lt_of_block h, fun i kd' k' v' hi => ?_⟩
  match i, hi with
  | 0, hi => simp at hi; obtain ⟨rfl, rfl, rfl⟩ := hi; simpa using seven h
  | i + 1, hi => simp at hi
set_option maxRecDepth 100000 in
set_option maxHeartbeats 4000000 in
theorem tableClones_walk (ad : Option Addr) (cap : Nat) (L : List (Int × Vl × Vl)) (hL : L.length ≤ maxLen) (kd : Int) (k v : Vl) (w : World) (h : InO ad w L) :
    Calls Try.prog 5 #[.slice ad L.length cap, opV kd k v] w fun e w' => e = .returned (.bool true) ∧ Below w.heap.size w w' := by
  have HL := Lib.hid hL
  have hq0 := (Below.refl w.heap.size w).alloc (Nat.le_refl _) (opB kd k v)
  have ho0 := heap_alloc_new w (opB kd k v)
  have HI0 := Lib.hid (inO_below (B := 0) h hq0)
  have HQ0 := Lib.hid hq0
  have HO0 := Lib.hid ho0
  clear hL h hq0 ho0
  unfold opB at HI0 HQ0 HO0
  unfold opV
  go_enter Try.func5, Try.ntmps5
  go_wp2_with fail
  refine (keeps_any _).mono ?_
  rintro e w1 ⟨rfl, hb1⟩
  go_wp2_with fail
  refine (right_any L _ (inO_below (B := 0) HI0.out hb1) HL.out).mono ?_
  rintro e w2 ⟨r, rfl, hr, hb2⟩
  have hz2 := HQ0.out.trans ((hb1.trans (hb2.mono hb1.size)).mono HQ0.out.size)
  cases r with
  | false =>
    go_wp2_with fail
    go_ret
    exact ⟨rfl, hz2⟩
  | true =>
    obtain ⟨hr1, hr2⟩ := hr rfl
    have hi2 := inO_below (B := 0) (inO_below (B := 0) HI0.out hb1) hb2
    have ho2 : w2.heap[w.heap.size]? = some (opB kd k v) := (hb2.block _ (lt_of_block ((hb1.block _ (lt_of_block HO0.out)).trans HO0.out))).trans ((hb1.block _ (lt_of_block HO0.out)).trans HO0.out)
    have hq3 := (Below.refl w2.heap.size w2).alloc (Nat.le_refl _) (opB kd k v)
    have hl3 := lit_inO (heap_alloc_new w2 (opB kd k v))
    have ho3 := (hq3.block _ (lt_of_block ho2)).trans ho2
    have HI3 := Lib.hid (inO_below (B := 0) hi2 hq3)
    have HL3 := Lib.hid hl3
    have HO3 := Lib.hid ho3
    have HZ3 := Lib.hid (hz2.trans (hq3.mono hz2.size))
    have HR1 := Lib.hid hr1
    obtain ⟨d0, d1, d2, d3, d4, d5, d6⟩ := seven ho2
    clear hr hr1 HL hb1 hb2 hz2 hi2 ho2 hq3 hl3 ho3 HI0 HQ0 HO0
    unfold opB at HI3 HL3 HO3 HZ3
    go_wp2_with fail
    refine (right_any [(kd, k, v)] _ HL3.out (by simp [maxLen])).mono ?_
    rintro e w3 ⟨r, rfl, hr, hb3⟩
    have hz3 := HZ3.out.trans (hb3.mono HZ3.out.size)
    cases r with
    | false =>
      go_wp2_with fail
      go_ret
      exact ⟨rfl, hz3⟩
    | true =>
      have hk0 := (hr rfl).1 0 kd k v rfl
      have HK0 := Lib.hid hk0
      have HI := Lib.hid (inO_below (B := 0) HI3.out hb3)
      have HO := Lib.hid (show w3.heap[w.heap.size]? = some (opB kd k v) from (hb3.block _ (lt_of_block HO3.out)).trans HO3.out)
      have HZ := Lib.hid hz3
      clear hr hk0 hb3 hz3 HI3 HL3 HO3 HZ3 d0 d1 d2 d3 d4 d5 d6
      go_wp2_with fail
      refine (tnew_any _).mono ?_
      rintro e w4 ⟨b, rfl, hT, hb4⟩
      have HT4 := Lib.hid hT
      have HB4 := Lib.hid hb4
      have HO4 := Lib.hid ((hb4.block _ (lt_of_block HO.out)).trans HO.out)
      have HOl := Lib.hid (lt_of_block HO.out)
      have HI4 := Lib.hid (inO_below (B := 0) HI.out hb4)
      clear hT hb4 HO
      go_wp2_with fail
      go_loopw [6, 8, 29] (fun m _ i wr => ∃ (j sz us : Nat) (E : List (Vl × Vl × Int)) (last : Int) (am : Option Addr) (cm : Nat), j ≤ L.length ∧ i = .int .i64 (j : Int) ∧ m = .slice am E.length cm ∧ Hid (E.length ≤ j ∧ last ≤ j) ∧ Hid (IsTab w3.heap.size b wr E last sz us) ∧ Hid (OwnM w3.heap.size am cm wr (prs E)) ∧ Hid (w4.heap.size ≤ wr.heap.size) ∧ Hid (St w3.heap.size w4 wr)) (fun _ _ i _ => L.length - (intOf i).toNat)
      case atStart => exact ⟨0, 0, 0, [], 0, none, 0, by omega, rfl, rfl, ⟨Nat.le_refl _, Int.le_refl _⟩, HT4.out, World.ownsRow_nil _ _ _ _, Nat.le_refl _, st_below (Below.refl _ _) HB4.out.size⟩
      case round =>
        obtain ⟨j, sz, us, E, last, am, cm, hj, rfl, rfl, HE, HT, HM, HS, HX⟩ := hrel
        by_cases hlt : j < L.length
        · obtain ⟨⟨kd1, x, y⟩, he⟩ := get_some hlt
          rcases HI.out with rfl | ⟨g, off, rfl, hg, ha⟩
          · simp at hlt
          obtain ⟨c0, c1, c2, c3, c4, c5, c6⟩ := atO_keep (atO_keep ha (HB4.out.block _ hg)) (HX.out.b.block _ hg) j kd1 x y he
          have hq := (Below.refl wr.heap.size wr).alloc (Nat.le_refl _) (opB kd1 x y)
          have hbq := Nat.le_trans (Nat.le_trans HB4.out.size HS.out) hq.size
          obtain ⟨E2, last2, hact, hdo⟩ := do_any kd1 x y (HR1.out j kd1 x y he) _ hbq (Lib.hid (Nat.le_refl w3.heap.size)) (by have := HE.out; omega) (by have := HE.out; omega) (isTab_below HT.out hq) (ownM_below HM.out hq)
          have hlen := act_len hact
          have HE2 : Hid (E2.length ≤ j + 1 ∧ last2 ≤ ((j + 1 : Nat) : Int)) := by have := HE.out; exact ⟨by omega, by omega⟩
          have HDO := Lib.hid hdo
          have HXQ := Lib.hid (st_trans HX.out (st_below hq (Nat.le_trans HB4.out.size HS.out)))
          have HSQ := Lib.hid (Nat.le_trans HS.out hq.size)
          have ho := heap_alloc_new wr (opB kd1 x y)
          obtain ⟨d0, d1, d2, d3, d4, d5, d6⟩ := seven ho
          clear hq hbq hact hdo hlen ho HE HT HM HX HS he ha hg
          unfold opB at HDO HXQ HSQ d0 d1 d2 d3 d4 d5 d6
          unfold opV at HDO
          go_wp2_with fail
          refine HDO.out.mono ?_
          rintro e w5 ⟨am2, cm2, sz2, us2, rfl, hT5, hM5, hst5⟩
          have HT5 := Lib.hid hT5
          have HM5 := Lib.hid hM5
          have HS5 := Lib.hid (Nat.le_trans HSQ.out hst5.f.size)
          have HX5 := Lib.hid (st_trans HXQ.out hst5)
          clear hT5 hM5 hst5 HXQ HSQ HDO d0 d1 d2 d3 d4 d5 d6
          go_wp2_with fail
          go_roundw
          case rel => exact ⟨j + 1, sz2, us2, E2, last2, am2, cm2, by omega, by go_num, rfl, HE2.out, HT5.out, HM5.out, HS5.out, HX5.out⟩
          case measure => simp [intOf]; omega
        · have hE100 : E.length ≤ 100 := by have := HE.out; omega
          have hl100 : last ≤ 100 := by have := HE.out; omega
          have hor : wr.heap[w.heap.size]? = some (opB kd k v) := (HX.out.b.block _ HOl.out).trans HO4.out
          have hzr := HZ.out.trans ((HB4.out.trans HX.out.b).mono HZ.out.size)
          have hB3 := Nat.le_trans HB4.out.size HS.out
          have HZr := Lib.hid hzr
          have HWB := Lib.hid HZ.out.size
          have HOr := Lib.hid hor
          have HB3 := Lib.hid hB3
          clear HX HS HE hor hzr hB3 HT4 HB4 HO4 HI4 HI HZ hr2 HR1
          go_wp2_with fail
          refine (clone_any _ HT.out (by omega)).mono ?_
          rintro e w5 ⟨c, rfl, ⟨E2, last2, sz2, us2, hC, hp, hl2⟩, hb5⟩
          have hn2 : E2.length = E.length := by rw [← prs_len E2, hp, prs_len]
          have HC5 := Lib.hid hC
          have HB5 := Lib.hid hb5
          have HM5 := Lib.hid (show OwnM w3.heap.size am cm w5 (prs E2) by rw [hp]; exact ownM_below HM.out hb5)
          have HL2 := Lib.hid (show last2 ≤ 100 by omega)
          have HN2 := Lib.hid hn2
          have HP := Lib.hid hp
          clear hC hb5 hp hl2 hn2 hl100
          go_wp2_with fail
          refine (same_len HN2.out _ HB5.out.size (by omega) HC5.out HM5.out).mono ?_
          rintro e w6 ⟨rfl, hC6, hst6⟩
          have hb6 := HB5.out.trans hst6.b
          have hM6 := ownM_fr HM5.out hst6.f
          have ho6 := (hb6.block _ (lt_of_block HOr.out)).trans HOr.out
          obtain ⟨E3, last3, hact, hdo⟩ := do_len HN2.out kd k v HK0.out _ hb6.size (Lib.hid HB3.out) (by omega) (by have := HL2.out; omega) hC6 hM6
          have hlen := act_len hact
          have HE3 : Hid (E3.length ≤ 101) := by have := HN2.out; show _ ≤ _; omega
          have HDO := Lib.hid hdo
          have HB6 := Lib.hid hb6
          obtain ⟨d0, d1, d2, d3, d4, d5, d6⟩ := seven ho6
          clear hC6 hst6 hb6 hM6 ho6 hact hdo hlen HC5 HB5 HM5
          unfold opV at HDO
          go_wp2_with fail
          refine HDO.out.mono ?_
          rintro e w7 ⟨an, cn, sz3, us3, rfl, hC7, hN7, hst7⟩
          have HC7 := Lib.hid hC7
          have HN7 := Lib.hid hN7
          have HB7 := Lib.hid (HB6.out.trans hst7.b)
          have HM7 := Lib.hid (ownM_below HM.out HB7.out)
          clear hC7 hN7 hst7 HB6 HDO d0 d1 d2 d3 d4 d5 d6
          go_wp2_with fail
          go_loopw [12, 14, 56] (fun cs _ i wr => ∃ j q : Nat, j ≤ E.length ∧ i = .int .i64 (j : Int) ∧ cs = .int .i64 (q : Int) ∧ Hid (q = (celK ((prs E).take j)).length + (celV ((prs E).take j)).length) ∧ q ≤ 2 * j ∧ Hid (Below w7.heap.size w7 wr)) (fun _ _ i _ => E.length - (intOf i).toNat)
          case atStart => exact ⟨0, 0, by omega, rfl, rfl, rfl, by omega, Below.refl _ _⟩
          case round =>
            obtain ⟨j2, q, hj2, rfl, rfl, HQ, hq2, HW⟩ := hrel
            by_cases hlt2 : j2 < E.length
            · obtain ⟨p, hp⟩ := get_some (show j2 < (prs E).length by rw [prs_len]; exact hlt2)
              obtain ⟨g, rfl, _, _⟩ := row_some HM7.out (by rw [prs_len]; omega)
              obtain ⟨r0, r1, r2, r3, r4, r5⟩ := ownM_at (ownM_below HM7.out HW.out) hp
              obtain ⟨t1, t2⟩ := take_next hp
              have hq := HW.out.alloc HW.out.size (pairB p)
              obtain ⟨d0, d1, d2, d3, d4, d5⟩ := sixB (heap_alloc_new wr (pairB p))
              have HW2 := Lib.hid hq
              have T1 := Lib.hid t1
              have T2 := Lib.hid t2
              have hj3 : j2 ≤ 100 := by omega
              clear hq hp t1 t2 HW
              unfold pairB at HW2 d0 d1 d2 d3 d4 d5
              by_cases k1 : p.1.1 = 4
              · have k1b : (p.1.1 == 4) = true := by rw [k1]; rfl
                rw [if_pos k1] at T1
                clear k1
                by_cases k2 : p.2.1 = 4
                · have k2b : (p.2.1 == 4) = true := by rw [k2]; rfl
                  rw [if_pos k2] at T2
                  clear k2
                  have HQ2 := Lib.hid (show q + 2 = (celK ((prs E).take (j2 + 1))).length + (celV ((prs E).take (j2 + 1))).length by rw [T1.out, T2.out, HQ.out]; omega)
                  clear T1 T2 HQ
                  go_wp2_with fail
                  go_roundw
                  case rel => exact ⟨j2 + 1, q + 2, by omega, by go_num, by go_num, HQ2.out, by omega, HW2.out⟩
                  case measure => simp [intOf]; omega
                · have k2b : (p.2.1 == 4) = false := by rw [beq_eq_false_iff_ne]; exact k2
                  rw [if_neg k2] at T2
                  clear k2
                  have HQ2 := Lib.hid (show q + 1 = (celK ((prs E).take (j2 + 1))).length + (celV ((prs E).take (j2 + 1))).length by rw [T1.out, T2.out, HQ.out]; omega)
                  clear T1 T2 HQ
                  go_wp2_with fail
                  go_roundw
                  case rel => exact ⟨j2 + 1, q + 1, by omega, by go_num, by go_num, HQ2.out, by omega, HW2.out⟩
                  case measure => simp [intOf]; omega
              · have k1b : (p.1.1 == 4) = false := by rw [beq_eq_false_iff_ne]; exact k1
                rw [if_neg k1] at T1
                clear k1
                by_cases k2 : p.2.1 = 4
                · have k2b : (p.2.1 == 4) = true := by rw [k2]; rfl
                  rw [if_pos k2] at T2
                  clear k2
                  have HQ2 := Lib.hid (show q + 1 = (celK ((prs E).take (j2 + 1))).length + (celV ((prs E).take (j2 + 1))).length by rw [T1.out, T2.out, HQ.out]; omega)
                  clear T1 T2 HQ
                  go_wp2_with fail
                  go_roundw
                  case rel => exact ⟨j2 + 1, q + 1, by omega, by go_num, by go_num, HQ2.out, by omega, HW2.out⟩
                  case measure => simp [intOf]; omega
                · have k2b : (p.2.1 == 4) = false := by rw [beq_eq_false_iff_ne]; exact k2
                  rw [if_neg k2] at T2
                  clear k2
                  have HQ2 := Lib.hid (show q = (celK ((prs E).take (j2 + 1))).length + (celV ((prs E).take (j2 + 1))).length by rw [T1.out, T2.out, HQ.out]; omega)
                  clear T1 T2 HQ
                  go_wp2_with fail
                  go_roundw
                  case rel => exact ⟨j2 + 1, q, by omega, by go_num, rfl, HQ2.out, by omega, HW2.out⟩
                  case measure => simp [intOf]; omega
            · have hq9 : q = (celK (prs E)).length + (celV (prs E)).length := by
                have h := HQ.out
                rw [List.take_of_length_le (by rw [prs_len]; omega)] at h
                exact h
              have HQ9 := Lib.hid hq9
              clear hq9 HQ
              go_wp2_with fail
              refine (same_len rfl _ (Nat.le_trans HB7.out.size HW.out.size) (by have := HE3.out; omega) (isTab_below HC7.out HW.out) (ownM_below HN7.out HW.out)).mono ?_
              rintro e w8 ⟨rfl, _, hst8⟩
              have hb8 := (HB7.out.trans (HW.out.mono HB7.out.size)).trans hst8.b
              have HB8 := Lib.hid hb8
              clear hst8 hb8
              go_wp2_with fail
              refine (same_len rfl _ (Nat.le_trans HB3.out HB8.out.size) (by omega) (isTab_below HT.out HB8.out) (ownM_below HM.out HB8.out)).mono ?_
              rintro e w9 ⟨rfl, hT9, hst9⟩
              have HT9 := Lib.hid hT9
              have HZ9 := Lib.hid (((HZr.out.trans (HB8.out.mono HZr.out.size))).trans (hst9.b.mono HWB.out))
              clear hT9 hst9
              go_wp2_with fail
              refine (tcells_len HQ9.out _ HT9.out (by omega)).mono ?_
              rintro e w10 ⟨ac, cc, rfl, hb10⟩
              have HZ10 := Lib.hid (HZ9.out.trans (hb10.mono HZ9.out.size))
              clear hb10
              go_wp2_with fail
              go_ret
              exact ⟨rfl, HZ10.out⟩
end Go.Proofs.Ytipdjjgpcmbpdaa.Ta
