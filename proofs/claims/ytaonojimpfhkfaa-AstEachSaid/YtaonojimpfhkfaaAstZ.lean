/- AstEach: the walk. -/
import Derived.Test.YtaonojimpfhkfaaAstY
import Derived.Test.YtaonojimpfhkfaaAstEd
namespace Go.Proofs.Ytaonojimpfhkfaa.As
open Go.RowKit Go.ChangeShapes Go.WideShapes Go.ChangeAt

/-- What the law holds. -/
structure Hd (bt bs gc gm bi N : Nat) (A : Option Addr) (cap : Nat) (stop : Int) (Ms : List Int) (W : World) : Prop where
  t : W.heap[bt]? = some (.cells #[.slice A N cap] 24 (0, 0))
  s : W.heap[bs]? = some (.cells #[.int .i64 stop] 3 (0, 0))
  c : W.heap[gc]? = some (.cells #[.int .i64 (N : Int)] 3 (0, 0))
  m : W.heap[gm]? = some (.cells #[.slice (some ⟨bi, 0, none⟩) N N] 35 (0, 0))
  b : W.heap[bi]? = some (.cells ((Ms.map (Value.int .i64)).toArray) 3 (0, 0))
theorem Hd.below {bt bs gc gm bi N : Nat} {A : Option Addr} {cap : Nat} {stop : Int} {Ms : List Int} {W W' : World} (h : Hd bt bs gc gm bi N A cap stop Ms W) (hb : Below W.heap.size W W') : Hd bt bs gc gm bi N A cap stop Ms W' :=
  ⟨(hb.block _ (lt_of_block h.t)).trans h.t, (hb.block _ (lt_of_block h.s)).trans h.s, (hb.block _ (lt_of_block h.c)).trans h.c, (hb.block _ (lt_of_block h.m)).trans h.m, (hb.block _ (lt_of_block h.b)).trans h.b⟩
theorem Hd.of {bt bs gc gm bi N : Nat} {A : Option Addr} {cap : Nat} {stop : Int} {W w7 : World} {pr : List Nat} (h : St1 W W.heap.size N gc gm bi pr w7) (hl : pr.length = N) (hN : (N : Int) ≤ 400) (ht : W.heap[bt]? = some (.cells #[.slice A N cap] 24 (0, 0))) (hs : W.heap[bs]? = some (.cells #[.int .i64 stop] 3 (0, 0))) (h1 : bt ≠ gc) (h2 : bt ≠ bi) (h3 : bs ≠ gc) (h4 : bs ≠ bi) :
    ∃ Ms, Hd bt bs gc gm bi N A cap stop Ms w7 ∧ (∀ (j x : Nat), pr[j]? = some x → Ms[x]? = some ((j : Int) + 1)) := by
  obtain ⟨a1, a2, ⟨Ms, a3, a4, a5⟩, a6⟩ := h
  rw [hl, show wrap64 (N : Int) = (N : Int) by unfold wrap64; omega] at a1
  refine ⟨Ms, ⟨(a6 _ (lt_of_block ht) h1 h2).trans ht, (a6 _ (lt_of_block hs) h3 h4).trans hs, a1, a2, a4⟩, fun j x hj => ?_⟩
  rw [a5 j x hj, show wrap64 ((j + 1 : Nat) : Int) = (j : Int) + 1 by have := get_lt hj; unfold wrap64; omega]
theorem get_in (u p1 r v : List Nat) (i x : Nat) : (u ++ (i :: (p1 ++ (x :: r))) ++ v)[u.length + 1 + p1.length]? = some x := by
  have e : u ++ (i :: (p1 ++ (x :: r))) ++ v = (u ++ i :: p1) ++ x :: (r ++ v) := by simp
  rw [e, show u.length + 1 + p1.length = (u ++ i :: p1).length by simp; omega]
  exact get_mid _ _ _

set_option maxRecDepth 100000 in
set_option maxHeartbeats 8000000 in
theorem astEach_walk (A : Option Addr) (cap : Nat) (L : List Nd) (w : World) (hT : Tr w w.heap.size A L) (hc : TreeOk L) (stop : Int) (hst : (Lit.int .i64 stop).wf = true) (m : Int) (hm : w.cell? ⟨0, 0, none⟩ = some (.int .i64 m)) :
    Calls Try.prog 6 #[.agg #[.slice A L.length cap], .int .i64 stop] w fun e w' => e = .returned (.bool true) ∧ Below w.heap.size w w' := by
  have HST := Lib.hid (wf_i64 hst)
  have HT := Lib.hid hT
  have HC := Lib.hid hc
  have HM := Lib.hid fun W => cell0 (w' := W) hm
  have HZ0 := Lib.hid (bel2 w (.cells #[.slice A L.length cap] 24) (.cells #[.int .i64 stop] 3))
  have HX0 : Hid (((w.alloc (.cells #[.slice A L.length cap] 24)).alloc (.cells #[.int .i64 stop] 3)).heap[w.heap.size]? = some (.cells #[.slice A L.length cap] 24)) := (heap_alloc_old _ _ (by simp)).trans (new1 w _)
  have HS0 := Lib.hid (new2 w (.cells #[.slice A L.length cap] 24) (.cells #[.int .i64 stop] 3))
  have HBL := Lib.hid (builds_any ((w.alloc (.cells #[.slice A L.length cap] 24)).alloc (.cells #[.int .i64 stop] 3)) m (HM.out _ HZ0.out))
  clear hst hT hc hm
  go_enter Try.func6, Try.ntmps6
  go_wp2_with fail
  generalize (w.alloc (.cells #[.slice A L.length cap] 24)).alloc (.cells #[.int .i64 stop] 3) = w0 at *
  refine HBL.out.mono ?_
  rintro e w1 ⟨rfl, hb⟩
  have HZ1 := Lib.hid (HZ0.out.trans (hb.mono HZ0.out.size))
  have HX1 := Lib.hid ((hb.block _ (lt_of_block HX0.out)).trans HX0.out)
  have HS1 := Lib.hid ((hb.block _ (lt_of_block HS0.out)).trans HS0.out)
  have t1 := cell_of_one HX1.out
  have HSM := Lib.hid (small_any (cap := cap) (HT.out.keep (w' := w1) (Nat.le_refl _) fun b hb => HZ1.out.block b hb) HZ1.out.size HC.out)
  clear hb HZ0 HX0 HS0 HBL
  go_wp2_with fail
  refine HSM.out.mono ?_
  rintro e w2 ⟨b, rfl, hbs, hb⟩
  have HZ2 := Lib.hid (HZ1.out.trans (hb.mono HZ1.out.size))
  have HX2 := Lib.hid ((hb.block _ (lt_of_block HX1.out)).trans HX1.out)
  have HS2 := Lib.hid ((hb.block _ (lt_of_block HS1.out)).trans HS1.out)
  have t2 := cell_of_one HX2.out
  have HBS := Lib.hid hbs
  clear hb hbs t1 HZ1 HX1 HS1 HSM
  cases b
  · go_wp2_with fail
    go_ret
    exact ⟨rfl, HZ2.out⟩
  have HSP := Lib.hid (HBS.out.1 rfl)
  have HSZ := Lib.hid (small_szd HSP.out HC.out)
  have HCK := Lib.hid (check_any (cap := cap) (w := w2) (HT.out.keep (w' := w2) HZ2.out.size fun b hb => HZ2.out.block b hb) HSZ.out m (HM.out _ HZ2.out))
  obtain ⟨⟨c1, a1⟩, e1⟩ : ∃ r, chk PW L = r := ⟨_, rfl⟩
  have HE1 := Lib.hid e1
  rw [e1] at HCK
  unfold flt at HCK
  simp only at HCK
  have hf1 := field0 c1 a1
  clear HBS e1
  go_wp2_with fail
  refine HCK.out.mono ?_
  rintro e w3 ⟨rfl, hb⟩
  have HZ3 := Lib.hid (HZ2.out.trans (hb.mono HZ2.out.size))
  have HX3 := Lib.hid ((hb.block _ (lt_of_block HX2.out)).trans HX2.out)
  have HS3 := Lib.hid ((hb.block _ (lt_of_block HS2.out)).trans HS2.out)
  have t3 := cell_of_one HX3.out
  clear hb t2 HZ2 HX2 HS2 HCK
  by_cases hc1 : c1 = 0
  · have hcb : (c1 != 0) = false := by rw [hc1]; rfl
    have HCZ : Hid ((chk PW L).1 = 0) := by show _ = _; rw [HE1.out]; exact hc1
    have hpos := (chk_all HCZ.out).1
    obtain ⟨N, hN⟩ : ∃ N, L.length = N := ⟨_, rfl⟩
    rw [hN] at hpos t3 HX3
    simp only [hN]
    have HN := Lib.hid hN
    have hNb : (N : Int) ≤ 400 := by have := HSP.out.2; omega
    obtain ⟨ii, hii, hi0, hi1, hi2⟩ := info_parts As.A.infoI
    have mkI : ∀ W, (Instr.makeSlice 35 (.int .i64 (N : Int)) (.int .i64 (N : Int))).run Try.prog W = .ok (.slice (some ⟨W.heap.size, 0, none⟩) N N) (W.alloc (.cells (((List.replicate N (0 : Int)).map (Value.int .i64)).toArray) 3)) := fun W => by
      have := run_makeSlice (P := Try.prog) W 35 3 ii _ Try.underlying35 hii hi0 .i64 .i64 (N : Int) (N : Int) (by omega) (by omega) (by rw [hi1]; simp; omega) (by rw [hi2]; omega) (by omega)
      rw [hi1] at this
      rw [show (((List.replicate N (0 : Int)).map (Value.int .i64)).toArray) = madeCells (Value.int .i64 0).cells (N * 1) by
        apply Array.toList_inj.1
        show _ = (madeCells #[.int .i64 0] (N * 1)).toList
        rw [Nat.mul_one, toList_madeCells_one, List.map_replicate]]
      exact this
    generalize hAI : ((List.replicate N (0 : Int)).map (Value.int .i64)).toArray = AI at *
    have HAI := Lib.hid hAI
    clear hAI hii hi0 hi1 hi2 hc1 hN
    go_upto_region 7 with fail
    obtain ⟨M, hNM⟩ : ∃ M, N = M + 1 := ⟨N - 1, by omega⟩
    have HNM := Lib.hid hNM
    clear hNM
    have hLM : L.length = M + 1 := HN.out.trans HNM.out
    have hbw := HZ3.out.size
    obtain ⟨e1, e2, e3, e4⟩ := new3 w3 (.cells AI 3) (.cells #[.slice (some ⟨w3.heap.size, 0, none⟩) N N] 35) (.cells #[.int .i64 0] 3)
    have HE1' : Hid ((((w3.alloc (.cells AI 3)).alloc (.cells #[.slice (some ⟨w3.heap.size, 0, none⟩) N N] 35)).alloc (.cells #[.int .i64 0] 3)).heap[w3.heap.size]? = some (.cells AI 3)) := e1
    have HE2' : Hid ((((w3.alloc (.cells AI 3)).alloc (.cells #[.slice (some ⟨w3.heap.size, 0, none⟩) N N] 35)).alloc (.cells #[.int .i64 0] 3)).heap[w3.heap.size + 1]? = some (.cells #[.slice (some ⟨w3.heap.size, 0, none⟩) N N] 35)) := e2
    have HE3' : Hid ((((w3.alloc (.cells AI 3)).alloc (.cells #[.slice (some ⟨w3.heap.size, 0, none⟩) N N] 35)).alloc (.cells #[.int .i64 0] 3)).heap[w3.heap.size + 1 + 1]? = some (.cells #[.int .i64 0] 3)) := e3
    have HB5 : Hid (Below w3.heap.size w3 (((w3.alloc (.cells AI 3)).alloc (.cells #[.slice (some ⟨w3.heap.size, 0, none⟩) N N] 35)).alloc (.cells #[.int .i64 0] 3))) := ⟨e4.os, e4.tape, e4.output, e4.size, e4.block⟩
    clear e1 e2 e3 e4
    generalize ((w3.alloc (.cells AI 3)).alloc (.cells #[.slice (some ⟨w3.heap.size, 0, none⟩) N N] 35)).alloc (.cells #[.int .i64 0] 3) = w5 at *
    have hsz5 : w3.heap.size + 2 < w5.heap.size := lt_of_block HE3'.out
    have HX5 := Lib.hid ((HB5.out.block _ (lt_of_block HX3.out)).trans HX3.out)
    have HS5 := Lib.hid ((HB5.out.block _ (lt_of_block HS3.out)).trans HS3.out)
    have HZ5 := Lib.hid (HZ3.out.trans (HB5.out.mono HZ3.out.size))
    have t5 := cell_of_one HX5.out
    have hlt3 : w.heap.size + 1 < w3.heap.size := lt_of_block HS3.out
    obtain ⟨pr, hpr⟩ : ∃ pr, pre L L.length (M : Int) = pr := ⟨_, rfl⟩
    have HPR := Lib.hid hpr
    have HRT : Hid (∀ W, Calls Try.prog 18 #[.agg #[.slice A N cap]] W fun e w' => e = .returned (.int .i64 (M : Int)) ∧ Below W.heap.size W w') := fun W => by
      have := root_any (A := A) (cap := cap) (N := N) (w := W) (by omega)
      rw [show (N : Int) - 1 = (M : Int) by rw [HNM.out]; omega] at this
      exact this
    have HEA : Hid (∀ W, Below w5.heap.size w5 W → Calls Try.prog 17 #[.agg #[.slice A N cap], .int .i64 (M : Int), .func (.func 19) #[] #[.pointer (some ⟨w3.heap.size + 1 + 1, 0, none⟩), .pointer (some ⟨w3.heap.size + 1, 0, none⟩)]] W fun e w' => e = .returned (.bool true) ∧ St1 W W.heap.size N (w3.heap.size + 1 + 1) (w3.heap.size + 1) w3.heap.size pr w' ∧ Below w.heap.size W w') := fun W hW => by
      have h1 := HZ5.out.trans (hW.mono HZ5.out.size)
      have hs := hW.size
      have := each_any (cap := cap) (w := W) HCZ.out HSZ.out (HT.out.keep (Nat.le_refl _) fun b hb => h1.block b hb) h1.size hLM (yld1 (W0 := W) (bt := w.heap.size) (B0 := W.heap.size) (N := L.length) (gc := w3.heap.size + 1 + 1) (gm := w3.heap.size + 1) (bi := w3.heap.size) (by omega) (by omega) (by omega) (by omega) (by omega) (by omega)) ⟨by rw [show wrap64 (([] : List Nat).length : Int) = 0 by unfold wrap64; simp]; exact (hW.block _ (by omega)).trans HE3'.out, by rw [HN.out]; exact (hW.block _ (by omega)).trans HE2'.out, ⟨List.replicate N 0, by rw [List.length_replicate]; exact HN.out.symm, by rw [HAI.out]; exact (hW.block _ (by omega)).trans HE1'.out, fun j x hj => by simp at hj⟩, fun b hb _ _ => rfl⟩
      rw [HPR.out, takeE_all_true, HN.out] at this
      exact this
    have HK : Hid (∀ W, Below w5.heap.size w5 W → W.cell? ⟨w.heap.size, 0, none⟩ = some (.slice A N cap)) := fun W hW => cell_of_one ((hW.block _ (lt_of_block HX5.out)).trans HX5.out)
    have t5d : w5.drew.cell? ⟨w.heap.size, 0, none⟩ = some (.slice A N cap) := t5
    clear mkI HX3 HS3 hpr
    have hlen : pr.length = N := by
      rw [← HPR.out, ← HN.out]
      have := (pre_perm HCZ.out).length_eq
      rw [List.length_range, show ((L.length : Nat) : Int) - 1 = (M : Int) by omega] at this
      exact this
    have HLEN := Lib.hid hlen
    clear hlen
    go_cut [7] (fun s7 wx => ∃ Ms : List Int, s7 = .bool true ∧ Hid (Hd w.heap.size (w.heap.size + 1) (w3.heap.size + 1 + 1) (w3.heap.size + 1) w3.heap.size N A cap stop Ms wx) ∧ Hid (∀ (j x : Nat), pr[j]? = some x → Ms[x]? = some ((j : Int) + 1)) ∧ Hid (Below w.heap.size w wx))
    case first =>
      go_region_held3 (fun w' => w'.cell? ⟨w.heap.size, 0, none⟩ = some (.slice A N cap)) (with_reducible (first | exact t5 | exact t5d | assumption))
        (first
          | (go_at_call 18; refine (HRT.out _).mono ?_; rintro e6 w6 ⟨rfl, hb6⟩; have HZ6 := Lib.hid ((Below.refl w5.heap.size w5).drew.trans hb6); have t6 := HK.out _ HZ6.out; clear hb6)
          | (go_at_call 17; refine (HEA.out _ HZ6.out).mono ?_; rintro e7 w7 ⟨rfl, hst7, hb7⟩; have HST7 := Lib.hid hst7; have HB7 := Lib.hid hb7; have t7 : w7.cell? ⟨w.heap.size, 0, none⟩ = some (.slice A N cap) := (World.cell?_of_block (a := ⟨w.heap.size, 0, none⟩) (hst7.2.2.2 _ (by have := HZ6.out.size; show w.heap.size < w6.heap.size; omega) (by show w.heap.size ≠ _; omega) (by show w.heap.size ≠ _; omega))).trans t6; clear hst7 hb7))
      all_goals
        go_wp2_with fail
        go_meet
        case rel =>
          obtain ⟨Ms, hd, hms⟩ := Hd.of (bt := w.heap.size) (bs := w.heap.size + 1) (stop := stop) HST7.out HLEN.out hNb ((HZ6.out.block _ (lt_of_block HX5.out)).trans HX5.out) ((HZ6.out.block _ (lt_of_block HS5.out)).trans HS5.out) (by omega) (by omega) (by omega) (by omega)
          exact ⟨Ms, rfl, hd, hms, (HZ5.out.trans (HZ6.out.mono HZ5.out.size)).trans HB7.out⟩
    case rest =>
      obtain ⟨Ms, rfl, HD, HMS, HZ7⟩ := hcut
      clear HEA HK HE1' HE2' HE3' HB5 HX5 HS5 HZ5 t5 t5d HAI
      have d0 := cell_of_one HD.out.t
      have d1 := cell_of_one HD.out.c
      go_wp2_with fail
      clear d0 d1
      go_loopw [47] (fun i wr => ∃ k : Nat, k ≤ N ∧ i = .int .i64 (k : Int) ∧ Hid (Hd w.heap.size (w.heap.size + 1) (w3.heap.size + 1 + 1) (w3.heap.size + 1) w3.heap.size N A cap stop Ms wr) ∧ Hid (Below w.heap.size w wr)) (fun i _ => N - (intOf i).toNat)
      case atStart => exact ⟨0, Nat.zero_le _, rfl, HD.out, HZ7.out⟩
      case round =>
        obtain ⟨k, hk, rfl, HDr, HZr⟩ := hrel
        by_cases hlt : k < N
        · obtain ⟨n, hn⟩ := get_some (show k < L.length by rw [HN.out]; exact hlt)
          have hkpr : k ∈ pr := by
            rw [← HPR.out]
            have := pre_all HCZ.out (L.length - 1 - k) k (by have := get_lt hn; omega)
            rw [show ((L.length : Nat) : Int) - 1 = (M : Int) by omega] at this
            exact this
          obtain ⟨u, v, huv⟩ := pre_split (chk_kin HCZ.out) L.length (M : Int) k n (by omega) (by rw [HPR.out]; exact hkpr) hn
          rw [HPR.out] at huv
          have hmk : Ms[k]? = some ((u.length : Int) + 1) := HMS.out u.length k (by rw [huv, List.append_assoc]; exact get_mid _ _ _)
          obtain ⟨g, o, hA, _, hat⟩ := (HT.out.keep (w' := wr) (Nat.le_refl _) fun b hb => HZr.out.block b hb).at_ hn
          subst hA
          obtain ⟨n0, n1, n2, n3, n4, hrow⟩ := hat
          have HROW := Lib.hid hrow
          have hb1 := bel1 wr (.cells #[.int .i64 n.kind, .int .i64 n.loc, .string n.text, .int .i64 n.num, .slice n.ka n.kids.length n.kc] 37)
          have HD1 := Lib.hid (HDr.out.below hb1)
          have HZ1 := Lib.hid (HZr.out.trans (hb1.mono HZr.out.size))
          have HN1 := Lib.hid (new1 wr (.cells #[.int .i64 n.kind, .int .i64 n.loc, .string n.text, .int .i64 n.num, .slice n.ka n.kids.length n.kc] 37))
          have r0 := cell_of_one HDr.out.t
          have r1 := cell_of_one HD1.out.m
          have r2 : (wr.alloc (.cells #[.int .i64 n.kind, .int .i64 n.loc, .string n.text, .int .i64 n.num, .slice n.ka n.kids.length n.kc] 37)).cell? ⟨w3.heap.size, k, none⟩ = some (.int .i64 ((u.length : Int) + 1)) := by rw [cell_of_row _ _ _ _ _ _ HD1.out.b]; simp [hmk]
          obtain ⟨⟨p0, p1, p2, p3, p4⟩, _⟩ := five_facts HN1.out
          have hkb : (n.kids.length : Int) ≤ 100 := by have := (HSP.out.1 n (List.mem_of_getElem? hn)).1; omega
          have hkl : (k : Int) < (N : Int) := by omega
          have HUV := Lib.hid huv
          have HNN := Lib.hid hn
          clear hkpr huv hmk hn hrow hb1
          go_wp2_with fail
          clear n0 n1 n2 n3 n4 r0 r1 r2 p0 p1 p2 p3 p4
          generalize wr.alloc (.cells #[.int .i64 n.kind, .int .i64 n.loc, .string n.text, .int .i64 n.num, .slice n.ka n.kids.length n.kc] 37) = W1 at *
          have HRW : Hid (RowI W1 w.heap.size n.ka n.kids) := HROW.out.keep (Nat.le_refl _) fun b hb => (HZ1.out.block b hb).trans (HZr.out.block b hb).symm
          go_loopw [10, 59] (fun l i wr2 => ∃ (j : Nat) (v : Int), j ≤ n.kids.length ∧ i = .int .i64 (j : Int) ∧ l = .int .i64 v ∧ wr2 = W1 ∧ Hid (v ≤ (u.length : Int) + 1 + ((n.kids.take j).flatMap (pre L L.length)).length)) (fun _ i _ => n.kids.length - (intOf i).toNat)
          case atStart => exact ⟨0, _, Nat.zero_le _, rfl, rfl, by trivial, by show _ ≤ _; simp⟩
          case round =>
            obtain ⟨j, v1, hj, rfl, rfl, rfl, HV1⟩ := hrel
            by_cases hjl : j < n.kids.length
            · obtain ⟨x, hx⟩ := get_some hjl
              obtain ⟨g2, o2, hka, _, hcx⟩ := HRW.out.at_ hx
              rw [hka]
              have hxk := chk_kin HCZ.out k n HNN.out x (List.mem_of_getElem? hx)
              have htk : (n.kids.take (j + 1)).flatMap (pre L L.length) = (n.kids.take j).flatMap (pre L L.length) ++ pre L L.length x := by
                rw [List.take_add_one, hx]; simp
              have hjb : (j : Int) < (n.kids.length : Int) := by omega
              by_cases h0 : x < 0
              · have HV2 : Hid (v1 ≤ (u.length : Int) + 1 + ((n.kids.take (j + 1)).flatMap (pre L L.length)).length) := by
                  show _ ≤ _
                  rw [htk, pre_neg h0, List.append_nil]; exact HV1.out
                clear htk hx hxk
                go_wp2_with fail
                go_roundw
                case rel => exact ⟨j + 1, v1, by omega, by go_num, rfl, by trivial, HV2.out⟩
                case measure => simp [intOf]; omega
              · obtain ⟨y, rfl⟩ : ∃ y : Nat, x = (y : Int) := ⟨x.toNat, by omega⟩
                obtain ⟨ny, hny⟩ := get_some (show y < L.length by have := get_lt HNN.out; omega)
                have hpy : ∃ ry, pre L L.length (y : Int) = y :: ry := ⟨ny.kids.flatMap (pre L M), by rw [hLM, pre_some hny]⟩
                obtain ⟨ry, hry⟩ := hpy
                have hsp : n.kids = n.kids.take j ++ (y : Int) :: n.kids.drop (j + 1) := by rw [← drop_get hx, List.take_append_drop]
                have hpos2 : pr[u.length + 1 + ((n.kids.take j).flatMap (pre L L.length)).length]? = some y := by
                  have e : n.kids.flatMap (pre L L.length) = (n.kids.take j).flatMap (pre L L.length) ++ y :: (ry ++ (n.kids.drop (j + 1)).flatMap (pre L L.length)) := by
                    conv => lhs; rw [hsp]
                    rw [List.flatMap_append, List.flatMap_cons, hry]; simp
                  rw [HUV.out, e]
                  exact get_in _ _ _ _ _ _
                have hmy := HMS.out _ y hpos2
                obtain ⟨q, hq⟩ : ∃ q : Int, ((u.length + 1 + ((n.kids.take j).flatMap (pre L L.length)).length : Nat) : Int) + 1 = q := ⟨_, rfl⟩
                rw [hq] at hmy
                have hvq : v1 < q := by have := HV1.out; omega
                have HV2 : Hid (q ≤ (u.length : Int) + 1 + ((n.kids.take (j + 1)).flatMap (pre L L.length)).length) := by
                  show _ ≤ _
                  rw [htk, hry, List.length_append, List.length_cons]; omega
                have r1 := cell_of_one HD1.out.m
                have r2 : wr.cell? ⟨w3.heap.size, y, none⟩ = some (.int .i64 q) := by rw [cell_of_row _ _ _ _ _ _ HD1.out.b]; simp [hmy]
                have hyN : (y : Int) < (N : Int) := by have := get_lt hny; have := HN.out; omega
                have hnq : ¬ q ≤ v1 := by omega
                clear htk hx hny hry hsp hpos2 hmy hq
                go_wp2_with fail
                go_roundw
                case rel => exact ⟨j + 1, q, by omega, by go_num, rfl, by trivial, HV2.out⟩
                case measure => simp [intOf]; omega
            · go_wp2_with fail
              go_roundw
              case rel => exact ⟨k + 1, by omega, by go_num, HD1.out, HZ1.out⟩
              case measure => simp [intOf]; omega
        · have r0 := cell_of_one HDr.out.t
          go_upto_region 24 with fail
          clear r0 HD HZ7
          have hb9 := bel1 wr (.cells #[.int .i64 0] 3)
          have HF9 := Lib.hid (new1 wr (.cells #[.int .i64 0] 3))
          have HD9 := Lib.hid (HDr.out.below hb9)
          have HZ9 := Lib.hid (HZr.out.trans (hb9.mono HZr.out.size))
          have l1 := lt_of_block HDr.out.t
          have l2 := lt_of_block HDr.out.s
          have l3 := lt_of_block HDr.out.c
          clear hb9
          generalize wr.alloc (.cells #[.int .i64 0] 3) = w9 at *
          obtain ⟨gf, hgf⟩ : ∃ gf, wr.heap.size = gf := ⟨_, rfl⟩
          simp only [hgf] at HF9 l1 l2 l3 ⊢
          have hzf := lt_of_block HF9.out
          have t9 := cell_of_one HD9.out.t
          have t9d : w9.drew.cell? ⟨w.heap.size, 0, none⟩ = some (.slice A N cap) := t9
          have hbf : w.heap.size ≤ gf := by omega
          obtain ⟨F, hF⟩ : ∃ F : Int, ((takeE (fun n => decide (wrap64 (n : Int) < stop)) 0 pr).1.length : Int) = F := ⟨_, rfl⟩
          obtain ⟨B, hB⟩ : ∃ B : Bool, (takeE (fun n => decide (wrap64 (n : Int) < stop)) 0 pr).2 = B := ⟨_, rfl⟩
          have hlen := HLEN.out
          obtain ⟨x, l, hxl⟩ : ∃ x l, pr = x :: l := by
            cases hp : pr with
            | nil => rw [hp] at hlen; simp at hlen; omega
            | cons x l => exact ⟨x, l, rfl⟩
          have htl := takeE_len stop l 0 x (by rw [← hxl]; omega)
          rw [← hxl, hF, hB] at htl
          have hl2 : (l.length : Int) + 1 = (N : Int) := by rw [hxl, List.length_cons] at hlen; omega
          have hB2 : B = decide ((N : Int) < stop) := by
            rw [htl.1, show ((0 + l.length + 1 : Nat) : Int) = (N : Int) by omega]
          have hF2 : F = if stop < 1 then 1 else min stop (N : Int) := by
            rw [htl.2]
            by_cases h1 : ((0 + 1 : Nat) : Int) < stop
            · rw [if_pos h1, if_neg (by omega), hl2]; simp
            · rw [if_neg h1]
              by_cases h2 : stop < 1
              · rw [if_pos h2]
              · rw [if_neg h2]; omega
          have hFb : 0 ≤ F ∧ F ≤ 400 := by
            rw [hF2]
            by_cases h2 : stop < 1
            · rw [if_pos h2]; omega
            · rw [if_neg h2]; omega
          have HFF := Lib.hid hF
          have HBB := Lib.hid hB
          have HEA2 : Hid (∀ W, Below w9.heap.size w9 W → Calls Try.prog 17 #[.agg #[.slice A N cap], .int .i64 (M : Int), .func (.func 20) #[] #[.pointer (some ⟨gf, 0, none⟩), .pointer (some ⟨w.heap.size + 1, 0, none⟩)]] W fun e w' => e = .returned (.bool B) ∧ St2 W W.heap.size gf (w.heap.size + 1) stop (takeE (fun n => decide (wrap64 (n : Int) < stop)) 0 pr).1 w' ∧ Below w.heap.size W w') := fun W hW => by
            have h1 := HZ9.out.trans (hW.mono HZ9.out.size)
            have hs := hW.size
            have := each_any (cap := cap) (w := W) HCZ.out HSZ.out (HT.out.keep (Nat.le_refl _) fun b hb => h1.block b hb) h1.size hLM (yld2 (W0 := W) (bt := w.heap.size) (B0 := W.heap.size) (N := L.length) (gf := gf) (gs := w.heap.size + 1) (stop := stop) (by omega) (by omega) (by omega) (by omega)) ⟨by rw [show wrap64 (([] : List Nat).length : Int) = 0 by unfold wrap64; simp]; exact (hW.block _ (by omega)).trans HF9.out, (hW.block _ (by omega)).trans HD9.out.s, fun b hb _ => rfl⟩
            rw [HPR.out, HBB.out, HN.out] at this
            exact this
          have HK2 : Hid (∀ W, Below w9.heap.size w9 W → W.cell? ⟨w.heap.size, 0, none⟩ = some (.slice A N cap)) := fun W hW => cell_of_one ((hW.block _ (lt_of_block HD9.out.t)).trans HD9.out.t)
          have HB2 := Lib.hid hB2
          have HF2 := Lib.hid hF2
          clear htl hlen hxl hl2 hF hB hB2 hF2
          go_cut [14] (fun s14 wx => s14 = .bool B ∧ Hid (wx.heap[w.heap.size]? = some (.cells #[.slice A N cap] 24 (0, 0))) ∧ Hid (wx.heap[w.heap.size + 1]? = some (.cells #[.int .i64 stop] 3 (0, 0))) ∧ Hid (wx.heap[w3.heap.size + 1 + 1]? = some (.cells #[.int .i64 (N : Int)] 3 (0, 0))) ∧ Hid (wx.heap[gf]? = some (.cells #[.int .i64 F] 3 (0, 0))) ∧ Hid (Below w.heap.size w wx))
          case first =>
            go_region_held3 (fun w' => w'.cell? ⟨w.heap.size, 0, none⟩ = some (.slice A N cap)) (with_reducible (first | exact t9 | exact t9d | assumption))
              (first
                | (go_at_call 18; refine (HRT.out _).mono ?_; rintro e10 w10 ⟨rfl, hb10⟩; have HZ10 := Lib.hid ((Below.refl w9.heap.size w9).drew.trans hb10); have t10 := HK2.out _ HZ10.out; clear hb10)
                | (go_at_call 17; refine (HEA2.out _ HZ10.out).mono ?_; rintro e11 w11 ⟨rfl, hst11, hb11⟩; have HST11 := Lib.hid hst11; have HB11 := Lib.hid hb11; have t11 : w11.cell? ⟨w.heap.size, 0, none⟩ = some (.slice A N cap) := (World.cell?_of_block (a := ⟨w.heap.size, 0, none⟩) (hst11.2.2 _ (by have := HZ10.out.size; show w.heap.size < w10.heap.size; omega) (by show w.heap.size ≠ _; omega))).trans t10; clear hst11 hb11))
            all_goals
              go_wp2_with fail
              go_meet
              case rel =>
                have hq := HST11.out
                unfold St2 at hq
                rw [HFF.out, show wrap64 F = F by unfold wrap64; omega] at hq
                have hz10 := HZ10.out.size
                have hDA := HD9.out.below HZ10.out
                exact ⟨by first | rfl | rw [HB2.out], (hq.2.2 _ (by omega) (by omega)).trans hDA.t, hq.2.1, (hq.2.2 _ (by omega) (by omega)).trans hDA.c, hq.1, (HZ9.out.trans (HZ10.out.mono HZ9.out.size)).trans HB11.out⟩
          case rest =>
            obtain ⟨rfl, HT12, HS12, HC12, HF12, HZ12⟩ := hcut
            have c0 := cell_of_one HT12.out
            have c1 := cell_of_one HS12.out
            have c2 := cell_of_one HC12.out
            have c3 := cell_of_one HF12.out
            have hNpos : (1 : Int) ≤ (N : Int) := by omega
            have HEN : Hid (∀ W, Calls Try.prog 17 #[.agg #[.slice A N cap], .int .i64 (-1), .nilFunc] W fun e w' => e = .returned (.bool true) ∧ Below W.heap.size W w') := fun W => each_none
            have HK3 : Hid (∀ W, Below wc.heap.size wc W → W.cell? ⟨w.heap.size, 0, none⟩ = some (.slice A N cap) ∧ W.cell? ⟨w.heap.size + 1, 0, none⟩ = some (.int .i64 stop) ∧ W.cell? ⟨w3.heap.size + 1 + 1, 0, none⟩ = some (.int .i64 (N : Int)) ∧ W.cell? ⟨gf, 0, none⟩ = some (.int .i64 F)) := fun W hW =>
              ⟨cell_of_one ((hW.block _ (lt_of_block HT12.out)).trans HT12.out), cell_of_one ((hW.block _ (lt_of_block HS12.out)).trans HS12.out), cell_of_one ((hW.block _ (lt_of_block HC12.out)).trans HC12.out), cell_of_one ((hW.block _ (lt_of_block HF12.out)).trans HF12.out)⟩
            by_cases hs1 : stop < 1
            · have hF1 : F = 1 := by rw [HF2.out, if_pos hs1]
              have hB1 : B = false := by rw [HB2.out]; exact decide_eq_false (by omega)
              have hgt : ¬ (N : Int) < stop := by omega
              subst hF1 hB1
              go_wp2_with fail
              refine (HEN.out _).mono ?_
              rintro e w13 ⟨rfl, hb13⟩
              obtain ⟨c4, c5, c6, c7⟩ := HK3.out _ hb13
              have HZ13 := Lib.hid (HZ12.out.trans (hb13.mono HZ12.out.size))
              clear c0 c1 c2 c3 hb13
              go_wp2_with fail
              go_ret
              exact ⟨ret_b (by simp; omega), HZ13.out⟩
            · have hF1 : F = min stop (N : Int) := by rw [HF2.out, if_neg hs1]
              have hB1 := HB2.out
              have hs2 : 1 ≤ stop := by omega
              subst hF1 hB1
              go_wp2_with fail
              refine (HEN.out _).mono ?_
              rintro e w13 ⟨rfl, hb13⟩
              obtain ⟨c4, c5, c6, c7⟩ := HK3.out _ hb13
              have HZ13 := Lib.hid (HZ12.out.trans (hb13.mono HZ12.out.size))
              clear c0 c1 c2 c3 hb13
              go_wp2_with fail
              go_ret
              exact ⟨rfl, HZ13.out⟩
  · have hcb : (c1 != 0) = true := by rw [bne_iff_ne]; exact hc1
    go_wp2_with fail
    go_ret
    exact ⟨rfl, HZ3.out⟩
end Go.Proofs.Ytaonojimpfhkfaa.As
