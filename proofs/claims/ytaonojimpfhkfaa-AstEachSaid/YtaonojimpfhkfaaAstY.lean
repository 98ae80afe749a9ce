/- AstSame: the walk. -/
import Derived.Test.YtaonojimpfhkfaaAstV
import Derived.Deep.LoopGhost
namespace Go.Proofs.Ytaonojimpfhkfaa.As
open Go.RowKit Go.ChangeShapes Go.WideShapes Go.ChangeAt

/-- One node is told otherwise. -/
structure Mv (lo bt bu : Nat) (A : Option Addr) (cap g c : Nat) (w wr : World) (N : Nat) (V : List Nd) : Prop where
  o : OwT lo (some ⟨g, 0, none⟩) c wr V
  t : wr.heap[bt]? = some (.cells #[.slice A N cap] 24 (0, 0))
  u : wr.heap[bu]? = some (.cells #[.slice (some ⟨g, 0, none⟩) N c] 24 (0, 0))
  z : Below bt w wr
  q : bt ≤ wr.heap.size
theorem Mov.set {lo bt bu : Nat} {A : Option Addr} {cap g c N : Nat} {W wr w9 : World} {L U : List Nd} {k r q : Nat} {n n' : Nd} {v : Value} (h : Mov lo bt bu A cap g c W wr L U k) (hN : L.length = N) (hW : W.heap.size = bt) (hB : Below wr.heap.size wr w9) (hn : U[r]? = some n) (hq : q < 5) (hc : celN n' = (celN n).set q v) (hk : n'.kids = n.kids ∧ n'.ka = n.ka ∧ n'.kc = n.kc) : Mv lo bt bu A cap g c W (w9.setCell ⟨g, r * 5 + q, none⟩ v) N (U.set r n') := by
  have ho := h.o.below hB
  obtain ⟨_, _, hnb, hg1, _⟩ := ownN_facts ho.n hn
  obtain ⟨cs, hcs⟩ := hnb
  have ht := (hB.block _ (lt_of_block h.t)).trans h.t
  have hu := (hB.block _ (lt_of_block h.u)).trans h.u
  rw [hN] at ht hu
  have hz := (h.z.trans (hB.mono h.z.size)).setCell (p := ⟨g, r * 5 + q, none⟩) (by show W.heap.size ≤ g; have := h.q; omega) v
  rw [hW] at hz
  exact ⟨ho.setk hn hq hc hk, blk_far ht (blk_ne ht hcs (by decide)) _, blk_far hu (blk_ne hu hcs (by decide)) _, hz, by rw [← hW]; have := hz.size; rw [hW] at *; exact Nat.le_trans (by rw [← hW]; exact Nat.le_refl _) this⟩
theorem Mv.all {lo bt bu : Nat} {A : Option Addr} {cap g c N : Nat} {w w10 : World} {L V : List Nd} (h : Mv lo bt bu A cap g c w w10 N V) (hT : Tr w bt A L) (hz : bt ≤ w10.heap.size) (hN : L.length = N) (hV : V.length = N) (sL : Szd L) (sV : Szd V) (m : Int) (hm : ∀ W, Below bt w W → W.cell? ⟨0, 0, none⟩ = some (.int .i64 m)) :
    ∀ W, Below w10.heap.size w10 W → (W.cell? ⟨bt, 0, none⟩ = some (.slice A N cap) ∧ W.cell? ⟨bu, 0, none⟩ = some (.slice (some ⟨g, 0, none⟩) N c) ∧ Below bt w W) ∧
      Calls Try.prog 11 #[.agg #[.slice (some ⟨g, 0, none⟩) N c]] W (fun e w' => e = .returned (flt (chk PW V)) ∧ Below W.heap.size W w') ∧
      Calls Try.prog 15 #[.agg #[.slice A N cap], .agg #[.slice (some ⟨g, 0, none⟩) N c]] W (fun e w' => e = .returned (.bool (sam L V)) ∧ Below W.heap.size W w') ∧
      Calls Try.prog 15 #[.agg #[.slice (some ⟨g, 0, none⟩) N c], .agg #[.slice A N cap]] W (fun e w' => e = .returned (.bool (sam V L)) ∧ Below W.heap.size W w') := by
  intro W hW
  have h1 : Below bt w W := h.z.trans (hW.mono hz)
  have hTW : Tr W W.heap.size A L := hT.keep (Nat.le_trans hz hW.size) fun b hb => h1.block b hb
  have hVW : Tr W W.heap.size (some ⟨g, 0, none⟩) V := (h.o.below hW).tr
  have k1 := check_any (cap := c) hVW sV m (hm _ h1)
  have k2 := same_any (ca := cap) (cb := c) hTW hVW sL sV m (hm _ h1)
  have k3 := same_any (ca := c) (cb := cap) hVW hTW sV sL m (hm _ h1)
  rw [hV] at k1
  rw [hN, hV] at k2 k3
  exact ⟨⟨cell_of_one ((hW.block _ (lt_of_block h.t)).trans h.t), cell_of_one ((hW.block _ (lt_of_block h.u)).trans h.u), h1⟩, k1, k2, k3⟩
theorem sam_no {L U : List Nd} (h : Sim L U) (hc : (chk PW L).1 = 0) {r : Nat} {n n' : Nd} (hn : U[r]? = some n) (hcV : (chk PW (U.set r n')).1 = 0) (hkk : n'.kids = n.kids) (hne : n'.kind ≠ n.kind ∨ n'.text.toList ≠ n.text.toList ∨ n'.num ≠ n.num) : sam L (U.set r n') = false ∧ sam (U.set r n') L = false := by
  have hlen : (U.set r n').length = L.length := by rw [List.length_set]; exact h.1
  have hV : (U.set r n')[r]? = some n' := List.getElem?_set_self (get_lt hn)
  obtain ⟨p, hp, e1, e2, e3, e4⟩ := h.symm.2 r n hn
  have hkids : ∀ (j : Nat) (x y : Nd), L[j]? = some x → (U.set r n')[j]? = some y → y.kids = x.kids := by
    intro j x y hx hy
    obtain ⟨z, hz, f1, f2, f3, f4⟩ := h.2 j x hx
    by_cases hjr : r = j
    · subst hjr
      rw [hV, Option.some.injEq] at hy
      rw [hn, Option.some.injEq] at hz
      rw [← hy, hkk, hz, f4]
    · rw [List.getElem?_set_ne hjr, hz, Option.some.injEq] at hy
      rw [← hy, f4]
  constructor
  · unfold sam
    rw [alk_no hc hlen hkids hp hV (fun ⟨g1, g2, g3⟩ => by
      rcases hne with hne | hne | hne
      · exact hne (by rw [← g1, e1])
      · exact hne (by rw [← g2, e2])
      · exact hne (by rw [← g3, e3])) _]
    simp
  · unfold sam
    rw [alk_no hcV hlen.symm (fun j x y hx hy => (hkids j y x hy hx).symm) hV hp (fun ⟨g1, g2, g3⟩ => by
      rcases hne with hne | hne | hne
      · exact hne (by rw [g1, e1])
      · exact hne (by rw [g2, e2])
      · exact hne (by rw [g3, e3])) _]
    simp
theorem szd_set {U : List Nd} {r : Nat} {n n' : Nd} (h : Szd U) (hn : U[r]? = some n) (hk : n'.kids = n.kids ∧ n'.kc = n.kc) (ht : n'.text.size ≤ 1000000) : Szd (U.set r n') := by
  refine ⟨by rw [List.length_set]; exact h.1, fun p hp => ?_⟩
  rcases List.mem_or_eq_of_mem_set hp with hp | rfl
  · exact h.2 p hp
  · rw [hk.1, hk.2]
    exact ⟨ht, (h.2 n (List.mem_of_getElem? hn)).2⟩
theorem wrap_ne (x : Int) : wrap64 (x + 1) ≠ x := by
  unfold wrap64
  omega
theorem text_ne (t : ByteArray) : (t ++ ⟨#[120]⟩ : ByteArray).toList ≠ t.toList := by
  intro h
  have := congrArg List.length h
  rw [list_size, list_size, ByteArray.size_append] at this
  have h1 : (⟨#[120]⟩ : ByteArray).size = 1 := rfl
  omega
set_option maxRecDepth 100000 in
set_option maxHeartbeats 8000000 in
theorem astSame_walk (A : Option Addr) (cap : Nat) (L : List Nd) (w : World) (hT : Tr w w.heap.size A L) (hc : TreeOk L) (at_ by_ : Int) (hat : (Lit.int .i64 at_).wf = true) (m : Int) (hm : w.cell? ⟨0, 0, none⟩ = some (.int .i64 m)) :
    Calls Try.prog 5 #[.agg #[.slice A L.length cap], .int .i64 at_, .int .i64 by_] w fun e w' => e = .returned (.bool true) ∧ Below w.heap.size w w' := by
  have HAT := Lib.hid (wf_i64 hat)
  have HT := Lib.hid hT
  have HC := Lib.hid hc
  have HM := Lib.hid fun W => cell0 (w' := W) hm
  have HZ0 := Lib.hid (bel1 w (.cells #[.slice A L.length cap] 24))
  have HX0 := Lib.hid (new1 w (.cells #[.slice A L.length cap] 24))
  have HBL := Lib.hid (builds_any (w.alloc (.cells #[.slice A L.length cap] 24)) m (HM.out _ HZ0.out))
  clear hat hT hc hm
  go_enter Try.func5, Try.ntmps5
  go_wp2_with fail
  generalize w.alloc (.cells #[.slice A L.length cap] 24) = w0 at *
  refine HBL.out.mono ?_
  rintro e w1 ⟨rfl, hb⟩
  have HZ1 := Lib.hid (HZ0.out.trans (hb.mono HZ0.out.size))
  have HX1 := Lib.hid ((hb.block _ (lt_of_block HX0.out)).trans HX0.out)
  have t1 := cell_of_one HX1.out
  have HSM := Lib.hid (small_any (cap := cap) (HT.out.keep (w' := w1) (Nat.le_refl _) fun b hb => HZ1.out.block b hb) HZ1.out.size HC.out)
  clear hb HZ0 HX0 HBL
  go_wp2_with fail
  refine HSM.out.mono ?_
  rintro e w2 ⟨b, rfl, hbs, hb⟩
  have HZ2 := Lib.hid (HZ1.out.trans (hb.mono HZ1.out.size))
  have HX2 := Lib.hid ((hb.block _ (lt_of_block HX1.out)).trans HX1.out)
  have t2 := cell_of_one HX2.out
  have HBS := Lib.hid hbs
  clear hb hbs t1 HZ1 HX1 HSM
  cases b
  · go_wp2_with fail
    go_ret
    exact ⟨rfl, HZ2.out⟩
  have HSP := Lib.hid (HBS.out.1 rfl)
  have HSZ := Lib.hid (small_szd HSP.out HC.out)
  have HCK := Lib.hid (check_any (cap := cap) (w := w2) (HT.out.keep (w' := w2) HZ2.out.size fun b hb => HZ2.out.block b hb) HSZ.out m (HM.out _ HZ2.out))
  obtain ⟨⟨c1, a1⟩, e1⟩ : ∃ r, chk PW L = r := ⟨_, rfl⟩
  have HE1 := Lib.hid e1
  rw [e1] at HCK
  unfold flt at HCK
  simp only at HCK
  have hf1 := field0 c1 a1
  clear HBS e1
  go_wp2_with fail
  refine HCK.out.mono ?_
  rintro e w3 ⟨rfl, hb⟩
  have HZ3 := Lib.hid (HZ2.out.trans (hb.mono HZ2.out.size))
  have HX3 := Lib.hid ((hb.block _ (lt_of_block HX2.out)).trans HX2.out)
  have t3 := cell_of_one HX3.out
  clear hb t2 HZ2 HX2 HCK
  by_cases hc1 : c1 = 0
  · have hcb : (c1 != 0) = false := by rw [hc1]; rfl
    have HCZ : Hid ((chk PW L).1 = 0) := by show _ = _; rw [HE1.out]; exact hc1
    have HCL := Lib.hid (clone_tree (cap := cap) (w := w3) (HT.out.keep (w' := w3) (Nat.le_refl _) fun b hb => HZ3.out.block b hb) HZ3.out.size HSZ.out)
    clear hc1
    go_wp2_with fail
    refine HCL.out.mono ?_
    rintro e w4 ⟨A', c', M, rfl, hal, how, hb⟩
    have hpos := (chk_all HCZ.out).1
    obtain ⟨g, rfl, hg1, hg2⟩ := own_some how.n (by rw [hal.1]; exact hpos)
    rw [hal.1]
    have h5 := bel1 w4 (.cells #[.slice (some ⟨g, 0, none⟩) L.length c'] 24)
    have HMV : Hid (Mov w3.heap.size w.heap.size w4.heap.size A cap g c' w (w4.alloc (.cells #[.slice (some ⟨g, 0, none⟩) L.length c'] 24)) L M 0) :=
      ⟨how.below h5, hal.sim, fun j n hj => by omega, ((hb.trans (h5.mono hb.size)).block _ (lt_of_block HX3.out)).trans HX3.out, new1 w4 _, HZ3.out.trans ((hb.trans (h5.mono hb.size)).mono HZ3.out.size), HZ3.out.size⟩
    have u0 := cell_of_one HMV.out.u
    obtain ⟨N, hN⟩ : ∃ N, L.length = N := ⟨_, rfl⟩
    rw [hN] at u0 hpos HMV ⊢
    have HN := Lib.hid hN
    have hNb : (N : Int) ≤ 400 := by have := HSP.out.2; omega
    clear hal how hb h5 t3 HX3 HCL hg1 hg2 hN
    go_wp2_with fail
    clear u0
    generalize w4.alloc (.cells #[.slice (some ⟨g, 0, none⟩) N c'] 24) = w5 at *
    generalize w4.heap.size = bu at *
    generalize hbt : w.heap.size = bt at *
    have HBT := Lib.hid hbt
    clear hbt
    go_loopw [26] (fun i wr => ∃ (k : Nat) (U : List Nd), k ≤ N ∧ i = .int .i64 (k : Int) ∧ Hid (Mov w3.heap.size bt bu A cap g c' w wr L U k)) (fun i _ => N - (intOf i).toNat)
    case atStart => exact ⟨0, M, Nat.zero_le _, rfl, HMV.out⟩
    case round =>
      obtain ⟨k, U, hk, rfl, HV⟩ := hrel
      have u0 := cell_of_one HV.out.u
      rw [HN.out] at u0
      by_cases hlt : k < N
      · obtain ⟨n, hn⟩ := get_some (show k < U.length by rw [HV.out.s.1, HN.out]; exact hlt)
        obtain ⟨⟨_, m1, _, _, _⟩, fz, hnb, hg1, _⟩ := ownN_facts HV.out.o.n hn
        have f1 := fz (k * 5 + 1)
        have hkl : (k : Int) < (N : Int) := by omega
        have HV2 : Hid (Mov w3.heap.size bt bu A cap g c' w (wr.setCell ⟨g, k * 5 + 1, none⟩ (.int .i64 (k : Int))) L (U.set k { n with loc := (k : Int) }) (k + 1)) := by
          obtain ⟨cs, hcs⟩ := hnb
          refine ⟨HV.out.o.setk (v := .int .i64 (k : Int)) (q := 1) hn (by omega) rfl ⟨rfl, rfl, rfl⟩, HV.out.s.setloc hn _, fun j p hj hp => ?_, blk_far HV.out.t (blk_ne HV.out.t hcs (by decide)) _, blk_far HV.out.u (blk_ne HV.out.u hcs (by decide)) _, HV.out.z.setCell (p := ⟨g, k * 5 + 1, none⟩) (by show w.heap.size ≤ g; have := HV.out.q; omega) _, HV.out.q⟩
          by_cases hjk : k = j
          · subst hjk
            rw [List.getElem?_set_self (get_lt hn), Option.some.injEq] at hp
            rw [← hp]
          · rw [List.getElem?_set_ne hjk] at hp
            exact HV.out.l j p (by omega) hp
        clear hn fz hnb hg1 HV
        go_wp2_with fail
        go_roundw
        case rel => exact ⟨k + 1, _, by omega, by go_num, HV2.out⟩
        case measure => simp [intOf]; omega
      · have hke : k = N := by omega
        subst hke
        have t0 := cell_of_one HV.out.t
        rw [HN.out] at t0
        have hloc : ∀ p ∈ U, 0 ≤ p.loc := fun p hp => by
          obtain ⟨j, hj⟩ := List.getElem?_of_mem hp
          rw [HV.out.l j p (by have := get_lt hj; have := HV.out.s.1; have := HN.out; omega) hj]
          omega
        have HCU := Lib.hid (HV.out.s.chk hloc HCZ.out)
        have hszU : Szd U := szd_own HV.out.o (by rw [HV.out.s.1]; exact HSZ.out.1) fun p hp => by
          obtain ⟨j, hj⟩ := List.getElem?_of_mem hp
          obtain ⟨q, hq, _, e2, _, e4⟩ := HV.out.s.symm.2 j p hj
          have := HSZ.out.2 q (List.mem_of_getElem? hq)
          rw [← e2, ← e4]
          exact ⟨this.1, this.2.1⟩
        have hkU := chk_kin HCU.out
        have HS1 : Hid (∀ W, Below wr.heap.size wr W → Calls Try.prog 15 #[.agg #[.slice A k cap], .agg #[.slice (some ⟨g, 0, none⟩) k c']] W fun e w' => e = .returned (.bool true) ∧ Below W.heap.size W w') := fun W hW => by
          have h1 : Below w.heap.size w W := HV.out.z.trans (hW.mono HV.out.z.size)
          have := same_any (ca := cap) (cb := c') (w := W) (HT.out.keep (by rw [← HBT.out]; exact h1.size) fun b hb => h1.block b (by rw [HBT.out]; exact hb)) ((HV.out.o.below hW).tr) HSZ.out hszU m (HM.out _ (by rw [← HBT.out]; exact h1))
          rw [HN.out, HV.out.s.1, HN.out] at this
          have hs : sam L U = true := by
            unfold sam
            rw [decide_eq_true HCZ.out, decide_eq_true HCU.out, HV.out.s.1]
            simp only [Bool.true_and]
            exact HV.out.s.alk (chk_kin HCZ.out) _ _ (by omega) (by omega) (by omega)
          rw [hs] at this
          exact this
        have HS2 : Hid (∀ W, Below wr.heap.size wr W → Calls Try.prog 15 #[.agg #[.slice (some ⟨g, 0, none⟩) k c'], .agg #[.slice A k cap]] W fun e w' => e = .returned (.bool true) ∧ Below W.heap.size W w') := fun W hW => by
          have h1 : Below w.heap.size w W := HV.out.z.trans (hW.mono HV.out.z.size)
          have := same_any (ca := c') (cb := cap) (w := W) ((HV.out.o.below hW).tr) (HT.out.keep (by rw [← HBT.out]; exact h1.size) fun b hb => h1.block b (by rw [HBT.out]; exact hb)) hszU HSZ.out m (HM.out _ (by rw [← HBT.out]; exact h1))
          rw [HN.out, HV.out.s.1, HN.out] at this
          have hs : sam U L = true := by
            unfold sam
            rw [decide_eq_true HCZ.out, decide_eq_true HCU.out, HV.out.s.1]
            simp only [Bool.true_and]
            have h2 := HV.out.s.symm.alk hkU (U.length + 1) ((U.length : Int) - 1) (by omega) (by omega) (by omega)
            rw [HV.out.s.1] at h2
            exact h2
          rw [hs] at this
          exact this
        have HTT : Hid (∀ W, Below wr.heap.size wr W → W.cell? ⟨bt, 0, none⟩ = some (.slice A k cap)) := fun W h => by
          have := cell_of_one ((h.block _ (lt_of_block HV.out.t)).trans HV.out.t)
          rw [HN.out] at this
          exact this
        have HUU : Hid (∀ W, Below wr.heap.size wr W → W.cell? ⟨bu, 0, none⟩ = some (.slice (some ⟨g, 0, none⟩) k c')) := fun W h => by
          have := cell_of_one ((h.block _ (lt_of_block HV.out.u)).trans HV.out.u)
          rw [HN.out] at this
          exact this
        go_wp2_with fail
        refine (HS1.out wr (Below.refl _ _)).mono ?_
        rintro e w6 ⟨rfl, hb6⟩
        have t6 := HTT.out w6 hb6
        have u6 := HUU.out w6 hb6
        have HB6 := Lib.hid hb6
        clear t0 u0 hb6
        go_wp2_with fail
        refine (HS2.out w6 HB6.out).mono ?_
        rintro e w7 ⟨rfl, hb⟩
        have HB7 := Lib.hid (HB6.out.trans (hb.mono HB6.out.size))
        have t7 := HTT.out w7 HB7.out
        have u7 := HUU.out w7 HB7.out
        clear t6 u6 hb HB6
        by_cases hat0 : at_ < 0
        · go_wp2_with fail
          go_ret
          exact ⟨rfl, HV.out.z.trans (HB7.out.mono HV.out.z.size)⟩
        obtain ⟨a, rfl⟩ : ∃ a : Nat, at_ = (a : Int) := ⟨at_.toNat, by omega⟩
        obtain ⟨r, hr⟩ : ∃ r, a % k = r := ⟨_, rfl⟩
        have hrk : r < k := by rw [← hr]; exact Nat.mod_lt _ hpos
        have hmod : (a : Int) % (k : Int) = (r : Int) := by rw [← hr]; omega
        have hkne : ¬ (k : Int) = 0 := by omega
        go_wp2_with fail
        go_quiet (fail)
        have HB9 := Lib.hid (below_drewN HB7.out nq)
        have t9 := HTT.out _ HB9.out
        have u9 := HUU.out _ HB9.out
        have HO9 := Lib.hid (HV.out.o.below HB9.out)
        clear t7 u7 HB7
        generalize w7.drewN nq = w9 at *
        obtain ⟨n, hn⟩ := get_some (show r < U.length by rw [HV.out.s.1, HN.out]; exact hrk)
        obtain ⟨⟨m0, _, m2, m3, _⟩, fz, hnb, hg1, _⟩ := ownN_facts HO9.out.n hn
        obtain ⟨cs, hcs⟩ := hnb
        have hgt : ¬ bt = g := blk_ne ((HB9.out.block _ (lt_of_block HV.out.t)).trans HV.out.t) hcs (by decide)
        have hgu : ¬ bu = g := blk_ne ((HB9.out.block _ (lt_of_block HV.out.u)).trans HV.out.u) hcs (by decide)
        have hgt2 : ¬ g = bt := fun e => hgt e.symm
        have hgu2 : ¬ g = bu := fun e => hgu e.symm
        have htx : n.text.size ≤ 200 := by
          obtain ⟨p, hp, _, e2, _⟩ := HV.out.s.symm.2 r n hn
          have := (HSP.out.1 p (List.mem_of_getElem? hp)).2
          rw [← e2]; exact this
        have htx2 : (n.text.size : Int) ≤ 200 := by omega
        have HNN := Lib.hid hn
        clear hn hcs
        by_cases hb0 : by_ = 0
        · subst hb0
          have f2 := fz (r * 5 + 2)
          have HMW := Lib.hid (HV.out.set (n' := { n with text := n.text ++ ⟨#[120]⟩ }) (v := .string (n.text ++ ⟨#[120]⟩)) (q := 2) HN.out HBT.out HB9.out HNN.out (by decide) rfl ⟨rfl, rfl, rfl⟩)
          have HA := Lib.hid (HMW.out.all HT.out HMW.out.q HN.out (by rw [List.length_set, HV.out.s.1]; exact HN.out) HSZ.out (szd_set hszU HNN.out ⟨rfl, rfl⟩ (by show (n.text ++ ⟨#[120]⟩ : ByteArray).size ≤ 1000000; rw [ByteArray.size_append]; show n.text.size + 1 ≤ _; omega)) m HM.out)
          clear fz m0 m3
          go_wp2_with fail
          refine (HA.out _ (Below.refl _ _)).2.1.mono ?_
          rintro e w11 ⟨rfl, hb⟩
          have HB11 := Lib.hid hb
          have t11 := (HA.out _ HB11.out).1.1
          have u11 := (HA.out _ HB11.out).1.2.1
          clear hb t9 u9
          obtain ⟨⟨c2, b2⟩, e2⟩ : ∃ rr, chk PW (U.set r { n with text := n.text ++ ⟨#[120]⟩ }) = rr := ⟨_, rfl⟩
          have HE2 := Lib.hid e2
          rw [e2]
          unfold flt
          dsimp only
          have hf2 := field0 c2 b2
          clear e2
          by_cases hc2 : c2 = 0
          · have hcb2 : (c2 != 0) = false := by rw [hc2]; rfl
            have hs := sam_no HV.out.s HCZ.out (n' := { n with text := n.text ++ ⟨#[120]⟩ }) HNN.out (by rw [HE2.out]; exact hc2) rfl (Or.inr (Or.inl (text_ne _)))
            have HSN := Lib.hid hs
            clear hc2 hs
            go_wp2_with fail
            have h12 := (HA.out _ HB11.out).2.2.1
            rw [HSN.out.1] at h12
            refine h12.mono ?_
            rintro e w12 ⟨rfl, hb⟩
            have HB12 := Lib.hid (HB11.out.trans (hb.mono HB11.out.size))
            have t12 := (HA.out _ HB12.out).1.1
            have u12 := (HA.out _ HB12.out).1.2.1
            clear hb h12 t11 u11
            go_wp2_with fail
            have h13 := (HA.out _ HB12.out).2.2.2
            rw [HSN.out.2] at h13
            refine h13.mono ?_
            rintro e w13 ⟨rfl, hb⟩
            have HB13 := Lib.hid (HB12.out.trans (hb.mono HB12.out.size))
            clear hb h13 t12 u12
            go_wp2_with fail
            go_ret
            rw [HBT.out]
            exact ⟨rfl, (HA.out _ HB13.out).1.2.2⟩
          · have hcb2 : (c2 != 0) = true := by rw [bne_iff_ne]; exact hc2
            go_wp2_with fail
            go_ret
            rw [HBT.out]
            exact ⟨rfl, (HA.out _ HB11.out).1.2.2⟩
        by_cases hb1 : by_ = 1
        · subst hb1
          have f3 := fz (r * 5 + 3)
          have HMW := Lib.hid (HV.out.set (n' := { n with num := wrap64 (n.num + 1) }) (v := .int .i64 (wrap64 (n.num + 1))) (q := 3) HN.out HBT.out HB9.out HNN.out (by decide) rfl ⟨rfl, rfl, rfl⟩)
          have HA := Lib.hid (HMW.out.all HT.out HMW.out.q HN.out (by rw [List.length_set, HV.out.s.1]; exact HN.out) HSZ.out (szd_set hszU HNN.out ⟨rfl, rfl⟩ (by show n.text.size ≤ 1000000; omega)) m HM.out)
          clear fz m0 m2
          go_wp2_with fail
          refine (HA.out _ (Below.refl _ _)).2.1.mono ?_
          rintro e w11 ⟨rfl, hb⟩
          have HB11 := Lib.hid hb
          have t11 := (HA.out _ HB11.out).1.1
          have u11 := (HA.out _ HB11.out).1.2.1
          clear hb t9 u9
          obtain ⟨⟨c2, b2⟩, e2⟩ : ∃ rr, chk PW (U.set r { n with num := wrap64 (n.num + 1) }) = rr := ⟨_, rfl⟩
          have HE2 := Lib.hid e2
          rw [e2]
          unfold flt
          dsimp only
          have hf2 := field0 c2 b2
          clear e2
          by_cases hc2 : c2 = 0
          · have hcb2 : (c2 != 0) = false := by rw [hc2]; rfl
            have hs := sam_no HV.out.s HCZ.out (n' := { n with num := wrap64 (n.num + 1) }) HNN.out (by rw [HE2.out]; exact hc2) rfl (Or.inr (Or.inr (wrap_ne _)))
            have HSN := Lib.hid hs
            clear hc2 hs
            go_wp2_with fail
            have h12 := (HA.out _ HB11.out).2.2.1
            rw [HSN.out.1] at h12
            refine h12.mono ?_
            rintro e w12 ⟨rfl, hb⟩
            have HB12 := Lib.hid (HB11.out.trans (hb.mono HB11.out.size))
            have t12 := (HA.out _ HB12.out).1.1
            have u12 := (HA.out _ HB12.out).1.2.1
            clear hb h12 t11 u11
            go_wp2_with fail
            have h13 := (HA.out _ HB12.out).2.2.2
            rw [HSN.out.2] at h13
            refine h13.mono ?_
            rintro e w13 ⟨rfl, hb⟩
            have HB13 := Lib.hid (HB12.out.trans (hb.mono HB12.out.size))
            clear hb h13 t12 u12
            go_wp2_with fail
            go_ret
            rw [HBT.out]
            exact ⟨rfl, (HA.out _ HB13.out).1.2.2⟩
          · have hcb2 : (c2 != 0) = true := by rw [bne_iff_ne]; exact hc2
            go_wp2_with fail
            go_ret
            rw [HBT.out]
            exact ⟨rfl, (HA.out _ HB11.out).1.2.2⟩
        by_cases hb2 : by_ = 2
        · subst hb2
          have f0 := fz (r * 5)
          have HMW := Lib.hid (HV.out.set (n' := { n with kind := wrap64 (n.kind + 1) }) (v := .int .i64 (wrap64 (n.kind + 1))) (q := 0) HN.out HBT.out HB9.out HNN.out (by decide) rfl ⟨rfl, rfl, rfl⟩)
          have HA := Lib.hid (HMW.out.all HT.out HMW.out.q HN.out (by rw [List.length_set, HV.out.s.1]; exact HN.out) HSZ.out (szd_set hszU HNN.out ⟨rfl, rfl⟩ (by show n.text.size ≤ 1000000; omega)) m HM.out)
          clear fz m2 m3
          go_wp2_with fail
          refine (HA.out _ (Below.refl _ _)).2.1.mono ?_
          rintro e w11 ⟨rfl, hb⟩
          have HB11 := Lib.hid hb
          have t11 := (HA.out _ HB11.out).1.1
          have u11 := (HA.out _ HB11.out).1.2.1
          clear hb t9 u9
          obtain ⟨⟨c2, b2⟩, e2⟩ : ∃ rr, chk PW (U.set r { n with kind := wrap64 (n.kind + 1) }) = rr := ⟨_, rfl⟩
          have HE2 := Lib.hid e2
          rw [e2]
          unfold flt
          dsimp only
          have hf2 := field0 c2 b2
          clear e2
          by_cases hc2 : c2 = 0
          · have hcb2 : (c2 != 0) = false := by rw [hc2]; rfl
            have hs := sam_no HV.out.s HCZ.out (n' := { n with kind := wrap64 (n.kind + 1) }) HNN.out (by rw [HE2.out]; exact hc2) rfl (Or.inl (wrap_ne _))
            have HSN := Lib.hid hs
            clear hc2 hs
            go_wp2_with fail
            have h12 := (HA.out _ HB11.out).2.2.1
            rw [HSN.out.1] at h12
            refine h12.mono ?_
            rintro e w12 ⟨rfl, hb⟩
            have HB12 := Lib.hid (HB11.out.trans (hb.mono HB11.out.size))
            have t12 := (HA.out _ HB12.out).1.1
            have u12 := (HA.out _ HB12.out).1.2.1
            clear hb h12 t11 u11
            go_wp2_with fail
            have h13 := (HA.out _ HB12.out).2.2.2
            rw [HSN.out.2] at h13
            refine h13.mono ?_
            rintro e w13 ⟨rfl, hb⟩
            have HB13 := Lib.hid (HB12.out.trans (hb.mono HB12.out.size))
            clear hb h13 t12 u12
            go_wp2_with fail
            go_ret
            rw [HBT.out]
            exact ⟨rfl, (HA.out _ HB13.out).1.2.2⟩
          · have hcb2 : (c2 != 0) = true := by rw [bne_iff_ne]; exact hc2
            go_wp2_with fail
            go_ret
            rw [HBT.out]
            exact ⟨rfl, (HA.out _ HB11.out).1.2.2⟩
        go_wp2_with fail
        go_ret
        exact ⟨rfl, HV.out.z.trans (HB9.out.mono HV.out.z.size)⟩
  · have hcb : (c1 != 0) = true := by rw [bne_iff_ne]; exact hc1
    go_wp2_with fail
    go_ret
    exact ⟨rfl, HZ3.out⟩
end Go.Proofs.Ytaonojimpfhkfaa.As
