/- check.node: what is wrong with a node, if those ahead of it aren't. -/
import Derived.Test.YtaonojimpfhkfaaAstE
import Derived.BigRegion
namespace Go.Proofs.Ytaonojimpfhkfaa.As
open Go.RowKit Go.ChangeShapes Go.WideShapes Go.ChangeAt

/-- What a node's check leaves. -/
def Noded (B cb kb db cap : Nat) (A : Option Addr) (w w' : World) (L : List Nd) (D rest : List Int) (r : Ns) : Prop :=
  Below B w w' ∧ (r.code = 0 → Ck B cb kb db A cap w' L r.kid (D ++ r.deep :: rest))
theorem A.infoI : (Try.prog.info? 3).map (fun i => (i.zero, i.size, i.bytes)) = some (some (.int .i64 0), 1, 8) := by kernel_rfl
theorem nd_cells {w : World} {g : Nat} {n : Nd} (h : w.heap[g]? = some (.cells #[.int .i64 n.kind, .int .i64 n.loc, .string n.text, .int .i64 n.num, .slice n.ka n.kids.length n.kc] 37 (0, 0))) :
    w.cell? ⟨g, 0, none⟩ = some (.int .i64 n.kind) ∧ w.cell? ⟨g, 1, none⟩ = some (.int .i64 n.loc) ∧ w.cell? ⟨g, 2, none⟩ = some (.string n.text) ∧ w.cell? ⟨g, 3, none⟩ = some (.int .i64 n.num) ∧ w.cell? ⟨g, 4, none⟩ = some (.slice n.ka n.kids.length n.kc) := by
  refine ⟨?_, ?_, ?_, ?_, ?_⟩ <;> rw [cell_of_row _ _ _ _ _ _ h] <;> rfl
theorem nod_alone {P : Words} {L : List Nd} {D : List Int} {i : Nat} {n : Nd} {K : List Bool} (h : aloneB P n = false) : nodC P L D i n K = ⟨5, K, 0⟩ := by unfold nodC; rw [if_pos h]
theorem nod_kid {P : Words} {L : List Nd} {D : List Int} {i : Nat} {n : Nd} {K : List Bool} (h : aloneB P n = true) (h2 : (goK L D i n.kids K 0 []).code ≠ 0) : nodC P L D i n K = ⟨(goK L D i n.kids K 0 []).code, (goK L D i n.kids K 0 []).kid, 0⟩ := by
  unfold nodC; rw [if_neg (by rw [h]; simp), if_pos h2]
theorem nod_type {P : Words} {L : List Nd} {D : List Int} {i : Nat} {n : Nd} {K Kc : List Bool} {dc : Int} {ks : List Int} (h : aloneB P n = true) (h2 : goK L D i n.kids K 0 [] = ⟨0, Kc, dc, ks⟩) (h3 : kidsB L n ks = false) : nodC P L D i n K = ⟨30, Kc, 0⟩ := by
  unfold nodC; rw [if_neg (by rw [h]; simp), h2, if_neg (by simp), if_pos h3]
theorem nod_deep {P : Words} {L : List Nd} {D : List Int} {i : Nat} {n : Nd} {K Kc : List Bool} {dc : Int} {ks : List Int} (h : aloneB P n = true) (h2 : goK L D i n.kids K 0 [] = ⟨0, Kc, dc, ks⟩) (h3 : kidsB L n ks = true) (h4 : 200 < dc) : nodC P L D i n K = ⟨6, Kc, 0⟩ := by
  unfold nodC; rw [if_neg (by rw [h]; simp), h2, if_neg (by simp), if_neg (by simp [h3]), if_pos h4]
theorem nod_ok {P : Words} {L : List Nd} {D : List Int} {i : Nat} {n : Nd} {K Kc : List Bool} {dc : Int} {ks : List Int} (h : aloneB P n = true) (h2 : goK L D i n.kids K 0 [] = ⟨0, Kc, dc, ks⟩) (h3 : kidsB L n ks = true) (h4 : ¬ 200 < dc) : nodC P L D i n K = ⟨0, Kc, dc⟩ := by
  unfold nodC; rw [if_neg (by rw [h]; simp), h2, if_neg (by simp), if_neg (by simp [h3]), if_neg h4]
theorem goK_far {L : List Nd} {D : List Int} {i : Nat} {x : Int} {r : List Int} {K : List Bool} {d : Int} {ks : List Int} (h : x < -1 ∨ (i : Int) ≤ x) : goK L D i (x :: r) K d ks = ⟨3, K, d, ks⟩ := by rw [goK, if_pos h]
theorem goK_none {L : List Nd} {D : List Int} {i : Nat} {r : List Int} {K : List Bool} {d : Int} {ks : List Int} : goK L D i (-1 :: r) K d ks = goK L D i r K d (ks ++ [0]) := by rw [goK, if_neg (by omega), if_pos rfl]
theorem goK_twice {L : List Nd} {D : List Int} {i j : Nat} {r : List Int} {K : List Bool} {d : Int} {ks : List Int} (hj : j < i) (h : K[j]? = some true) : goK L D i ((j : Int) :: r) K d ks = ⟨4, K, d, ks⟩ := by
  rw [goK, if_neg (by omega), if_neg (by omega), if_pos (by rw [Int.toNat_natCast]; exact h)]
theorem goK_yes {L : List Nd} {D : List Int} {i j : Nat} {r : List Int} {K : List Bool} {d : Int} {ks : List Int} (hj : j < i) (h : K[j]? = some false) : goK L D i ((j : Int) :: r) K d ks = goK L D i r (K.set j true) (max d (D.getD j 0 + 1)) (ks ++ [kindAt L j]) := by
  rw [goK, if_neg (by omega), if_neg (by omega), if_neg (by rw [Int.toNat_natCast, h]; simp), Int.toNat_natCast]
theorem ks_snoc (ks : List Int) (M k : Nat) (v : Int) (hk : ks.length = k) (hM : k < M) : (ks ++ List.replicate (M - k) 0).set k v = (ks ++ [v]) ++ List.replicate (M - (k + 1)) 0 := by
  obtain ⟨j, hj⟩ : ∃ j, M - k = j + 1 := ⟨M - k - 1, by omega⟩
  rw [hj, show M - (k + 1) = j by omega, List.replicate_succ, ← hk]
  simp
theorem blk_free {w : World} {g i : Nat} {cs : Array Value} {t : TypeId} (h : w.heap[g]? = some (.cells cs t (0, 0))) : w.frozen? ⟨g, i, none⟩ = false := by simp [World.frozen?, h]
/-- A round's memory. -/
structure Rnd (B cb kb db cap q bx : Nat) (A : Option Addr) (w wr : World) (L : List Nd) (D rest : List Int) (n : Nd) (k : Nat) (Kc : List Bool) (dc : Int) (ks : List Int) : Prop where
  c : Ck B cb kb db A cap wr L Kc (D ++ dc :: rest)
  q : wr.heap[q]? = some (.cells (((ks ++ List.replicate (n.kids.length - k) 0).map (Value.int .i64)).toArray) 3 (0, 0))
  x : wr.heap[bx]? = some (.cells #[.int .i64 n.kind, .int .i64 n.loc, .string n.text, .int .i64 n.num, .slice n.ka n.kids.length n.kc] 37 (0, 0))
  z : Below B w wr
  l : ks.length = k
  e : Kc.length = L.length
set_option maxRecDepth 100000 in
set_option maxHeartbeats 8000000 in
theorem node_any {B cb kb db cap : Nat} {A : Option Addr} {w : World} {L : List Nd} {K : List Bool} {D rest : List Int} (i : Nat) (n : Nd) (h : Ck B cb kb db A cap w L K (D ++ 0 :: rest)) (hD : D.length = i) (hn : L[i]? = some n) (hK : K.length = L.length) (hDL : (D ++ 0 :: rest).length = L.length) (hsz : Szd L)
    (m : Int) (hm : w.cell? ⟨0, 0, none⟩ = some (.int .i64 m)) (h0 : 0 < B) (hB : B ≤ w.heap.size) (hearly : ∀ (j : Nat) (p : Nd), j < i → L[j]? = some p → p.kind = 24 → ∃ y r, p.kids = y :: r) (hdeep : ∀ d ∈ D, 0 ≤ d ∧ d ≤ 200) :
    Calls Try.prog 34 #[.pointer (some ⟨cb, 0, none⟩), .int .i64 (i : Int)] w fun e w' => e = .returned (.int .i64 (nodC PW L D i n K).code) ∧ Noded B cb kb db cap A w w' L D rest (nodC PW L D i n K) := by
  obtain ⟨r, hr⟩ : ∃ r, nodC PW L D i n K = r := ⟨_, rfl⟩
  rw [hr]
  have HR := Lib.hid hr
  clear hr
  have hil := get_lt hn
  have hsn := hsz.2 n (List.mem_of_getElem? hn)
  obtain ⟨g, o, rfl, hg, hN⟩ := h.t.at_ hn
  have c0 := h.cells.1
  have hLN := hsz.1
  have hi1 : (i : Int) < (L.length : Int) := by omega
  have hi0 : (0 : Int) ≤ (i : Int) := by omega
  obtain ⟨n0, n1, n2, n3, n4, hrow⟩ := hN
  have hbw := bel1 w (.cells #[.int .i64 n.kind, .int .i64 n.loc, .string n.text, .int .i64 n.num, .slice n.ka n.kids.length n.kc] 37)
  have hnew := new1 w (.cells #[.int .i64 n.kind, .int .i64 n.loc, .string n.text, .int .i64 n.num, .slice n.ka n.kids.length n.kc] 37)
  have HBW := Lib.hid hbw
  have HNW := Lib.hid hnew
  have HAL := Lib.hid (fun W (hW : Below w.heap.size w W) => alone_any (w := W) n hsn.1 m ((World.cell?_of_block (a := ⟨0, 0, none⟩) (hW.block 0 (by omega))).trans hm))
  have HH := Lib.hid h
  have HROW := Lib.hid hrow
  have HSZ := Lib.hid hsz
  have HSN := Lib.hid hsn
  have HLN := Lib.hid hLN
  have HE := Lib.hid hearly
  have HDP := Lib.hid hdeep
  have HN := Lib.hid hn
  have HD := Lib.hid hD
  have HK := Lib.hid hK
  have HDL := Lib.hid hDL
  have HBS := Lib.hid hB
  clear h hrow hsz hsn hLN hearly hdeep hn hD hK hDL hB hbw hnew hm hil
  go_enter Try.func34, Try.ntmps34
  go_wp2_with fail
  cases hal : aloneB PW n
  · have HF := Lib.hid (nod_alone (L := L) (D := D) (i := i) (K := K) hal)
    have HAF := Lib.hid (HAL.out _ HBW.out)
    rw [hal] at HAF
    unfold nv at HAF
    clear hal HAL
    refine HAF.out.mono ?_
    rintro e w1 ⟨rfl, hb1⟩
    have HZ := Lib.hid ((HBW.out.trans (hb1.mono HBW.out.size)).mono HBS.out)
    clear hb1
    go_wp2_with fail
    go_ret
    rw [← HR.out, HF.out]
    exact ⟨rfl, HZ.out, fun e => by simp at e⟩
  · have HA := Lib.hid hal
    have HAT := Lib.hid (HAL.out _ HBW.out)
    rw [hal] at HAT
    unfold nv at HAT
    clear hal HAL
    refine HAT.out.mono ?_
    rintro e w1 ⟨rfl, hb1⟩
    have hz1 := HBW.out.trans (hb1.mono HBW.out.size)
    have hx1 := (hb1.block _ (lt_of_block HNW.out)).trans HNW.out
    have f4 := (nd_cells hx1).2.2.2.2
    have HC1 := Lib.hid (HH.out.below hz1)
    have HX1 := Lib.hid hx1
    have HZ1 := Lib.hid hz1
    obtain ⟨M, hM⟩ : ∃ M, n.kids.length = M := ⟨_, rfl⟩
    rw [hM] at f4
    have HM := Lib.hid hM
    have hMb : (M : Int) ≤ 1000000 := by have := HSN.out.2.1; omega
    obtain ⟨ib, hib, hb0, hb1', hb2'⟩ := info_parts A.infoI
    have mkI : ∀ W, (Instr.makeSlice 35 (.int .i64 (M : Int)) (.int .i64 (M : Int))).run Try.prog W = .ok (.slice (some ⟨W.heap.size, 0, none⟩) M M) (W.alloc (.cells (((List.replicate M (0 : Int)).map (Value.int .i64)).toArray) 3)) := fun W => by
      have := run_makeSlice (P := Try.prog) W 35 3 ib _ Try.underlying35 hib hb0 .i64 .i64 (M : Int) (M : Int) (by omega) (by omega) (by rw [hb1']; simp; omega) (by rw [hb2']; omega) (by omega)
      rw [hb1'] at this
      rw [show (((List.replicate M (0 : Int)).map (Value.int .i64)).toArray) = madeCells (Value.int .i64 0).cells (M * 1) by
        apply Array.toList_inj.1
        show _ = (madeCells #[.int .i64 0] (M * 1)).toList
        rw [Nat.mul_one, toList_madeCells_one, List.map_replicate]]
      exact this
    generalize hAB : ((List.replicate M (0 : Int)).map (Value.int .i64)).toArray = AB at *
    have HAB := Lib.hid hAB
    have f4' : (w1.alloc (.cells AB 3)).cell? ⟨w.heap.size, 4, none⟩ = some (.slice n.ka M n.kc) := (World.cell?_of_block (a := ⟨w.heap.size, 4, none⟩) ((bel1 w1 _).block _ (lt_of_block hx1))).trans f4
    clear hb1 hz1 hx1 hM hAB n0 n1 n2 n3 n4 hib hb0 hb1' hb2' c0
    go_wp2_with fail
    have hne : ∀ g : Nat, g < w.heap.size → w1.heap.size ≠ g := fun g hg => by have := HZ1.out.size; omega
    have HQ : Hid (w1.heap.size ≠ cb ∧ w1.heap.size ≠ kb ∧ w1.heap.size ≠ db ∧ w1.heap.size ≠ w.heap.size ∧ w.heap.size ≠ cb ∧ w.heap.size ≠ kb ∧ w.heap.size ≠ db ∧ B ≤ w1.heap.size) := by
      have h1 := lt_of_block HH.out.c
      have h2 := lt_of_block HH.out.k
      have h3 := lt_of_block HH.out.d
      have h4 := lt_of_block HX1.out
      have h5 := HZ1.out.size
      have h6 := HBS.out
      refine ⟨?_, ?_, ?_, ?_, ?_, ?_, ?_, ?_⟩ <;> omega
    have HRD0 : Hid (Rnd B cb kb db cap w1.heap.size w.heap.size (some ⟨g, o, none⟩) w (w1.alloc (.cells AB 3)) L D rest n 0 K 0 []) := by
      refine ⟨HC1.out.below (bel1 w1 _), ?_, ((bel1 w1 _).block _ (lt_of_block HX1.out)).trans HX1.out, (HZ1.out.mono HBS.out).alloc (by have := HZ1.out.size; have := HBS.out; omega) _, rfl, HK.out⟩
      rw [new1 w1 _, ← HAB.out, HM.out]; simp
    clear mkI f4 f4' hne HX1 HZ1 HC1 HAB HAT HNW
    generalize w1.alloc (.cells AB 3) = w2 at *
    generalize w1.heap.size = q at *
    generalize hbx : w.heap.size = bx at *
    have HBX := Lib.hid hbx
    clear hbx
    go_loopw [26] (fun j wr => ∃ (k : Nat) (Kc : List Bool) (dc : Int) (ks : List Int), k ≤ M ∧ j = .int .i64 (k : Int) ∧ Hid (goK L D i n.kids K 0 [] = goK L D i (n.kids.drop k) Kc dc ks) ∧ Hid (Rnd B cb kb db cap q bx (some ⟨g, o, none⟩) w wr L D rest n k Kc dc ks)) (fun j _ => M - (intOf j).toNat)
    case atStart => exact ⟨0, K, 0, [], Nat.zero_le _, rfl, rfl, HRD0.out⟩
    case round =>
      obtain ⟨k, Kc, dc, ks, hk, rfl, HG, HRD⟩ := hrel
      by_cases hlt : k < M
      · obtain ⟨x, hx⟩ := get_some (show k < n.kids.length by have := HM.out; omega)
        obtain ⟨gr, or_, hka, hgr, hcx⟩ := (HROW.out.keep (w' := wr) (Nat.le_refl B) fun b hb => HRD.out.z.block b hb).at_ hx
        rw [hka]
        have HDR := Lib.hid (drop_get hx)
        clear hx
        by_cases h1 : x < -1
        · have HF := Lib.hid (nod_kid (L := L) (D := D) (i := i) (n := n) (K := K) HA.out (by rw [HG.out, HDR.out, goK_far (Or.inl h1)]; simp))
          rw [HG.out, HDR.out, goK_far (Or.inl h1)] at HF
          clear HG HDR
          go_wp2_with fail
          go_ret
          rw [← HR.out, HF.out]
          exact ⟨rfl, HRD.out.z, fun e => by simp at e⟩
        · by_cases h2 : (i : Int) ≤ x
          · have HF := Lib.hid (nod_kid (L := L) (D := D) (i := i) (n := n) (K := K) HA.out (by rw [HG.out, HDR.out, goK_far (Or.inr h2)]; simp))
            rw [HG.out, HDR.out, goK_far (Or.inr h2)] at HF
            clear HG HDR
            go_wp2_with fail
            go_ret
            rw [← HR.out, HF.out]
            exact ⟨rfl, HRD.out.z, fun e => by simp at e⟩
          · by_cases h3 : x = -1
            · subst h3
              have HG2 : Hid (goK L D i n.kids K 0 [] = goK L D i (n.kids.drop (k + 1)) Kc dc (ks ++ [0])) := by show _ = _; rw [HG.out, HDR.out, goK_none]
              have HRD2 : Hid (Rnd B cb kb db cap q bx (some ⟨g, o, none⟩) w wr L D rest n (k + 1) Kc dc (ks ++ [0])) := by
                refine ⟨HRD.out.c, ?_, HRD.out.x, HRD.out.z, by rw [List.length_append, HRD.out.l]; rfl, HRD.out.e⟩
                rw [HRD.out.q]
                have e := ks_snoc ks n.kids.length k 0 HRD.out.l (by have := HM.out; omega)
                rw [← e]
                have e2 : (ks ++ List.replicate (n.kids.length - k) (0 : Int)).set k 0 = ks ++ List.replicate (n.kids.length - k) 0 := by
                  obtain ⟨j, hj⟩ : ∃ j, n.kids.length - k = j + 1 := ⟨n.kids.length - k - 1, by have := HM.out; omega⟩
                  rw [hj, List.replicate_succ, ← HRD.out.l]; simp
                rw [e2]
              clear HG HRD HDR h1 h2
              go_wp2_with fail
              go_roundw
              case rel => exact ⟨k + 1, Kc, dc, ks ++ [0], by omega, by go_num, HG2.out, HRD2.out⟩
              case measure => simp [intOf]; omega
            · obtain ⟨j, rfl⟩ : ∃ j : Nat, x = (j : Int) := ⟨x.toNat, by omega⟩
              have hji : j < i := by omega
              have h3b : ((j : Int) == -1) = false := by simp
              have h1b : ¬ (j : Int) < -1 := h1
              have h2b : ¬ (i : Int) ≤ (j : Int) := h2
              have c1 := HRD.out.c.cells.2.1
              have hjk : (j : Int) < (Kc.length : Int) := by have := HRD.out.e; omega
              obtain ⟨b, hb⟩ := get_some (show j < Kc.length by omega)
              have ck := HRD.out.c.cellk hb
              cases b
              · have HKV : Hid (Kc[j]? = some false) := hb
                have hdl : (D ++ dc :: rest).length = L.length := by have := HDL.out; simpa using this
                have HCK := Lib.hid (HRD.out.c.setk j)
                have HZK := Lib.hid (HRD.out.z.setCell (p := ⟨kb, j, none⟩) HRD.out.c.bk (.bool true))
                have fk : wr.frozen? ⟨kb, j, none⟩ = false := blk_free HRD.out.c.k
                have HQ2 := Lib.hid (blk_far HRD.out.q (p := ⟨kb, j, none⟩) HQ.out.2.1 (.bool true))
                have HX2 := Lib.hid (blk_far HRD.out.x (p := ⟨kb, j, none⟩) HQ.out.2.2.2.2.2.1 (.bool true))
                clear hb
                go_wp2_with fail
                generalize wr.setCell ⟨kb, j, none⟩ (.bool true) = w4 at *
                obtain ⟨d0, d1, d2⟩ := HCK.out.cells
                clear c1 ck fk hcx
                rw [hdl] at d2
                have hdi := HCK.out.celld (x := i) (b := dc) (by have := get_mid D dc rest; rw [HD.out] at this; exact this)
                obtain ⟨v, hv⟩ := get_some (show j < D.length by have := HD.out; omega)
                have hvd : D.getD j 0 = v := by rw [List.getD_eq_getElem?_getD, hv]; rfl
                have hdj := HCK.out.celld (x := j) (b := v) (by rw [← hvd]; exact get_front (by have := HD.out; omega))
                have hv0 := (HDP.out v (List.mem_of_getElem? hv)).1
                have hv1 := (HDP.out v (List.mem_of_getElem? hv)).2
                have HVD := Lib.hid hvd
                have hvw : IntKind.i64.wrap (v + 1) = v + 1 := by rw [IntKind.wrap_i64]; omega
                clear hv hvd
                have hjL : (j : Int) < (L.length : Int) := by omega
                have fd : w4.frozen? ⟨db, i, none⟩ = false := blk_free HCK.out.d
                go_region
                have HCD := Lib.hid ((HCK.out.setd i (max dc (v + 1))).below (Below.refl _ _).drew)
                rw [show (D ++ dc :: rest).set i (max dc (v + 1)) = D ++ max dc (v + 1) :: rest by rw [← HD.out]; exact set_mid _ _ _ _] at HCD
                have HQ3 := Lib.hid (blk_far HQ2.out (p := ⟨db, i, none⟩) HQ.out.2.2.1 (.int .i64 (max dc (v + 1))))
                have HX3 := Lib.hid (blk_far HX2.out (p := ⟨db, i, none⟩) HQ.out.2.2.2.2.2.2.1 (.int .i64 (max dc (v + 1))))
                have HZ3 := Lib.hid (HZK.out.setCell (p := ⟨db, i, none⟩) HCK.out.bd (.int .i64 (max dc (v + 1)))).drew
                have HQ3d : Hid ((w4.setCell ⟨db, i, none⟩ (.int .i64 (max dc (v + 1)))).drew.heap[q]? = _) := HQ3.out
                have HX3d : Hid ((w4.setCell ⟨db, i, none⟩ (.int .i64 (max dc (v + 1)))).drew.heap[bx]? = _) := HX3.out
                clear d0 d1 d2 hdi hdj fd hvw HQ3 HX3 HQ2 HX2 HCK HZK
                generalize (w4.setCell ⟨db, i, none⟩ (.int .i64 (max dc (v + 1)))).drew = w5 at *
                obtain ⟨p, hp⟩ := get_some (show j < L.length by omega)
                obtain ⟨g2, o2, he2, _, hNp⟩ := HCD.out.t.at_ hp
                obtain ⟨rfl, rfl⟩ : g = g2 ∧ o = o2 := by simpa using he2
                have p0 := hNp.k
                have d0 := HCD.out.cells.1
                have fq : w5.frozen? ⟨q, k, none⟩ = false := blk_free HQ3d.out
                have hkM : (k : Int) < (M : Int) := by omega
                have HKD : Hid (kindAt L j = p.kind) := by show _ = _; unfold kindAt; rw [hp]
                have hqc : w5.cell? ⟨q, k, none⟩ = some (.int .i64 0) := by
                  rw [cell_of_row _ _ _ _ _ _ HQ3d.out]
                  obtain ⟨j', hj'⟩ : ∃ j, n.kids.length - k = j + 1 := ⟨n.kids.length - k - 1, by have := HM.out; omega⟩
                  rw [hj', List.replicate_succ]
                  simp [HRD.out.l]
                clear hp hNp he2
                go_wp2_with fail
                go_roundw
                case rel =>
                  refine ⟨k + 1, Kc.set j true, max dc (v + 1), ks ++ [p.kind], by omega, by go_num, ?_, ?_⟩
                  · show _ = _
                    rw [HG.out, HDR.out, goK_yes hji HKV.out, HVD.out, HKD.out]
                  · refine ⟨HCD.out.far _ HQ.out.1 HQ.out.2.1 HQ.out.2.2.1 HQ.out.2.2.2.2.2.2.2, ?_, blk_far HX3d.out (fun e => HQ.out.2.2.2.1 e.symm) _, HZ3.out.setCell (p := ⟨q, k, none⟩) HQ.out.2.2.2.2.2.2.2 _, by rw [List.length_append, HRD.out.l]; rfl, by rw [List.length_set]; exact HRD.out.e⟩
                    rw [heap_setCell_same _ _ _ _ _ _ HQ3d.out, ← ks_snoc ks n.kids.length k p.kind HRD.out.l (by have := HM.out; omega)]
                    simp [List.map_set]
                case measure => simp [intOf]; omega
              · have HF := Lib.hid (nod_kid (L := L) (D := D) (i := i) (n := n) (K := K) HA.out (by rw [HG.out, HDR.out, goK_twice hji hb]; simp))
                rw [HG.out, HDR.out, goK_twice hji hb] at HF
                clear HG HDR hb
                go_wp2_with fail
                go_ret
                rw [← HR.out, HF.out]
                exact ⟨rfl, HRD.out.z, fun e => by simp at e⟩
      · have hke : k = M := by omega
        subst hke
        have HG2 : Hid (goK L D i n.kids K 0 [] = ⟨0, Kc, dc, ks⟩) := by show _ = _; rw [HG.out, List.drop_eq_nil_of_le (by have := HM.out; omega)]; rfl
        obtain ⟨x0, x1, x2, x3, x4⟩ := nd_cells HRD.out.x
        have HKS : Hid (ks = n.kids.map (kk L) ∧ ∀ x ∈ n.kids, x = -1 ∨ (0 ≤ x ∧ x < (i : Int))) := by
          have := goK_kinds L D i n.kids K 0 [] (by rw [HG2.out])
          rw [HG2.out] at this
          show _ ∧ _
          simpa using this
        have hKA := kids_any (w := wr) (KA := some ⟨q, 0, none⟩) (c := k) (ks := ks) n HRD.out.c HLN.out (rowI_new (by have := HRD.out.q; rw [HM.out, Nat.sub_self, List.replicate_zero, List.append_nil] at this; exact this) (lt_of_block HRD.out.q)) (by have := HRD.out.l; have := HSN.out.2.1; have := HM.out; omega) (Nat.le_of_eq HRD.out.l) (HROW.out.keep (w' := wr) (Nat.le_refl B) fun b hb => HRD.out.z.block b hb) (by have := HRD.out.z.size; have := HBS.out; have := HBX.out; omega) (by rw [HRD.out.l, HM.out]) HSN.out.2.2 (by
          intro hh x hx
          obtain ⟨e1, e2⟩ := HKS.out
          have hx' : x ∈ n.kids := List.mem_of_mem_drop hx
          have hkx : kk L x = 24 := by
            rw [e1] at hh
            cases hkk : n.kids with
            | nil => rw [hkk] at hx; simp at hx
            | cons y r =>
              rw [hkk] at hh hx
              simp only [List.map_cons, headB, Bool.and_eq_true, allB, List.all_eq_true, List.mem_map] at hh
              have := hh.2 (kk L x) ⟨x, by simpa using hx, rfl⟩
              simpa [Tst.ok] using this
          rcases e2 x hx' with rfl | ⟨a1, a2⟩
          · simp [kk] at hkx
          · obtain ⟨j, rfl⟩ : ∃ j : Nat, x = (j : Int) := ⟨x.toNat, by omega⟩
            obtain ⟨p, hp⟩ := get_some (show j < L.length by have := get_lt HN.out; omega)
            have hk24 : p.kind = 24 := by
              unfold kk kindAt at hkx
              rw [if_neg (by omega), Int.toNat_natCast, hp] at hkx
              exact hkx
            obtain ⟨y, r, hyr⟩ := HE.out j p (by omega) hp hk24
            exact ⟨j, p, y, r, rfl, hp, hyr⟩)
        rw [HRD.out.l] at hKA
        unfold nv at hKA
        have HKA := Lib.hid hKA
        have hdl : (D ++ dc :: rest).length = L.length := by have := HDL.out; simpa using this
        clear hKA HKS HG hlt
        cases hkb : kidsB L n ks
        · have HF := Lib.hid (nod_type HA.out HG2.out hkb)
          rw [hkb] at HKA
          clear hkb
          go_wp2_with fail
          refine HKA.out.mono ?_
          rintro e w3 ⟨rfl, hb3⟩
          have HZ3 := Lib.hid (HRD.out.z.trans (hb3.mono (by have := HRD.out.z.size; have := HBS.out; have := HBX.out; omega)))
          clear hb3
          go_wp2_with fail
          go_ret
          rw [← HR.out, HF.out]
          exact ⟨rfl, HZ3.out, fun e => by simp at e⟩
        · have HKB := Lib.hid hkb
          rw [hkb] at HKA
          clear hkb
          go_wp2_with fail
          refine HKA.out.mono ?_
          rintro e w3 ⟨rfl, hb3⟩
          have HZ3 := Lib.hid (HRD.out.z.trans (hb3.mono (by have := HRD.out.z.size; have := HBS.out; have := HBX.out; omega)))
          have HC3 := Lib.hid (HRD.out.c.below hb3)
          obtain ⟨d0, d1, d2⟩ := HC3.out.cells
          rw [hdl] at d2
          have hdi := HC3.out.celld (x := i) (b := dc) (by have := get_mid D dc rest; rw [HD.out] at this; exact this)
          clear hb3 x0 x1 x2 x3 x4
          by_cases h200 : 200 < dc
          · have HF := Lib.hid (nod_deep HA.out HG2.out HKB.out h200)
            go_wp2_with fail
            go_ret
            rw [← HR.out, HF.out]
            exact ⟨rfl, HZ3.out, fun e => by simp at e⟩
          · have HF := Lib.hid (nod_ok HA.out HG2.out HKB.out h200)
            go_wp2_with fail
            go_ret
            rw [← HR.out, HF.out]
            exact ⟨rfl, HZ3.out, fun _ => HC3.out⟩
end Go.Proofs.Ytaonojimpfhkfaa.As
