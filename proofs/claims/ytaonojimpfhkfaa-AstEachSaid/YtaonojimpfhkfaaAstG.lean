/- ast.Check. -/
import Derived.Test.YtaonojimpfhkfaaAstF
import Derived.Deep.LoopGhost
import Derived.Deep.DeepCutAuto
namespace Go.Proofs.Ytaonojimpfhkfaa.As
open Go.RowKit Go.ChangeShapes Go.WideShapes Go.ChangeAt

theorem A.infoF : (Try.prog.info? 31).map (·.size) = some 2 := by kernel_rfl
theorem A.infoB : (Try.prog.info? 4).map (fun i => (i.zero, i.size, i.bytes)) = some (some (.bool false), 1, 1) := by kernel_rfl
theorem results_one {P : Program} {fn : Func} {p : Tmp} {ty : TypeId} (h : fn.results = #[.cell p ty]) (tmps : Array Value) (w : World) (g : Nat) (t : TypeId) (cs : Array Value) (fr : Nat × Nat) (d : TypeDesc)
    (hp : tmps.getD p undef = .pointer (some ⟨g, 0, none⟩)) (hg : w.heap[g]? = some (.cells cs t fr))
    (hu : P.underlying ty = some d) (hd : (match d with | .struct _ | .array _ _ => true | _ => false) = true) (hi : (P.info? ty).map (·.size) = some cs.size) :
    (results fn tmps).run P w = .ok (.agg cs) w := by
  have hp' : tmps[p]?.getD undef = .pointer (some ⟨g, 0, none⟩) := by simpa using hp
  simp [results, h, hp', asAddr, run_loadVar_row w g t ty cs fr d hg hu hd hi]
theorem fault_facts {w : World} {g : Nat} {x y : Value} {t : TypeId} (h : w.heap[g]? = some (.cells #[x, y] t)) : w.cell? ⟨g, 0, none⟩ = some x ∧ w.cell? ⟨g, 1, none⟩ = some y ∧ w.frozen? ⟨g, 0, none⟩ = false ∧ w.frozen? ⟨g, 1, none⟩ = false := by
  refine ⟨?_, ?_, by simp [World.frozen?, h], by simp [World.frozen?, h]⟩ <;> rw [cell_of_row _ _ _ _ _ _ h] <;> rfl
theorem heap_fault {w : World} {g : Nat} {x y : Value} {t : TypeId} (h : w.heap[g]? = some (.cells #[x, y] t)) (u v : Value) : ((w.setCell ⟨g, 0, none⟩ u).setCell ⟨g, 1, none⟩ v).heap[g]? = some (.cells #[u, v] t) := by
  rw [heap_setCell_same _ _ _ _ _ _ (heap_setCell_same _ _ _ _ _ _ h)]
  rfl
theorem new3 (w : World) (X Y Z : Obj) : (((w.alloc X).alloc Y).alloc Z).drew.heap[w.heap.size]? = some X ∧ (((w.alloc X).alloc Y).alloc Z).drew.heap[w.heap.size + 1]? = some Y ∧ (((w.alloc X).alloc Y).alloc Z).drew.heap[w.heap.size + 1 + 1]? = some Z ∧ Below w.heap.size w (((w.alloc X).alloc Y).alloc Z).drew := by
  have e1 : (w.alloc X).heap.size = w.heap.size + 1 := by simp
  have e2 : ((w.alloc X).alloc Y).heap.size = w.heap.size + 1 + 1 := by simp
  have z := heap_alloc_new ((w.alloc X).alloc Y) Z
  have y := heap_alloc_new (w.alloc X) Y
  have x := heap_alloc_new w X
  rw [e2] at z
  rw [e1] at y
  have y2 := (heap_alloc_old _ Z (lt_of_block y)).trans y
  have x1 := (heap_alloc_old _ Y (lt_of_block x)).trans x
  have x2 := (heap_alloc_old _ Z (lt_of_block x1)).trans x1
  exact ⟨x2, y2, z, ((bel2 w X Y).alloc (by simp; omega) Z).drew⟩
theorem ck_mk {B cb kb db cap N : Nat} {A : Option Addr} {W0 W : World} {L : List Nd} {AB AI : Array Value} (hT : Tr W0 B A L) (hB : B ≤ W0.heap.size) (hb : Below W0.heap.size W0 W) (hN : L.length = N)
    (hAB : ((List.replicate N false).map Value.bool).toArray = AB) (hAI : ((List.replicate N (0 : Int)).map (Value.int .i64)).toArray = AI)
    (hc : W.heap[cb]? = some (.cells #[.slice A N cap, .slice (some ⟨kb, 0, none⟩) N N, .slice (some ⟨db, 0, none⟩) N N] 61 (0, 0)))
    (hk : W.heap[kb]? = some (.cells AB 4 (0, 0))) (hd : W.heap[db]? = some (.cells AI 3 (0, 0))) (h1 : B ≤ cb) (h2 : B ≤ kb) (h3 : B ≤ db) :
    Ck B cb kb db A cap W L (List.replicate N false) (List.replicate N 0) := by
  refine ⟨?_, ?_, ?_, h1, h2, h3, hT.keep (Nat.le_refl _) fun b hb' => hb.block b (by omega)⟩
  · rw [List.length_replicate, List.length_replicate, hN]; exact hc
  · rw [hAB]; exact hk
  · rw [hAI]; exact hd
def flt (c : Int × Int) : Value := .agg #[.int .i64 c.1, .int .i64 c.2]
/-- The first place of 'false'. -/
def findB : List Bool → Nat → Int
  | [], _ => -1
  | b :: r, k => if b = false then (k : Int) else findB r (k + 1)
theorem findB_idx : ∀ (l : List Bool) (k : Nat), findB l k = match l.findIdx? (· == false) with | some i => ((i + k : Nat) : Int) | none => -1
  | [], k => by simp [findB]
  | b :: r, k => by
    rw [findB, List.findIdx?_cons, findB_idx r (k + 1)]
    cases b
    · simp
    · simp only [Bool.true_eq_false, if_false, beq_iff_eq]
      cases r.findIdx? (· == false) with
      | none => rfl
      | some i => simp only [Option.map_some]; congr 1; omega
theorem endC_find (L : List Nd) (K : List Bool) (h : kindAt L (L.length - 1) = 26) : endC L K = if 0 ≤ findB (K.take (L.length - 1)) 0 then (3, findB (K.take (L.length - 1)) 0) else (0, 0) := by
  unfold endC
  rw [if_neg (by rw [h]; simp), findB_idx]
  cases (K.take (L.length - 1)).findIdx? (· == false) with
  | none => simp
  | some i => simp
theorem findB_ge : ∀ (l : List Bool) (k : Nat), findB l k = -1 ∨ ∃ j : Nat, findB l k = (j : Int) ∧ j < k + l.length
  | [], k => Or.inl rfl
  | b :: r, k => by
    rw [findB]
    split
    · exact Or.inr ⟨k, rfl, by simp⟩
    · rcases findB_ge r (k + 1) with h | ⟨j, h, hj⟩
      · exact Or.inl h
      · exact Or.inr ⟨j, h, by simp; omega⟩
set_option maxRecDepth 100000 in
set_option maxHeartbeats 1000000 in
theorem indexB_any {w : World} {g c : Nat} {L : List Bool} (h : ∀ (j : Nat) (b : Bool), L[j]? = some b → w.cell? ⟨g, j, none⟩ = some (.bool b)) (hl : L.length ≤ 1000000) :
    Calls Try.prog 35 #[.slice (some ⟨g, 0, none⟩) L.length c, .bool false] w fun e w' => e = .returned (.int .i64 (findB L 0)) ∧ w = w' := by
  have HL := Lib.hid hl
  go_enter Try.func35, Try.ntmps35
  go_wp2
  go_loop [8] (fun i => ∃ k : Nat, k ≤ L.length ∧ i = .int .i64 (k : Int) ∧ Hid (findB L 0 = findB (L.drop k) k)) (fun i => L.length - (intOf i).toNat)
  case atStart => exact ⟨0, Nat.zero_le _, rfl, rfl⟩
  case round =>
    obtain ⟨k, hk, rfl, HR⟩ := hrel
    by_cases hlt : k < L.length
    · obtain ⟨y, hy⟩ := get_some hlt
      have hc := h k y hy
      have HD := Lib.hid (drop_get hy)
      clear hy h
      cases y
      · go_wp2
        go_ret
        exact ⟨ret_i64 (by rw [HR.out, HD.out, findB, if_pos rfl]), rfl⟩
      · go_wp2
        go_round
        case rel => exact ⟨k + 1, by omega, by go_num, by show _ = _; rw [HR.out, HD.out, findB, if_neg (by decide)]⟩
        case measure => simp [intOf]; omega
    · go_wp2
      go_ret
      exact ⟨ret_i64 (by rw [HR.out, List.drop_eq_nil_of_le (by omega)]; rfl), rfl⟩
theorem goK_deep (L : List Nd) (D : List Int) (i : Nat) : ∀ (cs : List Int) (K : List Bool) (d : Int) (ks : List Int), d ≤ (goK L D i cs K d ks).deep
  | [], K, d, ks => Int.le_refl _
  | x :: r, K, d, ks => by
    rw [goK]
    split
    · exact Int.le_refl _
    · split
      · exact goK_deep L D i r K d _
      · split
        · exact Int.le_refl _
        · exact Int.le_trans (Int.le_max_left _ _) (goK_deep L D i r _ _ _)
theorem nodC_ok {P : Words} {L : List Nd} {D : List Int} {i : Nat} {n : Nd} {K : List Bool} (h : (nodC P L D i n K).code = 0) : aloneB P n = true ∧ (goK L D i n.kids K 0 []).code = 0 ∧ kidsB L n (n.kids.map (kk L)) = true ∧ (∀ x ∈ n.kids, x = -1 ∨ (0 ≤ x ∧ x < (i : Int))) ∧ (nodC P L D i n K).deep ≤ 200 ∧ 0 ≤ (nodC P L D i n K).deep ∧ (nodC P L D i n K).kid = (goK L D i n.kids K 0 []).kid ∧ (nodC P L D i n K).deep = (goK L D i n.kids K 0 []).deep := by
  unfold nodC at h ⊢
  by_cases h1 : aloneB P n = false
  · rw [if_pos h1] at h; simp at h
  · rw [if_neg h1] at h ⊢
    by_cases h2 : (goK L D i n.kids K 0 []).code ≠ 0
    · rw [if_pos h2] at h; exact absurd h h2
    · rw [if_neg h2] at h ⊢
      obtain ⟨a, b⟩ := goK_kinds L D i n.kids K 0 [] (by simpa using h2)
      rw [List.nil_append] at a
      by_cases h3 : kidsB L n (goK L D i n.kids K 0 []).kinds = false
      · rw [if_pos h3] at h; simp at h
      · rw [if_neg h3] at h ⊢
        by_cases h4 : 200 < (goK L D i n.kids K 0 []).deep
        · rw [if_pos h4] at h; simp at h
        · rw [if_neg h4]
          exact ⟨by simpa using h1, by simpa using h2, by rw [← a]; simpa using h3, b, by simp only; omega, goK_deep L D i n.kids K 0 [], rfl, rfl⟩
theorem nodC_case {P : Words} {L : List Nd} {D : List Int} {i : Nat} {n : Nd} {K : List Bool} (h : (nodC P L D i n K).code = 0) (hk : n.kind = 24) : ∃ y r, n.kids = y :: r := by
  have h3 := (nodC_ok h).2.2.1
  cases hn : n.kids with
  | cons y r => exact ⟨y, r, rfl⟩
  | nil =>
    exfalso
    rw [hn] at h3
    unfold kidsB exB isS at h3
    rw [hk] at h3
    simp [headB] at h3
set_option maxRecDepth 100000 in
set_option maxHeartbeats 8000000 in
theorem check_any {A : Option Addr} {cap : Nat} {w : World} {L : List Nd} (hT : Tr w w.heap.size A L) (hsz : Szd L) (m : Int) (hm : w.cell? ⟨0, 0, none⟩ = some (.int .i64 m)) :
    Calls Try.prog 11 #[.agg #[.slice A L.length cap]] w fun e w' => e = .returned (flt (chk PW L)) ∧ Below w.heap.size w w' := by
  obtain ⟨r, hr⟩ : ∃ r, chk PW L = r := ⟨_, rfl⟩
  rw [hr]
  have HR := Lib.hid hr
  clear hr
  by_cases h0 : L.length = 0
  · have HF : Hid (r = (2, 0)) := by show _ = _; rw [← HR.out]; unfold chk; rw [if_pos (Or.inl h0)]
    rw [h0]
    clear hT hsz h0
    go_enter Try.func11, Try.ntmps11
    go_wp2_with fail
    refine bodyPost_ret (results_one rfl _ _ (w.heap.size + 1) 31 #[.int .i64 2, .int .i64 0] (0, 0) _ rfl (new2 w _ _) Try.underlying31 rfl As.A.infoF) rfl ⟨?_, bel2 w _ _⟩
    rw [HF.out]; rfl
  · by_cases h1 : 131072 < L.length
    · have HF : Hid (r = (2, 0)) := by show _ = _; rw [← HR.out]; unfold chk; rw [if_pos (Or.inr h1)]
      have h0b : ((L.length : Int) == 0) = false := by simp; exact fun e => h0 (by rw [e]; rfl)
      have h1b : (131072 : Int) < (L.length : Int) := by omega
      clear hT hsz h0 h1
      go_enter Try.func11, Try.ntmps11
      go_wp2_with fail
      refine bodyPost_ret (results_one rfl _ _ (w.heap.size + 1) 31 #[.int .i64 2, .int .i64 0] (0, 0) _ rfl (new2 w _ _) Try.underlying31 rfl As.A.infoF) rfl ⟨?_, bel2 w _ _⟩
      rw [HF.out]; rfl
    · have HF : Hid (goC PW L L 0 (List.replicate L.length false) [] = r) := by show _ = _; rw [← HR.out]; unfold chk; rw [if_neg (by omega)]
      have h0b : ((L.length : Int) == 0) = false := by simp; exact fun e => h0 (by rw [e]; rfl)
      have hW := bel2 w (.cells #[.slice A L.length cap] 24) (.cells #[.int .i64 0, .int .i64 0] 31)
      have hn2 := new2 w (.cells #[.slice A L.length cap] 24) (.cells #[.int .i64 0, .int .i64 0] 31)
      have hn1 : ((w.alloc (.cells #[.slice A L.length cap] 24)).alloc (.cells #[.int .i64 0, .int .i64 0] 31)).heap[w.heap.size]? = some (.cells #[.slice A L.length cap] 24) := (heap_alloc_old _ _ (by simp)).trans (new1 w _)
      have hsw : w.heap.size + 2 = ((w.alloc (.cells #[.slice A L.length cap] 24)).alloc (.cells #[.int .i64 0, .int .i64 0] 31)).heap.size := by simp
      have HW := Lib.hid hW
      have HN1 := Lib.hid hn1
      have HN2 := Lib.hid hn2
      have HSW := Lib.hid hsw
      have HSZ := Lib.hid hsz
      have HT := Lib.hid hT
      have HM := Lib.hid hm
      have hLb : (L.length : Int) ≤ 131072 := by omega
      have H0 := Lib.hid h0
      clear hT hsz h0 hW hn1 hn2 hsw hm
      go_enter Try.func11, Try.ntmps11
      go_upto_region 4 with fail
      have f0 := cell_of_one HN1.out
      generalize (w.alloc (.cells #[.slice A L.length cap] 24)).alloc (.cells #[.int .i64 0, .int .i64 0] 31) = W0 at *
      obtain ⟨N, hN⟩ : ∃ N, L.length = N := ⟨_, rfl⟩
      rw [hN] at f0 hLb h0b h1
      simp only [hN]
      obtain ⟨ii, hii, hi0, hi1, hi2⟩ := info_parts As.A.infoI
      obtain ⟨ib, hib, hb0, hb1, hb2⟩ := info_parts As.A.infoB
      have mkI : ∀ W, (Instr.makeSlice 35 (.int .i64 (N : Int)) (.int .i64 (N : Int))).run Try.prog W = .ok (.slice (some ⟨W.heap.size, 0, none⟩) N N) (W.alloc (.cells (((List.replicate N (0 : Int)).map (Value.int .i64)).toArray) 3)) := fun W => by
        have := run_makeSlice (P := Try.prog) W 35 3 ii _ Try.underlying35 hii hi0 .i64 .i64 (N : Int) (N : Int) (by omega) (by omega) (by rw [hi1]; simp; omega) (by rw [hi2]; omega) (by omega)
        rw [hi1] at this
        rw [show (((List.replicate N (0 : Int)).map (Value.int .i64)).toArray) = madeCells (Value.int .i64 0).cells (N * 1) by
          apply Array.toList_inj.1
          show _ = (madeCells #[.int .i64 0] (N * 1)).toList
          rw [Nat.mul_one, toList_madeCells_one, List.map_replicate]]
        exact this
      have mkB : ∀ W, (Instr.makeSlice 59 (.int .i64 (N : Int)) (.int .i64 (N : Int))).run Try.prog W = .ok (.slice (some ⟨W.heap.size, 0, none⟩) N N) (W.alloc (.cells (((List.replicate N false).map Value.bool).toArray) 4)) := fun W => by
        have := run_makeSlice (P := Try.prog) W 59 4 ib _ Try.underlying59 hib hb0 .i64 .i64 (N : Int) (N : Int) (by omega) (by omega) (by rw [hb1]; simp; omega) (by rw [hb2]; omega) (by omega)
        rw [hb1] at this
        rw [show (((List.replicate N false).map Value.bool).toArray) = madeCells (Value.bool false).cells (N * 1) by
          apply Array.toList_inj.1
          show _ = (madeCells #[.bool false] (N * 1)).toList
          rw [Nat.mul_one, toList_madeCells_one, List.map_replicate]]
        exact this
      generalize hAI : ((List.replicate N (0 : Int)).map (Value.int .i64)).toArray = AI at *
      generalize hAB : ((List.replicate N false).map Value.bool).toArray = AB at *
      have HAI := Lib.hid hAI
      have HAB := Lib.hid hAB
      have HNN := Lib.hid hN
      clear hAI hAB hN hii hi0 hi1 hi2 hib hb0 hb1 hb2
      have hlt : w.heap.size < W0.heap.size := by have := HSW.out; omega
      have hTW : Tr W0 W0.heap.size A L := HT.out.keep (Nat.le_of_lt hlt) fun b hb => HW.out.block b hb
      have HTW := Lib.hid hTW
      clear hTW
      go_cut [4] (fun s4 wx => ∃ cb kb db : Nat, s4 = .pointer (some ⟨cb, 0, none⟩) ∧ Hid (Ck W0.heap.size cb kb db A cap wx L (List.replicate N false) (List.replicate N 0)) ∧ Hid (Below W0.heap.size W0 wx))
      case first =>
        have g1 : ∀ o1 : Obj, (W0.alloc o1).cell? ⟨w.heap.size, 0, none⟩ = some (.slice A N cap) := fun o1 => (World.cell?_of_block (a := ⟨w.heap.size, 0, none⟩) ((bel1 W0 o1).block _ hlt)).trans f0
        have g2 : ∀ o1 o2 : Obj, ((W0.alloc o1).alloc o2).cell? ⟨w.heap.size, 0, none⟩ = some (.slice A N cap) := fun o1 o2 => (World.cell?_of_block (a := ⟨w.heap.size, 0, none⟩) ((bel2 W0 o1 o2).block _ hlt)).trans f0
        have g3 : ∀ o1 o2 o3 : Obj, (((W0.alloc o1).alloc o2).alloc o3).cell? ⟨w.heap.size, 0, none⟩ = some (.slice A N cap) := fun o1 o2 o3 => (World.cell?_of_block (a := ⟨w.heap.size, 0, none⟩) (((bel2 W0 o1 o2).alloc (by simp; omega) o3).block _ hlt)).trans f0
        go_region
        · obtain ⟨n0, n1, n2, n3⟩ := new3 W0 (.cells AB 4) (.cells AI 3) (.cells #[.slice A N cap, .slice (some ⟨W0.heap.size, 0, none⟩) N N, .slice (some ⟨W0.heap.size + 1, 0, none⟩) N N] 61)
          go_wp2_with fail
          go_meet
          case rel => exact ⟨(W0.heap.size + 1 + 1), W0.heap.size, (W0.heap.size + 1), rfl, ck_mk HTW.out (by omega) n3 HNN.out HAB.out HAI.out n2 n0 n1 (by omega) (by omega) (by omega), n3⟩
        · obtain ⟨n0, n1, n2, n3⟩ := new3 W0 (.cells AB 4) (.cells #[.slice A N cap, .slice (some ⟨W0.heap.size, 0, none⟩) N N, .slice (some ⟨W0.heap.size + 1 + 1, 0, none⟩) N N] 61) (.cells AI 3)
          go_wp2_with fail
          go_meet
          case rel => exact ⟨(W0.heap.size + 1), W0.heap.size, (W0.heap.size + 1 + 1), rfl, ck_mk HTW.out (by omega) n3 HNN.out HAB.out HAI.out n1 n0 n2 (by omega) (by omega) (by omega), n3⟩
        · obtain ⟨n0, n1, n2, n3⟩ := new3 W0 (.cells AI 3) (.cells AB 4) (.cells #[.slice A N cap, .slice (some ⟨W0.heap.size + 1, 0, none⟩) N N, .slice (some ⟨W0.heap.size, 0, none⟩) N N] 61)
          go_wp2_with fail
          go_meet
          case rel => exact ⟨(W0.heap.size + 1 + 1), (W0.heap.size + 1), W0.heap.size, rfl, ck_mk HTW.out (by omega) n3 HNN.out HAB.out HAI.out n2 n1 n0 (by omega) (by omega) (by omega), n3⟩
        · obtain ⟨n0, n1, n2, n3⟩ := new3 W0 (.cells AI 3) (.cells #[.slice A N cap, .slice (some ⟨W0.heap.size + 1 + 1, 0, none⟩) N N, .slice (some ⟨W0.heap.size, 0, none⟩) N N] 61) (.cells AB 4)
          go_wp2_with fail
          go_meet
          case rel => exact ⟨(W0.heap.size + 1), (W0.heap.size + 1 + 1), W0.heap.size, rfl, ck_mk HTW.out (by omega) n3 HNN.out HAB.out HAI.out n1 n2 n0 (by omega) (by omega) (by omega), n3⟩
        · obtain ⟨n0, n1, n2, n3⟩ := new3 W0 (.cells #[.slice A N cap, .slice (some ⟨W0.heap.size + 1, 0, none⟩) N N, .slice (some ⟨W0.heap.size + 1 + 1, 0, none⟩) N N] 61) (.cells AB 4) (.cells AI 3)
          go_wp2_with fail
          go_meet
          case rel => exact ⟨W0.heap.size, (W0.heap.size + 1), (W0.heap.size + 1 + 1), rfl, ck_mk HTW.out (by omega) n3 HNN.out HAB.out HAI.out n0 n1 n2 (by omega) (by omega) (by omega), n3⟩
        · obtain ⟨n0, n1, n2, n3⟩ := new3 W0 (.cells #[.slice A N cap, .slice (some ⟨W0.heap.size + 1 + 1, 0, none⟩) N N, .slice (some ⟨W0.heap.size + 1, 0, none⟩) N N] 61) (.cells AI 3) (.cells AB 4)
          go_wp2_with fail
          go_meet
          case rel => exact ⟨W0.heap.size, (W0.heap.size + 1 + 1), (W0.heap.size + 1), rfl, ck_mk HTW.out (by omega) n3 HNN.out HAB.out HAI.out n0 n2 n1 (by omega) (by omega) (by omega), n3⟩
      case rest =>
        obtain ⟨cb, kb, db, rfl, HC0, HB0⟩ := hcut
        have hLN : L.length = N := HNN.out
        have HF0 : Hid (goC PW L (L.drop 0) 0 (List.replicate N false) [] = r) := by show _ = _; rw [List.drop_zero, ← hLN]; exact HF.out
        clear hLN HF f0 mkI mkB
        go_wp2_with fail
        go_loopw [27] (fun i wr => ∃ (k : Nat) (K : List Bool) (D : List Int), k ≤ N ∧ i = .int .i64 (k : Int) ∧ Hid (goC PW L (L.drop k) k K D = r) ∧ Hid (Ck W0.heap.size cb kb db A cap wr L K (D ++ List.replicate (N - k) 0)) ∧ Hid (Below W0.heap.size W0 wr) ∧ Hid (D.length = k) ∧ Hid (K.length = N) ∧ Hid (∀ d ∈ D, 0 ≤ d ∧ d ≤ 200) ∧ Hid (∀ (j : Nat) (p : Nd), j < k → L[j]? = some p → p.kind = 24 → ∃ y r, p.kids = y :: r)) (fun i _ => N - (intOf i).toNat)
        case atStart => exact ⟨0, List.replicate N false, [], Nat.zero_le _, rfl, HF0.out, HC0.out, HB0.out, rfl, List.length_replicate .., fun d hd => by simp at hd, fun j p hj => by omega⟩
        case round =>
          obtain ⟨k, K, D, hk, rfl, HG, HC, HB, HD, HK, HDP, HE⟩ := hrel
          by_cases hlt2 : k < N
          · obtain ⟨n, hn⟩ := get_some (show k < L.length by have := HNN.out; omega)
            have hrep : List.replicate (N - k) (0 : Int) = 0 :: List.replicate (N - (k + 1)) 0 := by
              rw [show N - k = (N - (k + 1)) + 1 by omega, List.replicate_succ]
            have hC := HC.out
            rw [hrep] at hC
            have hnode := node_any k n hC HD.out hn (by rw [HK.out, HNN.out]) (by rw [List.length_append, List.length_cons, List.length_replicate, HD.out, HNN.out]; omega) HSZ.out m ((World.cell?_of_block (a := ⟨0, 0, none⟩) ((HW.out.trans (HB.out.mono (Nat.le_of_lt hlt))).block 0 (by
              refine Nat.pos_of_ne_zero fun h => ?_
              have e : w.heap = #[] := Array.eq_empty_of_size_eq_zero h
              have := HM.out
              simp [World.cell?, e] at this))).trans HM.out) (by omega) HB.out.size HE.out HDP.out
            have HND := Lib.hid hnode
            have HG2 : Hid ((if (nodC PW L D k n K).code ≠ 0 then ((nodC PW L D k n K).code, (k : Int)) else goC PW L (L.drop (k + 1)) (k + 1) (nodC PW L D k n K).kid (D ++ [(nodC PW L D k n K).deep])) = r) := by
              show _ = _
              rw [← HG.out, drop_get hn]
              rfl
            have hlenk : (goK L D k n.kids K 0 []).kid.length = K.length := goK_len L D k n.kids K 0 []
            have HNK : Hid ((nodC PW L D k n K).code = 0 → (nodC PW L D k n K).kid.length = N ∧ (0 ≤ (nodC PW L D k n K).deep ∧ (nodC PW L D k n K).deep ≤ 200) ∧ (n.kind = 24 → ∃ y r, n.kids = y :: r)) := fun h => by
              have h1 := nodC_ok h
              exact ⟨by rw [h1.2.2.2.2.2.2.1, hlenk, HK.out], ⟨h1.2.2.2.2.2.1, h1.2.2.2.2.1⟩, nodC_case h⟩
            have HNL := Lib.hid hn
            clear hC hnode hrep hlenk hn
            generalize nodC PW L D k n K = ns at *
            go_wp2_with fail
            refine HND.out.mono ?_
            rintro e w1 ⟨rfl, hz1, hck1⟩
            have HZ1 := Lib.hid (HB.out.trans (hz1.mono (Nat.le_refl _)))
            have HCK1 := Lib.hid hck1
            clear hz1 hck1
            by_cases hc : ns.code = 0
            · have hcb : (ns.code != 0) = false := by rw [hc]; rfl
              have HG3 : Hid (goC PW L (L.drop (k + 1)) (k + 1) ns.kid (D ++ [ns.deep]) = r) := by
                show _ = _
                have := HG2.out
                rw [if_neg (by simpa using hc)] at this
                exact this
              have HCK2 := Lib.hid (HCK1.out hc)
              have HN3 := Lib.hid (HNK.out hc)
              clear hc
              go_wp2_with fail
              go_roundw
              case rel =>
                refine ⟨k + 1, ns.kid, D ++ [ns.deep], by omega, by go_num, HG3.out, ?_, HZ1.out, ?_, HN3.out.1, ?_, ?_⟩
                · have := HCK2.out
                  show Ck _ _ _ _ _ _ _ _ _ _
                  rw [List.append_assoc]
                  exact this
                · show _ = _
                  rw [List.length_append, HD.out]; rfl
                · intro d hd
                  rcases List.mem_append.1 hd with h | h
                  · exact HDP.out d h
                  · rw [List.mem_singleton.1 h]; exact HN3.out.2.1
                · intro j p hj hp h24
                  by_cases hjk : j < k
                  · exact HE.out j p hjk hp h24
                  · obtain rfl : j = k := by omega
                    rw [HNL.out, Option.some.injEq] at hp
                    subst hp
                    exact HN3.out.2.2 h24
              case measure => simp [intOf]; omega
            · have hcb : (ns.code != 0) = true := by rw [bne_iff_ne]; exact hc
              have HG3 : Hid ((ns.code, (k : Int)) = r) := by
                show _ = _
                have := HG2.out
                rw [if_pos hc] at this
                exact this
              have HFL := Lib.hid ((HZ1.out.block _ (lt_of_block HN2.out)).trans HN2.out)
              obtain ⟨q0, q1, z0, z1⟩ := fault_facts HFL.out
              clear hc
              go_wp2_with fail
              refine bodyPost_ret (results_one rfl _ _ (w.heap.size + 1) 31 #[.int .i64 ns.code, .int .i64 (k : Int)] (0, 0) _ rfl (heap_fault HFL.out _ _) Try.underlying31 rfl As.A.infoF) rfl ⟨?_, ?_⟩
              · rw [← HG3.out]; rfl
              · exact ((HW.out.trans (HZ1.out.mono (Nat.le_of_lt hlt))).setCell (p := ⟨w.heap.size + 1, 0, none⟩) (by simp) _).setCell (p := ⟨w.heap.size + 1, 1, none⟩) (by simp) _
          · have hke : k = N := by omega
            subst hke
            have HEND : Hid (endC L K = r) := by
              show _ = _
              rw [← HG.out, List.drop_eq_nil_of_le (by have := HNN.out; omega)]
              rfl
            have hpos : 0 < k := by have := H0.out; have := HNN.out; omega
            obtain ⟨n, hn⟩ := get_some (show k - 1 < L.length by have := HNN.out; omega)
            obtain ⟨g, o, rfl, _, hNd⟩ := HC.out.t.at_ hn
            have p0 := hNd.k
            have hkl : ((k : Int) - 1) = ((k - 1 : Nat) : Int) := by omega
            have hk1 : (0 : Int) < (k : Int) := by omega
            have hk2 : (1 : Int) ≤ (k : Int) := by omega
            have HKA : Hid (kindAt L (L.length - 1) = n.kind) := by show _ = _; unfold kindAt; rw [HNN.out, hn]
            have HBX := Lib.hid ((HB.out.block _ hlt).trans HN1.out)
            have f0 := cell_of_one HBX.out
            rw [HNN.out] at f0
            have HFL := Lib.hid ((HB.out.block _ (lt_of_block HN2.out)).trans HN2.out)
            obtain ⟨q0, q1, z0, z1⟩ := fault_facts HFL.out
            have HZ := Lib.hid (HW.out.trans (HB.out.mono (Nat.le_of_lt hlt)))
            obtain ⟨_, d1, _⟩ := HC.out.cells
            rw [HK.out] at d1
            clear hNd hn HG hlt2
            by_cases h26 : n.kind = 26
            · have h26b : (n.kind != 26) = false := by rw [h26]; rfl
              have HEN : Hid ((if 0 ≤ findB (K.take (k - 1)) 0 then (3, findB (K.take (k - 1)) 0) else (0, 0)) = r) := by
                show _ = _
                rw [← HEND.out, endC_find L K (by rw [HKA.out, h26]), HNN.out]
              have hIX := indexB_any (w := wr) (g := kb) (c := k) (L := K.take (k - 1)) (fun j b hj => HC.out.cellk (by
                rw [List.getElem?_take] at hj
                split at hj
                · exact hj
                · cases hj)) (by rw [List.length_take]; omega)
              rw [List.length_take, HK.out, Nat.min_eq_left (by omega)] at hIX
              have HIX := Lib.hid hIX
              clear hIX h26
              generalize findB (K.take (k - 1)) 0 = F at *
              by_cases hF : 0 ≤ F
              · have HR3 : Hid ((3, F) = r) := by show _ = _; have := HEN.out; rw [if_pos hF] at this; exact this
                go_wp2_with fail
                refine HIX.out.mono ?_
                rintro e w' ⟨rfl, rfl⟩
                go_wp2_with fail
                refine bodyPost_ret (results_one rfl _ _ (w.heap.size + 1) 31 #[.int .i64 3, .int .i64 F] (0, 0) _ rfl (heap_fault HFL.out _ _) Try.underlying31 rfl As.A.infoF) rfl ⟨?_, ?_⟩
                · rw [← HR3.out]; rfl
                · exact (HZ.out.setCell (p := ⟨w.heap.size + 1, 0, none⟩) (by simp) _).setCell (p := ⟨w.heap.size + 1, 1, none⟩) (by simp) _
              · have HR3 : Hid ((0, 0) = r) := by show _ = _; have := HEN.out; rw [if_neg hF] at this; exact this
                go_wp2_with fail
                refine HIX.out.mono ?_
                rintro e w' ⟨rfl, rfl⟩
                go_wp2_with fail
                refine bodyPost_ret (results_one rfl _ _ (w.heap.size + 1) 31 #[.int .i64 0, .int .i64 0] (0, 0) _ rfl (heap_fault HFL.out _ _) Try.underlying31 rfl As.A.infoF) rfl ⟨?_, ?_⟩
                · rw [← HR3.out]; rfl
                · exact (HZ.out.setCell (p := ⟨w.heap.size + 1, 0, none⟩) (by simp) _).setCell (p := ⟨w.heap.size + 1, 1, none⟩) (by simp) _
            · have h26b : (n.kind != 26) = true := by rw [bne_iff_ne]; exact h26
              have HR3 : Hid ((30, ((k - 1 : Nat) : Int)) = r) := by
                show _ = _
                rw [← HEND.out]
                unfold endC
                rw [HKA.out, if_pos h26, HNN.out, hkl]
              clear h26
              go_wp2_with fail
              refine bodyPost_ret (results_one rfl _ _ (w.heap.size + 1) 31 #[.int .i64 30, .int .i64 ((k - 1 : Nat) : Int)] (0, 0) _ rfl (heap_fault HFL.out _ _) Try.underlying31 rfl As.A.infoF) rfl ⟨?_, ?_⟩
              · rw [← HR3.out]; rfl
              · exact (HZ.out.setCell (p := ⟨w.heap.size + 1, 0, none⟩) (by simp) _).setCell (p := ⟨w.heap.size + 1, 1, none⟩) (by simp) _
end Go.Proofs.Ytaonojimpfhkfaa.As
