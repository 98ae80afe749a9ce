/- Same; what a tree that may be is like. -/
import Derived.Test.YtaonojimpfhkfaaAstM
import Derived.BigQuiet
namespace Go.Proofs.Ytaonojimpfhkfaa.As
open Go.RowKit Go.ChangeShapes Go.WideShapes Go.ChangeAt

structure BelowBy (B : Nat) (W : World) where
  x : World
  h : Below B W x
instance (B : Nat) (W : World) : Inhabited (BelowBy B W) := ⟨⟨W, Below.refl _ _⟩⟩
theorem wp_region_quiet_below {P : Program} {id : Nat} {Q : Exit → Act → World → Prop} {a : Act} {w : World} {l : List Oper} (hm : P.follows .mixedOrders = true) (hB : Region.lexB .any l.toArray = true)
    (h : wpQuiet P l.toArray (fun w' => ∃ p : BelowBy w.heap.size w, w' = p.x) (fun a' => ∀ w', (∃ p : BelowBy w.heap.size w, w' = p.x) → Q .normal a' w') l a) : (Code.region id l.toArray true).wp P Q a w :=
  wp_region_quiet (C := fun w' => ∃ p : BelowBy w.heap.size w, w' = p.x) hm hB ⟨⟨w.drew, (Below.refl _ _).drew⟩, rfl⟩ (by simpa using h)
theorem Calls.below_of {P : Program} {f : FuncId} {args : Array Value} {W : World} {p : BelowBy W.heap.size W} {v : Value}
    (h : Calls P f args p.x fun e w' => e = .returned v ∧ Below p.x.heap.size p.x w') : Calls P f args p.x fun e w'' => e = .returned v ∧ ∃ p : BelowBy W.heap.size W, w'' = p.x :=
  h.mono fun _ w' ⟨he, hb⟩ => ⟨he, ⟨w', p.h.trans (hb.mono p.h.size)⟩, rfl⟩

/-- From a place on all nodes may be. -/
theorem goC_all {P : Words} {L : List Nd} : ∀ (rest : List Nd) (i : Nat) (K : List Bool) (D : List Int), L.drop i = rest → (goC P L rest i K D).1 = 0 → ∀ (j : Nat) (n : Nd), i ≤ j → L[j]? = some n → ∃ K' D', (nodC P L D' j n K').code = 0
  | [], i, K, D, hd, h, j, n, hj, hn => by
    have := get_lt hn
    have := List.drop_eq_nil_iff.1 hd
    omega
  | m :: r, i, K, D, hd, h, j, n, hj, hn => by
    rw [goC] at h
    by_cases hc : (nodC P L D i m K).code ≠ 0
    · rw [if_pos hc] at h; exact absurd h hc
    · rw [if_neg hc] at h
      have hi : L[i]? = some m := by
        have := congrArg (fun l => l[0]?) hd
        simpa using this
      rcases Nat.lt_or_ge i j with hij | hij
      · exact goC_all r (i + 1) _ _ (by rw [← List.tail_drop, hd]; rfl) h j n hij hn
      · obtain rfl : i = j := by omega
        rw [hi, Option.some.injEq] at hn
        subst hn
        exact ⟨K, D, by simpa using hc⟩
theorem endC_zero {L : List Nd} {K : List Bool} (h : (endC L K).1 = 0) : endC L K = (0, 0) := by
  unfold endC at h ⊢
  split
  · rename_i h1; rw [if_pos h1] at h; simp at h
  · rename_i h1
    rw [if_neg h1] at h
    cases hf : (K.take (L.length - 1)).findIdx? (· == false) with
    | none => rfl
    | some i => rw [hf] at h; simp at h
theorem goC_zero {P : Words} {L : List Nd} : ∀ (rest : List Nd) (i : Nat) (K : List Bool) (D : List Int), (goC P L rest i K D).1 = 0 → goC P L rest i K D = (0, 0)
  | [], i, K, D, h => endC_zero h
  | m :: r, i, K, D, h => by
    rw [goC] at h ⊢
    by_cases hc : (nodC P L D i m K).code ≠ 0
    · rw [if_pos hc] at h; exact absurd h hc
    · rw [if_neg hc] at h ⊢; exact goC_zero r _ _ _ h
theorem chk_zero {P : Words} {L : List Nd} (h : (chk P L).1 = 0) : chk P L = (0, 0) := by
  unfold chk at h ⊢
  split
  · rename_i h1; rw [if_pos h1] at h; simp at h
  · rename_i h1; rw [if_neg h1] at h; exact goC_zero _ _ _ _ h
theorem chk_all {P : Words} {L : List Nd} (h : (chk P L).1 = 0) : 0 < L.length ∧ L.length ≤ 131072 ∧ ∀ (j : Nat) (n : Nd), L[j]? = some n → ∃ K' D', (nodC P L D' j n K').code = 0 := by
  unfold chk at h
  by_cases h1 : L.length = 0 ∨ 131072 < L.length
  · rw [if_pos h1] at h; simp at h
  · rw [if_neg h1] at h
    exact ⟨by omega, by omega, fun j n hn => goC_all L 0 _ _ (List.drop_zero ..) h j n (Nat.zero_le _) hn⟩
theorem chk_kin {P : Words} {L : List Nd} (h : (chk P L).1 = 0) : Kin L := by
  intro i n hn x hx
  obtain ⟨K, D, hc⟩ := (chk_all h).2.2 i n hn
  rcases (nodC_ok hc).2.2.2.1 x hx with rfl | h1 <;> omega
/-- What Same answers. -/
def sam (L M : List Nd) : Bool := decide ((chk PW L).1 = 0) && (decide ((chk PW M).1 = 0) && alk L M (L.length + 1) ((L.length : Int) - 1) ((M.length : Int) - 1))
set_option maxRecDepth 100000 in
set_option maxHeartbeats 8000000 in
theorem same_any {A A2 : Option Addr} {ca cb : Nat} {L M : List Nd} {w : World} (hA : Tr w w.heap.size A L) (hA2 : Tr w w.heap.size A2 M) (sL : Szd L) (sM : Szd M) (m : Int) (hm : w.cell? ⟨0, 0, none⟩ = some (.int .i64 m)) :
    Calls Try.prog 15 #[.agg #[.slice A L.length ca], .agg #[.slice A2 M.length cb]] w fun e w' => e = .returned (.bool (sam L M)) ∧ Below w.heap.size w w' := by
  generalize hR : sam L M = R
  have HR := Lib.hid hR
  clear hR
  obtain ⟨x0, x1, x2, hz⟩ := alloc3_new w (.cells #[.slice A L.length ca] 24) (.cells #[.slice A2 M.length cb] 24) (.cells #[.int .i64 0, .int .i64 0] 31)
  have h0 : 0 < w.heap.size := by
    refine Nat.pos_of_ne_zero fun h => ?_
    have e : w.heap = #[] := Array.eq_empty_of_size_eq_zero h
    simp [World.cell?, e] at hm
  have HX0 := Lib.hid x0
  have HX1 := Lib.hid x1
  have HX2 := Lib.hid x2
  have HZ := Lib.hid hz
  have HA := Lib.hid hA
  have HA2 := Lib.hid hA2
  have HM := Lib.hid hm
  have HC1 : Hid (∀ W, Below w.heap.size w W → Calls Try.prog 11 #[.agg #[.slice A L.length ca]] W fun e w' => e = .returned (flt (chk PW L)) ∧ Below W.heap.size W w') := fun W hW => check_any (hA.keep hW.size fun b hb => hW.block b hb) sL m ((World.cell?_of_block (a := ⟨0, 0, none⟩) (hW.block 0 h0)).trans hm)
  have HC2 : Hid (∀ W, Below w.heap.size w W → Calls Try.prog 11 #[.agg #[.slice A2 M.length cb]] W fun e w' => e = .returned (flt (chk PW M)) ∧ Below W.heap.size W w') := fun W hW => check_any (hA2.keep hW.size fun b hb => hW.block b hb) sM m ((World.cell?_of_block (a := ⟨0, 0, none⟩) (hW.block 0 h0)).trans hm)
  have HRL := Lib.hid fun w => root_any (A := A) (cap := ca) (w := w) sL.1
  have HRM := Lib.hid fun w => root_any (A := A2) (cap := cb) (w := w) sM.1
  have HAL : Hid ((chk PW L).1 = 0 → (chk PW M).1 = 0 → ∀ W, Below w.heap.size w W → Calls Try.prog 37 #[.agg #[.slice A L.length ca], .int .i64 ((L.length : Int) - 1), .agg #[.slice A2 M.length cb], .int .i64 ((M.length : Int) - 1)] W fun e w' => e = .returned (.bool (alk L M (L.length + 1) ((L.length : Int) - 1) ((M.length : Int) - 1))) ∧ Below W.heap.size W w') := fun h1 h2 W hW =>
    alike_any (chk_kin h1) (chk_kin h2) sL (L.length + 1) _ _ W (hA.keep hW.size fun b hb => hW.block b hb) (hA2.keep hW.size fun b hb => hW.block b hb) (by omega) (by omega) (by omega) (by omega) (by omega)
  have HE : Hid (R = (decide ((chk PW L).1 = 0) && (decide ((chk PW M).1 = 0) && alk L M (L.length + 1) ((L.length : Int) - 1) ((M.length : Int) - 1)))) := HR.out.symm
  generalize alk L M (L.length + 1) ((L.length : Int) - 1) ((M.length : Int) - 1) = Z at *
  have hz1 := fun h => chk_zero (P := PW) (L := L) h
  have hz2 := fun h => chk_zero (P := PW) (L := M) h
  obtain ⟨⟨c1, a1⟩, e1⟩ : ∃ r, chk PW L = r := ⟨_, rfl⟩
  obtain ⟨⟨c2, a2⟩, e2⟩ : ∃ r, chk PW M = r := ⟨_, rfl⟩
  rw [e1] at HC1 HAL HE hz1
  rw [e2] at HC2 HAL HE hz2
  unfold flt at HC1 HC2
  simp only at HC1 HC2 HAL HE hz1 hz2
  clear x0 x1 x2 hz hA hA2 hm sL sM e1 e2 HR h0
  by_cases h1 : c1 = 0
  · obtain rfl : a1 = 0 := by have := hz1 h1; simp at this; exact this.2
    subst h1
    by_cases h2 : c2 = 0
    · obtain rfl : a2 = 0 := by have := hz2 h2; simp at this; exact this.2
      subst h2
      have HAL2 := Lib.hid (HAL.out rfl rfl)
      have HE2 : Hid (R = Z) := by show _ = _; rw [HE.out]; rfl
      clear hz1 hz2 HAL HE
      go_enter Try.func15, Try.ntmps15
      go_wp2_with fail
      generalize ((w.alloc (.cells #[.slice A L.length ca] 24)).alloc (.cells #[.slice A2 M.length cb] 24)).alloc (.cells #[.int .i64 0, .int .i64 0] 31) = W0 at *
      have q0 : ∀ p : BelowBy W0.heap.size W0, p.x.cell? ⟨w.heap.size, 0, none⟩ = some (.slice A L.length ca) := fun p => cell_of_one ((p.h.block _ (lt_of_block HX0.out)).trans HX0.out)
      have q1 : ∀ p : BelowBy W0.heap.size W0, p.x.cell? ⟨w.heap.size + 1, 0, none⟩ = some (.slice A2 M.length cb) := fun p => cell_of_one ((p.h.block _ (lt_of_block HX1.out)).trans HX1.out)
      have q2 : ∀ p : BelowBy W0.heap.size W0, p.x.cell? ⟨w.heap.size + 1 + 1, 0, none⟩ = some (.int .i64 0) := fun p => (fault_facts ((p.h.block _ (lt_of_block HX2.out)).trans HX2.out)).1
      have q3 : ∀ p : BelowBy W0.heap.size W0, p.x.cell? ⟨w.heap.size + 1 + 1, 1, none⟩ = some (.int .i64 0) := fun p => (fault_facts ((p.h.block _ (lt_of_block HX2.out)).trans HX2.out)).2.1
      have HB : Hid (∀ p : BelowBy W0.heap.size W0, Below w.heap.size w p.x) := fun p => HZ.out.trans (p.h.mono HZ.out.size)
      refine wp_region_quiet_below (by kernel_rfl) (by kernel_rfl) ?_
      repeat (quiet_step (first
        | (go_at_call 11; with_reducible refine Calls.below_of (HC1.out _ (HB.out _)))
        | (go_at_call 11; with_reducible refine Calls.below_of (HC2.out _ (HB.out _)))
        | (go_at_call 18; with_reducible refine Calls.below_of (HRL.out _))
        | (go_at_call 18; with_reducible refine Calls.below_of (HRM.out _))
        | (go_at_call 37; with_reducible refine Calls.below_of (HAL2.out _ (HB.out _)))))
      refine wpQuiet_nil ?_
      intro _ hw'
      obtain ⟨pq, hw''⟩ := hw'
      subst hw''
      go_wp2_with fail
      go_ret
      exact ⟨ret_b HE2.out.symm, HZ.out.trans (pq.h.mono HZ.out.size)⟩
    · have hb : (c2 == 0) = false := by simpa using h2
      have HE2 : Hid (R = false) := by show _ = _; rw [HE.out, decide_eq_false h2]; simp
      clear hz1 hz2 HAL HE h2
      go_enter Try.func15, Try.ntmps15
      go_wp2_with fail
      generalize ((w.alloc (.cells #[.slice A L.length ca] 24)).alloc (.cells #[.slice A2 M.length cb] 24)).alloc (.cells #[.int .i64 0, .int .i64 0] 31) = W0 at *
      have q0 : ∀ p : BelowBy W0.heap.size W0, p.x.cell? ⟨w.heap.size, 0, none⟩ = some (.slice A L.length ca) := fun p => cell_of_one ((p.h.block _ (lt_of_block HX0.out)).trans HX0.out)
      have q1 : ∀ p : BelowBy W0.heap.size W0, p.x.cell? ⟨w.heap.size + 1, 0, none⟩ = some (.slice A2 M.length cb) := fun p => cell_of_one ((p.h.block _ (lt_of_block HX1.out)).trans HX1.out)
      have q2 : ∀ p : BelowBy W0.heap.size W0, p.x.cell? ⟨w.heap.size + 1 + 1, 0, none⟩ = some (.int .i64 0) := fun p => (fault_facts ((p.h.block _ (lt_of_block HX2.out)).trans HX2.out)).1
      have q3 : ∀ p : BelowBy W0.heap.size W0, p.x.cell? ⟨w.heap.size + 1 + 1, 1, none⟩ = some (.int .i64 0) := fun p => (fault_facts ((p.h.block _ (lt_of_block HX2.out)).trans HX2.out)).2.1
      have HB : Hid (∀ p : BelowBy W0.heap.size W0, Below w.heap.size w p.x) := fun p => HZ.out.trans (p.h.mono HZ.out.size)
      refine wp_region_quiet_below (by kernel_rfl) (by kernel_rfl) ?_
      repeat (quiet_step (first
        | (go_at_call 11; with_reducible refine Calls.below_of (HC1.out _ (HB.out _)))
        | (go_at_call 11; with_reducible refine Calls.below_of (HC2.out _ (HB.out _)))
        | fail))
      refine wpQuiet_nil ?_
      intro _ hw'
      obtain ⟨pq, hw''⟩ := hw'
      subst hw''
      go_wp2_with fail
      go_ret
      exact ⟨ret_b HE2.out.symm, HZ.out.trans (pq.h.mono HZ.out.size)⟩
  · have hb : (c1 == 0) = false := by simpa using h1
    have HE2 : Hid (R = false) := by show _ = _; rw [HE.out, decide_eq_false h1]; rfl
    clear hz1 hz2 HAL HE h1
    go_enter Try.func15, Try.ntmps15
    go_wp2_with fail
    generalize ((w.alloc (.cells #[.slice A L.length ca] 24)).alloc (.cells #[.slice A2 M.length cb] 24)).alloc (.cells #[.int .i64 0, .int .i64 0] 31) = W0 at *
    have q0 : ∀ p : BelowBy W0.heap.size W0, p.x.cell? ⟨w.heap.size, 0, none⟩ = some (.slice A L.length ca) := fun p => cell_of_one ((p.h.block _ (lt_of_block HX0.out)).trans HX0.out)
    have q1 : ∀ p : BelowBy W0.heap.size W0, p.x.cell? ⟨w.heap.size + 1, 0, none⟩ = some (.slice A2 M.length cb) := fun p => cell_of_one ((p.h.block _ (lt_of_block HX1.out)).trans HX1.out)
    have q2 : ∀ p : BelowBy W0.heap.size W0, p.x.cell? ⟨w.heap.size + 1 + 1, 0, none⟩ = some (.int .i64 0) := fun p => (fault_facts ((p.h.block _ (lt_of_block HX2.out)).trans HX2.out)).1
    have q3 : ∀ p : BelowBy W0.heap.size W0, p.x.cell? ⟨w.heap.size + 1 + 1, 1, none⟩ = some (.int .i64 0) := fun p => (fault_facts ((p.h.block _ (lt_of_block HX2.out)).trans HX2.out)).2.1
    have HB : Hid (∀ p : BelowBy W0.heap.size W0, Below w.heap.size w p.x) := fun p => HZ.out.trans (p.h.mono HZ.out.size)
    refine wp_region_quiet_below (by kernel_rfl) (by kernel_rfl) ?_
    repeat (quiet_step (first
      | (go_at_call 11; with_reducible refine Calls.below_of (HC1.out _ (HB.out _)))
      | fail))
    refine wpQuiet_nil ?_
    intro _ hw'
    obtain ⟨pq, hw''⟩ := hw'
    subst hw''
    go_wp2_with fail
    go_ret
    exact ⟨ret_b HE2.out.symm, HZ.out.trans (pq.h.mono HZ.out.size)⟩
end Go.Proofs.Ytaonojimpfhkfaa.As
