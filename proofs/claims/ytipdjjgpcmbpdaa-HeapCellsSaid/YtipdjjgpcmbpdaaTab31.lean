/- Contract of table.Clone. -/
import Derived.Test.YtipdjjgpcmbpdaaTab29
import Derived.Test.YtipdjjgpcmbpdaaTab15
set_option linter.unusedVariables false
namespace Go.Proofs.Ytipdjjgpcmbpdaa.Ta
open Go.RowKit Go.Shelf Go.ChangeShapes Go.WideShapes Go.ChangeAt Go.Proofs.Ytipdjjgpcmbpdaa.Va
attribute [local go_sem] Oper.semAt_some

theorem one {w : World} {g : Nat} {x : Value} {t : TypeId} (h : w.heap[g]? = some (.cells #[x] t)) : w.cell? ⟨g, 0, none⟩ = some x := by rw [cell_of_row _ _ _ _ _ _ h]; rfl
theorem grown_cells {B : Nat} {w w' : World} {row : Option Nat} (hg : w.grownBy w' row) (hr : ∀ r, row = some r → B ≤ r ∧ ∃ o : Obj, w.heap[r]? = some o ∧ o.isCells = false) {g : Nat} {cs : Array Value} {t : TypeId} {fr : Nat × Nat} (h : w.heap[g]? = some (.cells cs t fr)) : w'.heap[g]? = some (.cells cs t fr) :=
  (hg.block g (lt_of_block h) (fun e => by obtain ⟨_, o, ho, hc⟩ := hr g e.symm; rw [h] at ho; cases ho; cases hc)).trans h
theorem isTab_grown {B' B b sz us : Nat} {w w' : World} {E : List (Vl × Vl × Int)} {last : Int} {row : Option Nat} (h : IsTab B b w E last sz us) (hg : w.grownBy w' row) (hr : ∀ r, row = some r → B' ≤ r ∧ ∃ o : Obj, w.heap[r]? = some o ∧ o.isCells = false) : IsTab B b w' E last sz us := by
  obtain ⟨ar, cr, ap, cp, R, P, n, hT, h1, h2, h3⟩ := h
  refine ⟨ar, cr, ap, cp, R, P, n, ⟨grown_cells hg hr hT.blk, hT.low, row_move hT.r fun k e => ?_, row_move hT.p fun k e => ?_, hT.g, hT.cnt, hT.ok, hT.bd⟩, h1, h2, h3⟩
  · obtain ⟨_, cur, hc⟩ := row_block hT.r k e
    rw [grown_cells hg hr hc, hc]
  · obtain ⟨_, cur, hc⟩ := row_block hT.p k e
    rw [grown_cells hg hr hc, hc]
theorem st_keeps {B B' : Nat} {w w' : World} (h : St B w w') : KeepsFrom B' w w' := ⟨h.f.size, fun k o _ hk ho => h.f.block k o hk (fun cur t fr e => by subst e; cases ho)⟩
theorem ents_nodup {R : List Rw} {P : List Int} {last : Int} (h : Good R P last) : ((ents R).map (·.1)).Nodup := by
  have h1 : R.Pairwise (fun r q => r.k ≠ nul → r.k ≠ q.k) := by
    rw [List.pairwise_iff_getElem]
    intro i j hi hj hij hn he
    have := h.uniq i j _ _ (List.getElem?_eq_getElem hi) (List.getElem?_eq_getElem hj) hn he
    omega
  have h2 : (R.filter live).Pairwise (fun r q => r.k ≠ q.k) := by
    refine List.Pairwise.imp_of_mem ?_ (h1.filter live)
    intro a b ha _ hab
    have hl := (List.mem_filter.1 ha).2
    exact hab (by simpa [live] using hl)
  unfold ents
  rw [List.map_map]
  exact List.pairwise_map.2 h2
/-- What Put makes of any key that may be. -/
theorem put_sub {B b sz us : Nat} {E : List (Vl × Vl × Int)} {last : Int} (k v : Vl) (hok : okK k) (hkn : k ≠ nul) (hE : E.length < 1048576) (hl : last + 1 < 4611686018427387904) (w : World) (hB : B ≤ w.heap.size) (h : IsTab B b w E last sz us) :
    Calls Try.prog 21 #[.pointer (some ⟨b, 0, none⟩), .agg #[.int .i64 k.1, .int .i64 k.2.1, .string k.2.2], .agg #[.int .i64 v.1, .int .i64 v.2.1, .string v.2.2]] w fun x w' => x = .returned (.int .i64 0) ∧
      (∃ E' last' sz' us', IsTab B b w' E' last' sz' us' ∧ E'.length ≤ E.length + 1 ∧ last' ≤ last + 1 ∧ ((∀ e ∈ E, e.1 ≠ k) → prs E' = prs E ++ [(k, v)])) ∧ St B w w' := by
  rcases idx_tab k E with ⟨_, hno⟩ | ⟨j, v0, c, hj, _⟩
  · refine (put_new k v hok hkn (Or.inr hno) hE hl w hB h).mono ?_
    rintro e w' ⟨rfl, sz', us', hT, _, hst⟩
    exact ⟨rfl, ⟨_, _, sz', us', hT, by simp, by omega, fun _ => prs_app E k v _⟩, hst⟩
  · refine (put_old hj v w hB h).mono ?_
    rintro e w' ⟨rfl, hT, hst⟩
    exact ⟨rfl, ⟨_, _, sz, us, hT, by simp, by omega, fun hn => absurd rfl (hn _ (List.mem_of_getElem? hj))⟩, hst⟩
def CloneI (n c b : Nat) (w : World) (pre : List { p : Vl × Vl // okK p.1 ∧ p.1 ≠ nul }) (W : World) : Prop :=
  (∃ E last sz us, IsTab n b W E last sz us ∧ E.length ≤ pre.length ∧ last ≤ pre.length ∧ ((pre.map (·.1.1)).Nodup → prs E = pre.map (·.1))) ∧ W.heap[c]? = some (.cells #[.pointer (some ⟨b, 0, none⟩)] 25 (0, 0)) ∧ Below n w W
theorem cloneI_own {n c b B : Nat} {w : World} (hn : n ≤ w.heap.size) (hB : n ≤ B) : OwnFrom B (CloneI n c b w) := fun pre X Y row hs hg hr => by
  obtain ⟨⟨E, last, sz, us, hT, h1, h2, h3⟩, hc, hb⟩ := hs
  exact ⟨⟨E, last, sz, us, isTab_grown hT hg hr, h1, h2, h3⟩, grown_cells hg hr hc, hb.grown hg (Nat.le_trans hn hb.size) (fun r e => Nat.le_trans hB (hr r e).1)⟩
set_option maxRecDepth 100000 in
set_option maxHeartbeats 4000000 in
theorem clone_tab {B b cr cp m : Nat} {ar ap : Option Addr} {R : List Rw} {P : List Int} {last : Int} (w : World) (hT : Tab B b ar cr ap cp w R P m last) (hE : (ents R).length ≤ 1000000) :
    Calls Try.prog 19 #[.pointer (some ⟨b, 0, none⟩)] w fun e W' => ∃ c, e = .returned (.pointer (some ⟨c, 0, none⟩)) ∧ (∃ E last sz us, IsTab w.heap.size c W' E last sz us ∧ prs E = prs (ents R) ∧ last ≤ (ents R).length) ∧ Below w.heap.size w W' := by
  have HE := Lib.hid hE
  refine (callsIn_wide (n := 3)).1 ?_
  refine callsIn_of_wp_marks Try.func19 rfl trivial ?_ rfl
  simp only [Try.ntmps19, List.size_toArray, List.length_cons, List.length_nil, Nat.reduceAdd, Nat.reduceSub, Array.replicate_succ, Array.replicate_zero, List.push_toArray, List.append_toArray, List.nil_append, List.cons_append]
  gi_wp2_with (refine ⟨trivial, ?_⟩; gi_at_call 12; refine (callsIn_wide.2 (tnew_any _)).mono ?_; rintro e w1 ⟨c, rfl, hT1, hb1⟩)
  gi_wp2_with (refine ⟨trivial, ?_⟩; gi_at_call 60; refine (each_in 2 _ _).mono ?_; rintro e w' ⟨rfl, rfl⟩)
  have hA1 := (Below.refl w1.heap.size w1).alloc (Nat.le_refl _) (.cells #[.pointer (some ⟨c, 0, none⟩)] 25)
  have hA2 := hA1.alloc (by simp) (.cells #[.pointer (some ⟨b, 0, none⟩)] 25)
  have hT2 := isTab_below hT1 hA2
  have hB2 : Below w.heap.size w _ := hb1.trans (hA2.mono hb1.size)
  have hTT := tab_below hT hB2
  have bC : ((w1.alloc (.cells #[.pointer (some ⟨c, 0, none⟩)] 25)).alloc (.cells #[.pointer (some ⟨b, 0, none⟩)] 25)).heap[w1.heap.size]? = some (.cells #[.pointer (some ⟨c, 0, none⟩)] 25 (0, 0)) := (heap_alloc_old _ _ (by simp)).trans (heap_alloc_new w1 _)
  have bT := heap_alloc_new (w1.alloc (.cells #[.pointer (some ⟨c, 0, none⟩)] 25)) (.cells #[.pointer (some ⟨b, 0, none⟩)] 25)
  have hsz : ((w1.alloc (.cells #[.pointer (some ⟨c, 0, none⟩)] 25)).alloc (.cells #[.pointer (some ⟨b, 0, none⟩)] 25)).heap.size = w1.heap.size + 2 := by simp
  have hs1 := hb1.size
  rw [World.size_alloc] at bT
  have cT := one bT
  obtain ⟨W0, hW0⟩ : ∃ W0, (w1.alloc (.cells #[.pointer (some ⟨c, 0, none⟩)] 25)).alloc (.cells #[.pointer (some ⟨b, 0, none⟩)] 25) = W0 := ⟨_, rfl⟩
  rw [hW0] at bC bT hT2 hB2 hTT hsz cT ⊢
  clear hW0 hT1 hb1 hA1 hA2
  have hlow : ∀ g, ar.map (·.block) = some g → g < w.heap.size := fun g hg => by obtain ⟨_, cur, hc⟩ := row_block hT.r g hg; exact lt_of_block hc
  have hPx : ∀ (i : Nat) (r : Rw), R[i]? = some r → r.k ≠ nul → okK r.k ∧ r.k ≠ nul := fun i r hi hn => ⟨hT.ok i r hi, hn⟩
  refine wpIn_rangeFunc_ownH rfl (by decide) (gf := 78) (lb := #[.pointer (some ⟨w1.heap.size + 1, 0, none⟩)]) rfl trivial (enters_of Try.func78 (by kernel_rfl) rfl)
    (each_stops_ok (fun p => okK p.1 ∧ p.1 ≠ nul) 2 (by decide) (w1.heap.size + 1) w.heap.size B b cr cp m ar ap R P last W0 hPx (by omega) (by omega) cT hTT hlow) belowK_t (belowK_b (by omega)) (Below.refl _ _) (fun _ => rfl)
    (CloneI w.heap.size w1.heap.size c w)
    (fun _ _ _ => False)
    (cloneI_own (Nat.le_refl _) (by omega))
    (fun _ _ _ _ _ hs _ _ => hs)
    ⟨⟨[], 0, 0, 0, hT2, Nat.le_refl _, Int.le_refl _, fun _ => rfl⟩, bC, hB2⟩
    (fun x a' W => ∃ Bk Bv, W.heap[Bk]? = some (.cells #[.int .i64 x.1.1.1, .int .i64 x.1.1.2.1, .string x.1.1.2.2] 30 (0, 0)) ∧ W.heap[Bv]? = some (.cells #[.int .i64 x.1.2.1, .int .i64 x.1.2.2.1, .string x.1.2.2.2] 30 (0, 0)) ∧ a' = { tmps := #[.pointer (some ⟨b, 0, none⟩), undef, .pointer none, .pointer (some ⟨w1.heap.size, 0, none⟩), .pointer (some ⟨Bk, 0, none⟩), .pointer (some ⟨Bv, 0, none⟩), .pointer (some ⟨c, 0, none⟩), .pointer (some ⟨b, 0, none⟩), .func (.func 78) #[] #[.pointer (some ⟨w1.heap.size + 1, 0, none⟩)], ag x.1.1, ag x.1.2, undef, undef, undef, undef, undef], defers := [] })
    (fun x a' s X Y row hs hg hr => by obtain ⟨Bk, Bv, h1, h2, h3⟩ := hs; exact ⟨Bk, Bv, grown_cells hg hr h1, grown_cells hg hr h2, h3⟩)
    ?assign ?body ?done ?stop
  case assign =>
    rintro l pre x W K ⟨⟨E, last, sz, us, hT, h1, h2, h3⟩, hc, hB⟩ hK
    have hq := ((Below.refl W.heap.size W).alloc (Nat.le_refl _) (.cells #[.int .i64 x.1.1.1, .int .i64 x.1.1.2.1, .string x.1.1.2.2] 30)).alloc (by simp) (.cells #[.int .i64 x.1.2.1, .int .i64 x.1.2.2.1, .string x.1.2.2.2] 30)
    simp only [ag]
    gi_wp2
    refine hK _ _ (((KeepsOthers.alloc _ _).trans (KeepsOthers.alloc _ _)).from _) (hq.mono hB.size) ⟨⟨E, last, sz, us, isTab_below hT hq, h1, h2, h3⟩, (hq.block _ (lt_of_block hc)).trans hc, hB.trans (hq.mono hB.size)⟩ ⟨W.heap.size, W.heap.size + 1, (heap_alloc_old _ _ (by simp)).trans (heap_alloc_new W _), ?_, rfl⟩
    have := heap_alloc_new (W.alloc (.cells #[.int .i64 x.1.1.1, .int .i64 x.1.1.2.1, .string x.1.1.2.2] 30)) (.cells #[.int .i64 x.1.2.1, .int .i64 x.1.2.2.1, .string x.1.2.2.2] 30)
    rw [World.size_alloc] at this
    exact this
  case body =>
    rintro l pre x a' W hl ⟨rc, hrc⟩ ⟨⟨E, lst, sz, us, hT, h1, h2, h3⟩, hc, hB⟩ ⟨Bk, Bv, hk, hv, rfl⟩ hlt
    have hcc := one hc
    obtain ⟨d0, d1, d2⟩ := three hk
    obtain ⟨e0, e1, e2⟩ := three hv
    have hle := HE.out
    have HP := Lib.hid (put_sub x.1.1 x.1.2 x.2.1 x.2.2 (by omega) (by omega) W hB.size hT)
    have HC := Lib.hid hc
    clear hc hk hv hle
    gi_wp2_with (refine ⟨trivial, ?_⟩; gi_at_call 21; refine (CallsIn.inRound l (callsIn_wide.2 HP.out)).mono ?_; rintro e w3 ⟨rfl, ⟨E', last', sz', us', hT', k1, k2, k3⟩, hst⟩)
    refine ⟨st_keeps hst, hst.b, ⟨⟨E', last', sz', us', hT', by simp; omega, by simp; omega, fun hnd => ?_⟩, hst.f.block _ _ HC.out (fun cur t fr e => by cases e; exact ⟨by decide, by decide, by decide⟩), hB.trans hst.b⟩⟩
    rw [List.map_append, List.nodup_append] at hnd
    obtain ⟨n1, _, n3⟩ := hnd
    have hpe := h3 n1
    rw [List.map_append, ← hpe]
    refine k3 fun e he heq => ?_
    have hm : (e.1, e.2.1) ∈ prs E := by unfold prs; exact List.mem_map.2 ⟨e, he, rfl⟩
    rw [hpe] at hm
    obtain ⟨y, hy, hye⟩ := List.mem_map.1 hm
    refine n3 y.1.1 (List.mem_map.2 ⟨y, hy, rfl⟩) x.1.1 (by simp) ?_
    rw [hye]; exact heq
  case done =>
    rintro D ys W hD hys ⟨⟨E, lst, sz, us, hT, h1, h2, h3⟩, hc, hB⟩ hK
    have hcc := one hc
    have hlen : ys.length = (ents R).length := by have := congrArg List.length hys; simpa using this
    have hkeys : (ys.map (·.1.1)).Nodup := by
      have e1 : ys.map (·.1.1) = (ents R).map (·.1) := by
        have := congrArg (List.map (·.1)) hys
        rw [List.map_map, List.map_map] at this
        exact this
      rw [e1]; exact ents_nodup hTT.g
    have hpe := h3 hkeys
    gi_wp2
    refine ⟨by simp, .inl ⟨_, _, rfl, run_takeDeferred hK, ?_⟩⟩
    refine ⟨_, results_tmp rfl _ _ _, c, rfl, ⟨E, lst, sz, us, isTab_grown hT (grownBy_putObj' W D (.deferred none)) (B' := 0) (fun r e => by cases e; exact ⟨Nat.zero_le _, _, hK, rfl⟩), ?_, by omega⟩, hB.trans (belowK_b (w := w) (Nat.le_refl _) W D _ _ (by omega) hK rfl rfl)⟩
    rw [hpe]; exact hys
  case stop =>
    rintro D c pre W _ _ h _
    exact h.elim
end Go.Proofs.Ytipdjjgpcmbpdaa.Ta
