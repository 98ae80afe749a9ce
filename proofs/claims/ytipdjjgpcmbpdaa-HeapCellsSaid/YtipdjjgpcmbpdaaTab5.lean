/- Contracts of table.Set, Delete, Clear. -/
import Derived.Test.YtipdjjgpcmbpdaaTab4
set_option linter.unusedVariables false
namespace Go.Proofs.Ytipdjjgpcmbpdaa.Ta
open Go.RowKit Go.ChangeShapes Go.WideShapes Go.ChangeAt Go.Proofs.Ytipdjjgpcmbpdaa.Va

theorem flatR_set1 : ∀ (R : List Rw) (i : Nat) (r q : Rw) (j : Nat) (x : Value), R[i]? = some r → j < 8 → celR q = (celR r).set j x → flatR (R.set i q) = (flatR R).set (i * 8 + j) x
  | [], i, r, q, j, x, h, _, _ => by simp at h
  | y :: R, 0, r, q, j, x, h, hj, hq => by
    simp at h; subst h
    rw [List.set_cons_zero, flatR_cons, flatR_cons, hq, Nat.zero_mul, Nat.zero_add, List.set_append_left _ _ (by simp [celR]; omega)]
  | y :: R, i + 1, r, q, j, x, h, hj, hq => by
    have ih := flatR_set1 R i r q j x (by simpa using h) hj hq
    rw [List.set_cons_succ, flatR_cons, flatR_cons, ih, List.set_append_right _ _ (by simp [celR]; omega), show (i + 1) * 8 + j - (celR y).length = i * 8 + j by simp [celR]; omega]
/-- A table's memory. -/
structure TabM (B b : Nat) (ar : Option Addr) (cr : Nat) (ap : Option Addr) (cp : Nat) (w : World) (R : List Rw) (P : List Int) (n last : Int) : Prop where
  blk : w.heap[b]? = some (.cells #[.slice ar R.length cr, .slice ap P.length cp, .int .i64 n, .int .i64 last] 103 (0, 0))
  low : B ≤ b
  r : OwnR B ar cr w R
  p : OwnP B ap cp w P
theorem Tab.m {B b cr cp n : Nat} {ar ap : Option Addr} {w : World} {R : List Rw} {P : List Int} {last : Int} (h : Tab B b ar cr ap cp w R P n last) : TabM B b ar cr ap cp w R P n last := ⟨h.blk, h.low, h.r, h.p⟩
theorem row_move {B e size n : Nat} {ad : Option Addr} {cap : Nat} {w w' : World} {xs : List Value} (h : w.ownsRow B e size (.slice ad n cap) n xs) (hk : ∀ g, ad.map (·.block) = some g → w'.heap[g]? = w.heap[g]?) : w'.ownsRow B e size (.slice ad n cap) n xs := by
  refine ⟨h.1, ?_⟩
  rcases h.2 with h1 | ⟨g, c, cur, hv, hb, hg, rest⟩
  · exact Or.inl h1
  · refine Or.inr ⟨g, c, cur, hv, hb, ?_, rest⟩
    simp only [Value.slice.injEq] at hv
    rw [hk g (by rw [hv.1]; rfl)]; exact hg
theorem set_heap {w : World} {g o k : Nat} {v : Value} (h : k ≠ g) : (w.setCell ⟨g, o, none⟩ v).heap[k]? = w.heap[k]? := by
  simp only [World.setCell, Array.getElem?_modify]
  rw [if_neg (fun e => h e.symm)]
/-- A block of another type turns. -/
theorem tabM_other {B b cr cp : Nat} {ar ap : Option Addr} {w : World} {R : List Rw} {P : List Int} {n last : Int} (h : TabM B b ar cr ap cp w R P n last) {g o : Nat} {v : Value} {cur : Array Value} {t : TypeId} {fr : Nat × Nat} (hg : w.heap[g]? = some (.cells cur t fr))
    (h1 : t ≠ 109) (h2 : t ≠ 21) (h3 : t ≠ 103) : TabM B b ar cr ap cp (w.setCell ⟨g, o, none⟩ v) R P n last := by
  refine ⟨?_, h.low, row_move h.r fun k e => set_heap ?_, row_move h.p fun k e => set_heap ?_⟩
  · rw [set_heap]
    · exact h.blk
    · rintro rfl; rw [h.blk] at hg; simp only [Option.some.injEq, Obj.cells.injEq] at hg; exact h3 hg.2.1.symm
  · rintro rfl
    obtain ⟨_, cur', hc⟩ := row_block h.r _ e
    rw [hc] at hg; simp only [Option.some.injEq, Obj.cells.injEq] at hg; exact h1 hg.2.1.symm
  · rintro rfl
    obtain ⟨_, cur', hc⟩ := row_block h.p _ e
    rw [hc] at hg; simp only [Option.some.injEq, Obj.cells.injEq] at hg; exact h2 hg.2.1.symm
/-- What a table's call leaves else. -/
structure St (B : Nat) (w0 w : World) : Prop where
  f : FrT w0 w
  b : Below B w0 w
theorem st_below {B : Nat} {w w' : World} (h : Below w.heap.size w w') (hB : B ≤ w.heap.size) : St B w w' := ⟨frT_below h, h.mono hB⟩
theorem st_trans {B : Nat} {w W w' : World} (h1 : St B w W) (h2 : St B W w') : St B w w' := ⟨frT_trans h1.f h2.f, h1.b.trans h2.b⟩
theorem st_new {B : Nat} {w0 w : World} (h : St B w0 w) {p : Addr} (hp : w0.heap.size ≤ p.block) (hB : B ≤ w0.heap.size) (v : Value) : St B w0 (w.setCell p v) :=
  ⟨⟨h.f.os, h.f.tape, h.f.output, by simpa [World.setCell] using h.f.size, fun k A hA hn => by
    have : k < w0.heap.size := lt_of_block hA
    simp only [World.setCell, Array.getElem?_modify]
    rw [if_neg (by omega)]
    exact h.f.block k A hA hn⟩, h.b.setCell (Nat.le_trans hB hp) v⟩
theorem st_drew {B : Nat} {w0 w : World} (h : St B w0 w) : St B w0 w.drew := ⟨⟨h.f.os, h.f.tape, h.f.output, h.f.size, h.f.block⟩, h.b.drew⟩
theorem tabM_drew {B b cr cp : Nat} {ar ap : Option Addr} {w : World} {R : List Rw} {P : List Int} {n last : Int} (h : TabM B b ar cr ap cp w R P n last) : TabM B b ar cr ap cp w.drew R P n last := ⟨h.blk, h.low, ⟨h.r.1, h.r.2⟩, ⟨h.p.1, h.p.2⟩⟩
/-- A cell of a row turns. -/
theorem tabM_set {B b cr cp gr : Nat} {ap : Option Addr} {w0 w : World} {R : List Rw} {P : List Int} {n last : Int} (h : TabM B b (some ⟨gr, 0, none⟩) cr ap cp w R P n last ∧ St B w0 w) {i j : Nat} {r q : Rw} {x : Value} (hi : R[i]? = some r) (hj : j < 8) (hq : celR q = (celR r).set j x) :
    TabM B b (some ⟨gr, 0, none⟩) cr ap cp (w.setCell ⟨gr, i * 8 + j, none⟩ x) (R.set i q) P n last ∧ St B w0 (w.setCell ⟨gr, i * 8 + j, none⟩ x) := by
  obtain ⟨h, hst⟩ := h
  obtain ⟨hBg, cur, hc⟩ := row_block h.r gr rfl
  have hbg : b ≠ gr := by
    rintro rfl; rw [h.blk] at hc; simp only [Option.some.injEq, Obj.cells.injEq] at hc; exact absurd hc.2.1 (by decide)
  refine ⟨⟨by rw [List.length_set, set_heap hbg]; exact h.blk, h.low, ?_, row_move h.p fun k e => set_heap ?_⟩, ⟨frT_trans hst.f (frT_set hc (Or.inl rfl)), hst.b.setCell hBg _⟩⟩
  · show World.ownsRow _ _ _ _ _ _ _
    rw [flatR_set1 R i r q j x hi hj hq, List.length_set]
    exact (World.ownsRow.stored h.r (i * 8 + j) x).1
  · rintro rfl
    obtain ⟨_, cur', hc'⟩ := row_block h.p _ e
    rw [hc'] at hc; simp only [Option.some.injEq, Obj.cells.injEq] at hc; exact absurd hc.2.1 (by decide)
theorem set_self {R : List Rw} {i : Nat} {r q : Rw} (hi : R[i]? = some r) : (R.set i q)[i]? = some q := by
  rw [set_get, if_pos rfl, if_pos (List.getElem?_eq_some_iff.1 hi).1]
theorem tabM_val {B b cr cp gr : Nat} {ap : Option Addr} {w0 w : World} {R : List Rw} {P : List Int} {n last : Int} (h : TabM B b (some ⟨gr, 0, none⟩) cr ap cp w R P n last ∧ St B w0 w) {i : Nat} {r : Rw} (hi : R[i]? = some r) (v : Vl) :
    TabM B b (some ⟨gr, 0, none⟩) cr ap cp (((w.setCell ⟨gr, i * 8 + 3, none⟩ (.int .i64 v.1)).setCell ⟨gr, i * 8 + 4, none⟩ (.int .i64 v.2.1)).setCell ⟨gr, i * 8 + 5, none⟩ (.string v.2.2)) (R.set i ⟨r.k, v, r.c, r.s⟩) P n last ∧
      St B w0 (((w.setCell ⟨gr, i * 8 + 3, none⟩ (.int .i64 v.1)).setCell ⟨gr, i * 8 + 4, none⟩ (.int .i64 v.2.1)).setCell ⟨gr, i * 8 + 5, none⟩ (.string v.2.2)) := by
  have h1 := tabM_set h (j := 3) (q := ⟨r.k, (v.1, r.v.2.1, r.v.2.2), r.c, r.s⟩) hi (by omega) rfl
  have h2 := tabM_set h1 (j := 4) (q := ⟨r.k, (v.1, v.2.1, r.v.2.2), r.c, r.s⟩) (set_self hi) (by omega) rfl
  have h3 := tabM_set h2 (j := 5) (q := ⟨r.k, v, r.c, r.s⟩) (set_self (set_self hi)) (by omega) rfl
  rw [List.set_set, List.set_set] at h3
  exact h3
theorem tabM_row {B b cr cp gr : Nat} {ap : Option Addr} {w0 w : World} {R : List Rw} {P : List Int} {n last : Int} (h : TabM B b (some ⟨gr, 0, none⟩) cr ap cp w R P n last ∧ St B w0 w) {i : Nat} {r : Rw} (hi : R[i]? = some r) (q : Rw) :
    TabM B b (some ⟨gr, 0, none⟩) cr ap cp ((((((((w.setCell ⟨gr, i * 8, none⟩ (.int .i64 q.k.1)).setCell ⟨gr, i * 8 + 1, none⟩ (.int .i64 q.k.2.1)).setCell ⟨gr, i * 8 + 2, none⟩ (.string q.k.2.2)).setCell ⟨gr, i * 8 + 3, none⟩ (.int .i64 q.v.1)).setCell ⟨gr, i * 8 + 4, none⟩ (.int .i64 q.v.2.1)).setCell ⟨gr, i * 8 + 5, none⟩ (.string q.v.2.2)).setCell ⟨gr, i * 8 + 6, none⟩ (.int .i64 q.c)).setCell ⟨gr, i * 8 + 7, none⟩ (.int .i64 q.s)) (R.set i q) P n last ∧
      St B w0 ((((((((w.setCell ⟨gr, i * 8, none⟩ (.int .i64 q.k.1)).setCell ⟨gr, i * 8 + 1, none⟩ (.int .i64 q.k.2.1)).setCell ⟨gr, i * 8 + 2, none⟩ (.string q.k.2.2)).setCell ⟨gr, i * 8 + 3, none⟩ (.int .i64 q.v.1)).setCell ⟨gr, i * 8 + 4, none⟩ (.int .i64 q.v.2.1)).setCell ⟨gr, i * 8 + 5, none⟩ (.string q.v.2.2)).setCell ⟨gr, i * 8 + 6, none⟩ (.int .i64 q.c)).setCell ⟨gr, i * 8 + 7, none⟩ (.int .i64 q.s)) := by
  have h0 := tabM_set h (j := 0) (q := ⟨(q.k.1, r.k.2.1, r.k.2.2), r.v, r.c, r.s⟩) hi (by omega) rfl
  have h1 := tabM_set h0 (j := 1) (q := ⟨(q.k.1, q.k.2.1, r.k.2.2), r.v, r.c, r.s⟩) (set_self hi) (by omega) rfl
  rw [List.set_set] at h1
  have h2 := tabM_set h1 (j := 2) (q := ⟨q.k, r.v, r.c, r.s⟩) (set_self hi) (by omega) rfl
  rw [List.set_set] at h2
  have h3 := tabM_set h2 (j := 3) (q := ⟨q.k, (q.v.1, r.v.2.1, r.v.2.2), r.c, r.s⟩) (set_self hi) (by omega) rfl
  rw [List.set_set] at h3
  have h4 := tabM_set h3 (j := 4) (q := ⟨q.k, (q.v.1, q.v.2.1, r.v.2.2), r.c, r.s⟩) (set_self hi) (by omega) rfl
  rw [List.set_set] at h4
  have h5 := tabM_set h4 (j := 5) (q := ⟨q.k, q.v, r.c, r.s⟩) (set_self hi) (by omega) rfl
  rw [List.set_set] at h5
  have h6 := tabM_set h5 (j := 6) (q := ⟨q.k, q.v, q.c, r.s⟩) (set_self hi) (by omega) rfl
  rw [List.set_set] at h6
  have h7 := tabM_set h6 (j := 7) (q := q) (set_self hi) (by omega) rfl
  rw [List.set_set] at h7
  exact h7
theorem tabM_n {B b cr cp : Nat} {ar ap : Option Addr} {w0 w : World} {R : List Rw} {P : List Int} {n last : Int} (h : TabM B b ar cr ap cp w R P n last ∧ St B w0 w) (n' : Int) :
    TabM B b ar cr ap cp (w.setCell ⟨b, 2, none⟩ (.int .i64 n')) R P n' last ∧ St B w0 (w.setCell ⟨b, 2, none⟩ (.int .i64 n')) := by
  obtain ⟨h, hst⟩ := h
  refine ⟨⟨?_, h.low, row_move h.r fun k e => set_heap ?_, row_move h.p fun k e => set_heap ?_⟩, ⟨frT_trans hst.f (frT_set h.blk (Or.inr (Or.inr rfl))), hst.b.setCell h.low _⟩⟩
  · rw [heap_setCell_same _ _ _ _ _ _ h.blk]; rfl
  · rintro rfl
    obtain ⟨_, cur', hc⟩ := row_block h.r _ e
    rw [h.blk] at hc; simp only [Option.some.injEq, Obj.cells.injEq] at hc; exact absurd hc.2.1 (by decide)
  · rintro rfl
    obtain ⟨_, cur', hc⟩ := row_block h.p _ e
    rw [h.blk] at hc; simp only [Option.some.injEq, Obj.cells.injEq] at hc; exact absurd hc.2.1 (by decide)

theorem set_ok {R : List Rw} {i : Nat} {q : Rw} (h : ∀ (j : Nat) (r : Rw), R[j]? = some r → okK r.k) (hq : okK q.k) : ∀ (j : Nat) (r : Rw), (R.set i q)[j]? = some r → okK r.k := by
  intro j r hj
  rw [set_get] at hj
  by_cases e : i = j
  · rw [if_pos e] at hj
    by_cases e2 : i < R.length
    · rw [if_pos e2] at hj; cases hj; exact hq
    · rw [if_neg e2] at hj; cases hj
  · rw [if_neg e] at hj; exact h j r hj
set_option maxRecDepth 100000 in
set_option maxHeartbeats 1000000 in
theorem set_no {B b sz us : Nat} {E : List (Vl × Vl × Int)} {last : Int} (key v : Vl) (hok : okK key) (hn : NoKey E key) (w : World) (h : IsTab B b w E last sz us) :
    Calls Try.prog 52 #[.pointer (some ⟨b, 0, none⟩), .agg #[.int .i64 key.1, .int .i64 key.2.1, .string key.2.2], .agg #[.int .i64 v.1, .int .i64 v.2.1, .string v.2.2]] w fun x w' => x = .returned (.int .i64 3) ∧ Below w.heap.size w w' := by
  obtain ⟨ar, cr, ap, cp, R, P, n, hT, rfl, _, _⟩ := h
  have hE1 : Below w.heap.size w (w.alloc (.cells #[.int .i64 key.1, .int .i64 key.2.1, .string key.2.2] 30)) := (Below.refl _ _).alloc (Nat.le_refl _) _
  have hE := hE1.alloc (by simp) (.cells #[.int .i64 v.1, .int .i64 v.2.1, .string v.2.2] 30)
  have HF := Lib.hid (find_no key hok (noKey_rows hn) _ (tab_below hT hE))
  have HE := Lib.hid hE
  clear hT hE hE1 hn hok
  go_enter Try.func52, Try.ntmps52
  go_wp2_with fail
  refine HF.out.mono ?_
  rintro e w1 ⟨rfl, hb1⟩
  have HZ := Lib.hid (HE.out.trans (hb1.mono HE.out.size))
  clear hb1
  go_wp2_with fail
  go_ret
  exact ⟨rfl, HZ.out⟩
set_option maxRecDepth 100000 in
set_option maxHeartbeats 4000000 in
theorem set_yes {B b sz us j : Nat} {E : List (Vl × Vl × Int)} {last : Int} {k v0 : Vl} {c : Int} (hj : E[j]? = some (k, v0, c)) (v : Vl) (w : World) (hB : B ≤ w.heap.size) (h : IsTab B b w E last sz us) :
    Calls Try.prog 52 #[.pointer (some ⟨b, 0, none⟩), .agg #[.int .i64 k.1, .int .i64 k.2.1, .string k.2.2], .agg #[.int .i64 v.1, .int .i64 v.2.1, .string v.2.2]] w fun x w' => x = .returned (.int .i64 0) ∧ IsTab B b w' (E.set j (k, v, c)) last sz us ∧ St B w w' := by
  obtain ⟨ar, cr, ap, cp, R, P, n, hT, rfl, hsz, hus⟩ := h
  obtain ⟨i, r, hi, rfl, rfl, rfl, hk, hrk⟩ := ents_row hj
  have hE1 : Below w.heap.size w (w.alloc (.cells #[.int .i64 r.k.1, .int .i64 r.k.2.1, .string r.k.2.2] 30)) := (Below.refl _ _).alloc (Nat.le_refl _) _
  have hE := hE1.alloc (by simp) (.cells #[.int .i64 v.1, .int .i64 v.2.1, .string v.2.2] 30)
  have HF := Lib.hid (find_yes hi hk _ (tab_below hT hE))
  have hq := heap_alloc_new (w.alloc (.cells #[.int .i64 r.k.1, .int .i64 r.k.2.1, .string r.k.2.2] 30)) (.cells #[.int .i64 v.1, .int .i64 v.2.1, .string v.2.2] 30)
  have hs : (w.alloc (.cells #[.int .i64 r.k.1, .int .i64 r.k.2.1, .string r.k.2.2] 30)).heap.size = w.heap.size + 1 := by simp
  rw [hs] at hq
  have hil := (List.getElem?_eq_some_iff.1 hi).1
  obtain ⟨gr, rfl, _, hgr⟩ := row_some hT.r (by omega)
  have hrb := (plen hT.g).2
  have hres : ∀ W, TabM B b (some ⟨gr, 0, none⟩) cr ap cp W (R.set i ⟨r.k, v, r.c, r.s⟩) P n last → IsTab B b W ((ents R).set j (r.k, v, r.c)) last sz us := by
    intro W hM
    have hg := good_val hT.g hi (q := ⟨r.k, v, r.c, r.s⟩) rfl rfl (hT.g.skip i r hi)
    refine ⟨_, cr, ap, cp, _, P, n, ⟨hM.blk, hM.low, hM.r, hM.p, hg, ?_, ?_, hT.bd⟩, ?_, hsz, by rw [List.length_set]; exact hus⟩
    · rw [ents_set (q := ⟨r.k, v, r.c, r.s⟩) hi hk rfl rfl, List.length_set]; exact hT.cnt
    · exact set_ok hT.ok (hT.ok i r hi)
    · rw [ents_set (q := ⟨r.k, v, r.c, r.s⟩) hi hk rfl rfl, hrk]
  have HRES := Lib.hid hres
  have HE := Lib.hid hE
  have HQ := Lib.hid hq
  have HT := Lib.hid hT
  have HI := Lib.hid hi
  have hi0 : (0 : Int) ≤ (i : Int) := by omega
  have hi1 : (i : Int) < (R.length : Int) := by omega
  clear hT hE hE1 hq hj hs hk hi hil hres hrk
  generalize hrkk : r.k = k at *
  have HRK := Lib.hid hrkk
  clear hrkk
  go_enter Try.func52, Try.ntmps52
  go_wp2_with fail
  refine HF.out.mono ?_
  rintro e w1 ⟨rfl, hb1⟩
  have hz := HE.out.trans (hb1.mono HE.out.size)
  have hq1 := keep HQ.out hb1
  have hT1 := tab_below HT.out hz
  obtain ⟨d0, d1, d2, d3, _, _, _, _⟩ := four_cells hT1.blk
  obtain ⟨a0, a1, a2, b0, b1, b2⟩ := three_facts hq1
  obtain ⟨r0, r1, r2, r3, r4, r5, r6, r7⟩ := ownR_at hT1.r HI.out
  have fz : ∀ j, w1.frozen? ⟨gr, j, none⟩ = false := World.ownsRow.frozenAt hT1.r
  have HW := Lib.hid (tabM_val ⟨tabM_drew hT1.m, st_drew (st_below hz hB)⟩ HI.out v)
  have hne1 : ¬ gr = w.heap.size + 1 := by omega
  have hne2 : ¬ gr = b := by
    rintro rfl
    obtain ⟨_, cur', hc⟩ := row_block hT1.r _ rfl
    have hbk := hT1.blk
    rw [hbk] at hc; simp only [Option.some.injEq, Obj.cells.injEq] at hc; exact absurd hc.2.1 (by decide)
  clear hb1 hz hq1 hT1
  go_wp2_with fail
  go_region
  all_goals go_wp2_with fail
  all_goals go_ret
  all_goals exact ⟨rfl, HRES.out _ (by rw [HRK.out] at HW; exact HW.out.1), HW.out.2⟩
end Go.Proofs.Ytipdjjgpcmbpdaa.Ta
