/- Contract of table.Next. -/
import Derived.Test.YtipdjjgpcmbpdaaTab10
import Derived.Deep.RegionHeld3
set_option linter.unusedVariables false
namespace Go.Proofs.Ytipdjjgpcmbpdaa.Ta
open Go.RowKit Go.ChangeShapes Go.WideShapes Go.ChangeAt Go.Proofs.Ytipdjjgpcmbpdaa.Va

theorem results_next {P : Program} {fn : Func} {p q s t : Tmp} {ty ty2 : TypeId} (h : fn.results = #[.tmp p, .cell q ty, .cell s ty2, .tmp t]) (tmps : Array Value) (w : World) (g1 g2 : Nat) (cs1 cs2 : Array Value) (t1 t2 : TypeId) (d1 d2 : TypeDesc)
    (hp1 : tmps.getD q undef = .pointer (some ⟨g1, 0, none⟩)) (hg1 : w.heap[g1]? = some (.cells cs1 t1 (0, 0))) (hu1 : P.underlying ty = some d1) (hd1 : (match d1 with | .struct _ | .array _ _ => true | _ => false) = true) (hi1 : (P.info? ty).map (·.size) = some cs1.size)
    (hp2 : tmps.getD s undef = .pointer (some ⟨g2, 0, none⟩)) (hg2 : w.heap[g2]? = some (.cells cs2 t2 (0, 0))) (hu2 : P.underlying ty2 = some d2) (hd2 : (match d2 with | .struct _ | .array _ _ => true | _ => false) = true) (hi2 : (P.info? ty2).map (·.size) = some cs2.size) :
    (results fn tmps).run P w = .ok (.tuple #[tmps.getD p undef, .agg cs1, .agg cs2, tmps.getD t undef]) w := by
  have hp1' : tmps[q]?.getD undef = .pointer (some ⟨g1, 0, none⟩) := by simpa using hp1
  have hp2' : tmps[s]?.getD undef = .pointer (some ⟨g2, 0, none⟩) := by simpa using hp2
  simp [results, h, hp1', hp2', asAddr, run_loadVar_row w g1 t1 ty cs1 (0, 0) d1 hg1 hu1 hd1 hi1, run_loadVar_row w g2 t2 ty2 cs2 (0, 0) d2 hg2 hu2 hd2 hi2]
theorem box_one {W : World} {A : Obj} {k : Nat} (h : W.heap.size = k) : (W.alloc A).heap[k]? = some A := by subst h; exact heap_alloc_new W A
theorem behind_ex {R : List Rw} {P : List Int} {last : Int} (h : Good R P last) (cur : Int) : ∃ s, Behind R cur s := by
  have : ∀ k, k ≤ R.length → (∀ (i : Nat) (r : Rw), R[i]? = some r → k ≤ i → cur < r.c) → ∃ s, Behind R cur s := by
    intro k
    induction k with
    | zero => intro _ h1; exact ⟨0, Nat.zero_le _, fun i r _ hi => by omega, h1⟩
    | succ k ih =>
      intro hk h1
      obtain ⟨q, hq⟩ := get_some (show k < R.length by omega)
      by_cases hc : cur < q.c
      · refine ih (by omega) fun i r hr hi => ?_
        by_cases e : i = k
        · subst e; rw [hq] at hr; cases hr; exact hc
        · exact h1 i r hr (by omega)
      · refine ⟨k + 1, hk, fun i r hr hi => ?_, h1⟩
        by_cases e : i = k
        · subst e; rw [hq] at hr; cases hr; omega
        · have := h.rise i k r q hr hq (by omega); omega
  exact this R.length (Nat.le_refl _) fun i r hr hi => by have := (List.getElem?_eq_some_iff.1 hr).1; omega
theorem behind_one {R : List Rw} {cur : Int} {s t : Nat} (h : Behind R cur s) (g : Behind R cur t) : s = t := by
  rcases Nat.lt_trichotomy s t with x | x | x
  · exfalso
    obtain ⟨r, hr⟩ := get_some (show s < R.length by have := g.1; omega)
    have h1 := h.2.2 s r hr (Nat.le_refl _)
    have h2 := g.2.1 s r hr x
    omega
  · exact x
  · exfalso
    obtain ⟨r, hr⟩ := get_some (show t < R.length by have := h.1; omega)
    have h1 := g.2.2 t r hr (Nat.le_refl _)
    have h2 := h.2.1 t r hr x
    omega
theorem search_at {B b cr cp n p2 p3 s : Nat} {ar ap : Option Addr} {R : List Rw} {P : List Int} {last cur : Int} (hs : Behind R cur s) (w : World) (h : Tab B b ar cr ap cp w R P n last) (h2 : w.cell? ⟨p2, 0, none⟩ = some (.pointer (some ⟨b, 0, none⟩))) (h3 : w.cell? ⟨p3, 0, none⟩ = some (.int .i64 cur)) (hp2 : p2 < w.heap.size) (hp3 : p3 < w.heap.size) :
    Calls Try.prog 58 #[.int .i64 (R.length : Int), .func (.func 59) #[] #[.pointer (some ⟨p2, 0, none⟩), .pointer (some ⟨p3, 0, none⟩)]] w fun x w' => x = .returned (.int .i64 (s : Int)) ∧ Below w.heap.size w w' := by
  refine (search_any w h h2 h3 hp2 hp3).mono ?_
  rintro e w' ⟨s', rfl, h1, h2⟩
  rw [behind_one hs h1]
  exact ⟨rfl, h2⟩
/-- What Next leaves. -/
def Nexted (B b : Nat) (ar : Option Addr) (cr : Nat) (ap : Option Addr) (cp : Nat) (w : World) (R : List Rw) (P : List Int) (n : Nat) (last : Int) (v : Value) (x : Ending) (w' : World) : Prop :=
  x = .returned v ∧ ∃ S, Tab B b ar cr ap cp w' S P n last ∧ Alike R S ∧ ents S = ents R ∧ St B w w'
/-- What holds of the world while Next lays its results, nothing found. -/
def Mid (B b : Nat) (ar : Option Addr) (cr : Nat) (ap : Option Addr) (cp : Nat) (w : World) (S : List Rw) (P : List Int) (n : Nat) (last cur : Int) (w' : World) : Prop :=
  St B w w' ∧ Tab B b ar cr ap cp w' S P n last ∧ w'.heap[w.heap.size + 1]? = some (.cells #[.int .i64 cur] 2) ∧ w'.heap[w.heap.size + 1 + 1]? = some (.cells #[.int .i64 0, .int .i64 0, .string ⟨#[]⟩] 30) ∧ w'.heap[w.heap.size + 1 + 1 + 1]? = some (.cells #[.int .i64 0, .int .i64 0, .string ⟨#[]⟩] 30) ∧ B ≤ w.heap.size
abbrev Cm (B b : Nat) (ar : Option Addr) (cr : Nat) (ap : Option Addr) (cp : Nat) (w : World) (S : List Rw) (P : List Int) (n : Nat) (last cur : Int) (w' : World) : Prop :=
  Mid B b ar cr ap cp w S P n last cur w' ∧ w'.cell? ⟨w.heap.size + 1, 0, none⟩ = some (.int .i64 cur) ∧ w'.cell? ⟨w.heap.size + 1 + 1, 0, none⟩ = some (.int .i64 0) ∧ w'.cell? ⟨w.heap.size + 1 + 1, 1, none⟩ = some (.int .i64 0) ∧ w'.cell? ⟨w.heap.size + 1 + 1, 2, none⟩ = some (.string ⟨#[]⟩) ∧ w'.frozen? ⟨w.heap.size + 1 + 1, 0, none⟩ = false ∧ w'.frozen? ⟨w.heap.size + 1 + 1, 1, none⟩ = false ∧ w'.frozen? ⟨w.heap.size + 1 + 1, 2, none⟩ = false ∧ w'.cell? ⟨w.heap.size + 1 + 1 + 1, 0, none⟩ = some (.int .i64 0) ∧ w'.cell? ⟨w.heap.size + 1 + 1 + 1, 1, none⟩ = some (.int .i64 0) ∧ w'.cell? ⟨w.heap.size + 1 + 1 + 1, 2, none⟩ = some (.string ⟨#[]⟩) ∧ w'.frozen? ⟨w.heap.size + 1 + 1 + 1, 0, none⟩ = false ∧ w'.frozen? ⟨w.heap.size + 1 + 1 + 1, 1, none⟩ = false ∧ w'.frozen? ⟨w.heap.size + 1 + 1 + 1, 2, none⟩ = false
theorem mid_all {B b cr cp n : Nat} {ar ap : Option Addr} {w w' : World} {S : List Rw} {P : List Int} {last cur : Int} (h : Mid B b ar cr ap cp w S P n last cur w') : Cm B b ar cr ap cp w S P n last cur w' := by
  obtain ⟨x0, x1, x2, y0, y1, y2⟩ := three_facts h.2.2.2.1
  obtain ⟨u0, u1, u2, z0, z1, z2⟩ := three_facts h.2.2.2.2.1
  exact ⟨h, cell_of_one h.2.2.1, x0, x1, x2, y0, y1, y2, u0, u1, u2, z0, z1, z2⟩
theorem mid_call {B b cr cp n : Nat} {ar ap : Option Addr} {w w' w2 : World} {S : List Rw} {P : List Int} {last cur : Int} (h : Cm B b ar cr ap cp w S P n last cur w') (hb : Below w'.heap.size w' w2) : Cm B b ar cr ap cp w S P n last cur w2 := by
  obtain ⟨h1, h2, h3, h4, h5, h6⟩ := h.1
  have hB : B ≤ w'.heap.size := Nat.le_trans h6 h1.f.size
  exact mid_all ⟨st_trans h1 (st_below hb hB), tab_below h2 hb, keep h3 hb, keep h4 hb, keep h5 hb, h6⟩
theorem set_same {w : World} {g i : Nat} {cs : Array Value} {t : TypeId} {v : Value} (h : w.heap[g]? = some (.cells cs t (0, 0))) (hv : cs[i]? = some v) : w.setCell ⟨g, i, none⟩ v = w := by
  have hcs : cs.setIfInBounds i v = cs := by
    apply Array.ext_getElem?
    intro k
    rw [Array.getElem?_setIfInBounds]
    by_cases e : i = k
    · subst e
      rw [if_pos rfl, if_pos (Array.getElem?_eq_some_iff.1 hv).1, hv]
    · rw [if_neg e]
  have hm : (w.setCell ⟨g, i, none⟩ v).heap = w.heap := by
    apply Array.ext_getElem?
    intro k
    simp only [World.setCell, Array.getElem?_modify]
    by_cases e : g = k
    · subst e
      rw [if_pos rfl, h]
      show some (Obj.cells (cs.setIfInBounds i v) t (0, 0)) = _
      rw [hcs]
    · rw [if_neg e]
  calc w.setCell ⟨g, i, none⟩ v = { w with heap := (w.setCell ⟨g, i, none⟩ v).heap } := rfl
    _ = w := by rw [hm]
theorem mid_store2 {B b cr cp n : Nat} {ar ap : Option Addr} {w w' : World} {S : List Rw} {P : List Int} {last cur : Int} (h : Cm B b ar cr ap cp w S P n last cur w') : Cm B b ar cr ap cp w S P n last cur (((w'.setCell ⟨w.heap.size + 1 + 1, 0, none⟩ (.int .i64 0)).setCell ⟨w.heap.size + 1 + 1, 1, none⟩ (.int .i64 0)).setCell ⟨w.heap.size + 1 + 1, 2, none⟩ (.string ⟨#[]⟩)) := by
  have hz := h.1.2.2.2.1
  rw [set_same hz rfl, set_same hz rfl, set_same hz rfl]
  exact h
theorem mid_store3 {B b cr cp n : Nat} {ar ap : Option Addr} {w w' : World} {S : List Rw} {P : List Int} {last cur : Int} (h : Cm B b ar cr ap cp w S P n last cur w') : Cm B b ar cr ap cp w S P n last cur (((w'.setCell ⟨w.heap.size + 1 + 1 + 1, 0, none⟩ (.int .i64 0)).setCell ⟨w.heap.size + 1 + 1 + 1, 1, none⟩ (.int .i64 0)).setCell ⟨w.heap.size + 1 + 1 + 1, 2, none⟩ (.string ⟨#[]⟩)) := by
  have hz := h.1.2.2.2.2.1
  rw [set_same hz rfl, set_same hz rfl, set_same hz rfl]
  exact h
set_option maxRecDepth 100000 in
set_option maxHeartbeats 4000000 in
theorem next_no {B b cr cp n s t : Nat} {ar ap : Option Addr} {R : List Rw} {P : List Int} {last cur : Int} (hs : Behind R cur s) (ht : Here R s t) (hl : t = R.length) (w : World) (hB : B ≤ w.heap.size) (h : Tab B b ar cr ap cp w R P n last) :
    Calls Try.prog 17 #[.pointer (some ⟨b, 0, none⟩), .int .i64 cur] w (Nexted B b ar cr ap cp w R P n last (.tuple #[.int .i64 cur, .agg #[.int .i64 0, .int .i64 0, .string ⟨#[]⟩], .agg #[.int .i64 0, .int .i64 0, .string ⟨#[]⟩], .bool false])) := by
  obtain ⟨W1, hW1⟩ : ∃ W1, W1 = w.alloc (.cells #[.pointer (some ⟨b, 0, none⟩)] 25) := ⟨_, rfl⟩
  obtain ⟨W2, hW2⟩ : ∃ W2, W2 = W1.alloc (.cells #[.int .i64 cur] 2) := ⟨_, rfl⟩
  obtain ⟨W3, hW3⟩ : ∃ W3, W3 = W2.alloc (.cells #[.int .i64 0, .int .i64 0, .string ⟨#[]⟩] 30) := ⟨_, rfl⟩
  obtain ⟨W4, hW4⟩ : ∃ W4, W4 = W3.alloc (.cells #[.int .i64 0, .int .i64 0, .string ⟨#[]⟩] 30) := ⟨_, rfl⟩
  have z1 : W1.heap.size = w.heap.size + 1 := by rw [hW1]; simp
  have z2 : W2.heap.size = w.heap.size + 1 + 1 := by rw [hW2, ← z1]; simp
  have z3 : W3.heap.size = w.heap.size + 1 + 1 + 1 := by rw [hW3, ← z2]; simp
  have z4 : W4.heap.size = w.heap.size + 1 + 1 + 1 + 1 := by rw [hW4, ← z3]; simp
  have b1 : Below w.heap.size w W1 := by rw [hW1]; exact (Below.refl _ _).alloc (Nat.le_refl _) _
  have b2 : Below w.heap.size w W2 := by rw [hW2]; exact b1.alloc b1.size _
  have b3 : Below w.heap.size w W3 := by rw [hW3]; exact b2.alloc b2.size _
  have b4 : Below w.heap.size w W4 := by rw [hW4]; exact b3.alloc b3.size _
  have k1 : W1.heap[w.heap.size]? = some (.cells #[.pointer (some ⟨b, 0, none⟩)] 25) := by rw [hW1]; exact box_one rfl
  have k2 : W2.heap[w.heap.size + 1]? = some (.cells #[.int .i64 cur] 2) := by rw [hW2]; exact box_one z1
  have k3 : W3.heap[w.heap.size + 1 + 1]? = some (.cells #[.int .i64 0, .int .i64 0, .string ⟨#[]⟩] 30) := by rw [hW3]; exact box_one z2
  have k4 : W4.heap[w.heap.size + 1 + 1 + 1]? = some (.cells #[.int .i64 0, .int .i64 0, .string ⟨#[]⟩] 30) := by rw [hW4]; exact box_one z3
  have q34 : Below W3.heap.size W3 W4 := by rw [hW4]; exact (Below.refl _ _).alloc (Nat.le_refl _) _
  have q23 : Below W2.heap.size W2 W3 := by rw [hW3]; exact (Below.refl _ _).alloc (Nat.le_refl _) _
  have q12 : Below W1.heap.size W1 W2 := by rw [hW2]; exact (Below.refl _ _).alloc (Nat.le_refl _) _
  have m1 := keep (keep (keep k1 q12) q23) q34
  have m2 := keep (keep k2 q23) q34
  have m3 := keep k3 q34
  have HT4 := Lib.hid (tab_below h b4)
  have hT4 := HT4.out.blk
  obtain ⟨c0, c1, c2, c3, y0, y1, y2, y3⟩ := four_cells hT4
  have o1 := cell_of_one m1
  have o2 := cell_of_one m2
  have hS := search_at hs W4.drew (tab_below HT4.out (Below.refl _ _).drew) (p2 := w.heap.size) (p3 := w.heap.size + 1) o1 o2 (by show _ < W4.heap.size; omega) (by show _ < W4.heap.size; omega)
  have HS := Lib.hid hS
  have hHE : Hid (∀ w5, Below W4.drew.heap.size W4.drew w5 → Calls Try.prog 57 #[.pointer (some ⟨b, 0, none⟩), .int .i64 (s : Int)] w5 (Hered B b ar cr ap cp w5 R P n last t)) := fun w5 hb => here_any ht w5 (by have h1 := hb.size; have h2 : W4.drew.heap.size = W4.heap.size := rfl; omega) (tab_below HT4.out ((Below.refl _ _).drew.trans hb))
  have HO : Hid (∀ w5, Below W4.drew.heap.size W4.drew w5 → w5.cell? ⟨w.heap.size, 0, none⟩ = some (.pointer (some ⟨b, 0, none⟩)) ∧ w5.cell? ⟨b, 0, none⟩ = some (.slice ar R.length cr)) := fun w5 hb => ⟨cell_below hb (by show _ < W4.heap.size; omega) o1, (four_cells (tab_below HT4.out ((Below.refl _ _).drew.trans hb)).blk).1⟩
  have HO1 := Lib.hid (HO.out _ (Below.refl _ _))
  have m4 := k4
  have notV : ∀ (x y z : Value), NotT (.cells #[x, y, z] 30) := fun x y z cur t fr e => by cases e; decide
  have notI : ∀ (x : Value), NotT (.cells #[x] 2) := fun x cur t fr e => by cases e; decide
  have notP : ∀ (x : Value), NotT (.cells #[x] 25) := fun x cur t fr e => by cases e; decide
  have HAFT : Hid (∀ w5 w6, Below W4.drew.heap.size W4.drew w5 → St B w5 w6 → St B w w6 ∧ w6.heap[w.heap.size]? = some (.cells #[.pointer (some ⟨b, 0, none⟩)] 25) ∧ w6.heap[w.heap.size + 1]? = some (.cells #[.int .i64 cur] 2) ∧ w6.heap[w.heap.size + 1 + 1]? = some (.cells #[.int .i64 0, .int .i64 0, .string ⟨#[]⟩] 30) ∧ w6.heap[w.heap.size + 1 + 1 + 1]? = some (.cells #[.int .i64 0, .int .i64 0, .string ⟨#[]⟩] 30) ∧ w.heap.size + 1 + 1 + 1 + 1 ≤ w6.heap.size) := fun w5 w6 hb5 hst => by
    have hb : Below W4.heap.size W4 w5 := (Below.refl _ _).drew.trans hb5
    refine ⟨st_trans (st_below (b4.trans (hb.mono b4.size)) hB) hst, hst.f.block _ _ (keep m1 hb) (notP _), hst.f.block _ _ (keep m2 hb) (notI _), hst.f.block _ _ (keep m3 hb) (notV _ _ _), hst.f.block _ _ (keep m4 hb) (notV _ _ _), ?_⟩
    have h1 := hb.size
    have h2 := hst.f.size
    omega
  clear hS hT4 m1 m2 m3 m4 k1 k2 k3 k4 q34 q23 q12 b1 b2 b3 b4 h notV notI notP hs ht
  subst hW4
  subst hW3
  subst hW2
  subst hW1
  have hl' : ((t : Int) == (R.length : Int)) = true := by rw [beq_iff_eq]; omega
  clear hl
  go_enter Try.func17, Try.ntmps17
  go_wp2_with fail
  go_region_held3 (fun w' => w'.cell? ⟨w.heap.size, 0, none⟩ = some (.pointer (some ⟨b, 0, none⟩)) ∧ w'.cell? ⟨b, 0, none⟩ = some (.slice ar R.length cr)) (with_reducible (first | exact HO1.out | exact o9 | exact ⟨o1, c0⟩ | exact HO1.out.1 | exact HO1.out.2 | exact o9.1 | exact o9.2 | exact o1 | exact c0)) (first | (go_at_call 58; (with_reducible refine HS.out.mono ?_); rintro e5 w5 ⟨rfl, hb5⟩; have o9 := HO.out _ hb5) | (go_at_call 57; (with_reducible refine (hHE.out _ hb5).mono ?_); intro e6 w6 hh6; obtain ⟨he6, S6, hT6, hA6, hE6, hS6⟩ := hh6; subst he6; obtain ⟨hst, n1, n2, n3, n4, hsz⟩ := HAFT.out _ _ hb5 hS6; clear HO1 c0 c1 c2 c3 y0 y1 y2 y3 o1 o2 o9; obtain ⟨c0, c1, c2, c3, _, _, _, _⟩ := four_cells hT6.blk; rw [hA6.1] at c0; have o1 := cell_of_one n1; have o2 := cell_of_one n2; obtain ⟨a0, a1, a2, az0, az1, az2⟩ := three_facts n3; obtain ⟨d0, d1, d2, dz0, dz1, dz2⟩ := three_facts n4; have HT6 := Lib.hid hT6; have HST := Lib.hid hst; have HN := Lib.hid (And.intro n3 n4); have HI6 := Lib.hid n2; have HA6 := Lib.hid hA6; have HE6 := Lib.hid hE6; clear hst n1 n2 n3 n4 hT6 hA6 hE6 hS6))
  have hm9 : Mid B b ar cr ap cp w S6 P n last cur w6.drew := ⟨st_trans HST.out (st_below (Below.refl _ _).drew (by have := HST.out.f.size; omega)), tab_below HT6.out (Below.refl _ _).drew, by rw [drew_heap]; exact HI6.out, by rw [drew_heap]; exact HN.out.1, by rw [drew_heap]; exact HN.out.2, hB⟩
  have HC := Lib.hid (mid_all hm9)
  clear hm9
  go_wp2_with fail
  clear HAFT HO hHE HS HT4 z1 z2 z3 z4 c0 c1 c2 c3 o1 o2 a0 a1 a2 az0 az1 az2 d0 d1 d2 dz0 dz1 dz2 hb5 hsz
  go_region_held3 (fun w' => Mid B b ar cr ap cp w S6 P n last cur w' ∧ w'.cell? ⟨w.heap.size + 1, 0, none⟩ = some (.int .i64 cur) ∧ w'.cell? ⟨w.heap.size + 1 + 1, 0, none⟩ = some (.int .i64 0) ∧ w'.cell? ⟨w.heap.size + 1 + 1, 1, none⟩ = some (.int .i64 0) ∧ w'.cell? ⟨w.heap.size + 1 + 1, 2, none⟩ = some (.string ⟨#[]⟩) ∧ w'.frozen? ⟨w.heap.size + 1 + 1, 0, none⟩ = false ∧ w'.frozen? ⟨w.heap.size + 1 + 1, 1, none⟩ = false ∧ w'.frozen? ⟨w.heap.size + 1 + 1, 2, none⟩ = false ∧ w'.cell? ⟨w.heap.size + 1 + 1 + 1, 0, none⟩ = some (.int .i64 0) ∧ w'.cell? ⟨w.heap.size + 1 + 1 + 1, 1, none⟩ = some (.int .i64 0) ∧ w'.cell? ⟨w.heap.size + 1 + 1 + 1, 2, none⟩ = some (.string ⟨#[]⟩) ∧ w'.frozen? ⟨w.heap.size + 1 + 1 + 1, 0, none⟩ = false ∧ w'.frozen? ⟨w.heap.size + 1 + 1 + 1, 1, none⟩ = false ∧ w'.frozen? ⟨w.heap.size + 1 + 1 + 1, 2, none⟩ = false) (with_reducible (first | assumption | exact HC.out | exact mid_call (by assumption) hb7 | exact mid_store2 (by assumption) | exact mid_store3 (by assumption))) (first | (go_at_call 23; (with_reducible refine (null_any _).mono ?_); rintro e7 w7 ⟨rfl, hb7⟩; have hm7 := (mid_call (by assumption) hb7).1; have s0 : w7.setCell ⟨w.heap.size + 1 + 1, 0, none⟩ (.int .i64 0) = w7 := set_same hm7.2.2.2.1 rfl; have s1 : w7.setCell ⟨w.heap.size + 1 + 1, 1, none⟩ (.int .i64 0) = w7 := set_same hm7.2.2.2.1 rfl; have s2 : w7.setCell ⟨w.heap.size + 1 + 1, 2, none⟩ (.string ⟨#[]⟩) = w7 := set_same hm7.2.2.2.1 rfl; have s3 : w7.setCell ⟨w.heap.size + 1 + 1 + 1, 0, none⟩ (.int .i64 0) = w7 := set_same hm7.2.2.2.2.1 rfl; have s4 : w7.setCell ⟨w.heap.size + 1 + 1 + 1, 1, none⟩ (.int .i64 0) = w7 := set_same hm7.2.2.2.2.1 rfl; have s5 : w7.setCell ⟨w.heap.size + 1 + 1 + 1, 2, none⟩ (.string ⟨#[]⟩) = w7 := set_same hm7.2.2.2.2.1 rfl; clear hm7))
  have hM := (show Cm B b ar cr ap cp w S6 P n last cur w7 from by assumption).1
  have HEND : Hid (Nexted B b ar cr ap cp w R P n last (.tuple #[.int .i64 cur, .agg #[.int .i64 0, .int .i64 0, .string ⟨#[]⟩], .agg #[.int .i64 0, .int .i64 0, .string ⟨#[]⟩], .bool false]) (.returned (.tuple #[.int .i64 cur, .agg #[.int .i64 0, .int .i64 0, .string ⟨#[]⟩], .agg #[.int .i64 0, .int .i64 0, .string ⟨#[]⟩], .bool false])) w7) := ⟨rfl, S6, hM.2.1, HA6.out, HE6.out, hM.1⟩
  have HM := Lib.hid hM
  clear hM s0 s1 s2 s3 s4 s5
  go_wp2_with fail
  all_goals (try simp only [Exit.inBlock, Exit.then])
  refine bodyPost_ret (results_next rfl _ _ (w.heap.size + 1 + 1) (w.heap.size + 1 + 1 + 1) #[.int .i64 0, .int .i64 0, .string ⟨#[]⟩] #[.int .i64 0, .int .i64 0, .string ⟨#[]⟩] 30 30 _ _ rfl HM.out.2.2.2.1 Try.underlying30 rfl A.infoV rfl HM.out.2.2.2.2.1 Try.underlying30 rfl A.infoV) ?_ ?_
  · rfl
  · exact HEND.out
end Go.Proofs.Ytipdjjgpcmbpdaa.Ta
