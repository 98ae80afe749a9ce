import Derived.Test.YtipdjjgpcmbpdaaTab11
set_option linter.unusedVariables false
namespace Go.Proofs.Ytipdjjgpcmbpdaa.Ta
open Go.RowKit Go.ChangeShapes Go.WideShapes Go.ChangeAt Go.Proofs.Ytipdjjgpcmbpdaa.Va
/-- Three stores into a box of a value. -/
theorem three_set {W : World} {g : Nat} {x0 x1 x2 : Value} {T : TypeId} (h : W.heap[g]? = some (.cells #[x0, x1, x2] T (0, 0))) (y0 y1 y2 : Value) :
    (((W.setCell ⟨g, 0, none⟩ y0).setCell ⟨g, 1, none⟩ y1).setCell ⟨g, 2, none⟩ y2).heap[g]? = some (.cells #[y0, y1, y2] T (0, 0)) ∧ ∀ k, k ≠ g → (((W.setCell ⟨g, 0, none⟩ y0).setCell ⟨g, 1, none⟩ y1).setCell ⟨g, 2, none⟩ y2).heap[k]? = W.heap[k]? :=
  ⟨heap_three h _ _ _, fun k hk => by rw [set_heap hk, set_heap hk, set_heap hk]⟩
theorem tab_three {B b cr cp n g : Nat} {ar ap : Option Addr} {W : World} {R : List Rw} {P : List Int} {last : Int} (h : Tab B b ar cr ap cp W R P n last) {x0 x1 x2 : Value} (hg : W.heap[g]? = some (.cells #[x0, x1, x2] 30 (0, 0))) (y0 y1 y2 : Value) :
    Tab B b ar cr ap cp (((W.setCell ⟨g, 0, none⟩ y0).setCell ⟨g, 1, none⟩ y1).setCell ⟨g, 2, none⟩ y2) R P n last := by
  have h1 : W.setCell ⟨g, 0, none⟩ y0 = W.setCell ⟨g, 0, none⟩ y0 := rfl
  have g1 : (W.setCell ⟨g, 0, none⟩ y0).heap[g]? = some (.cells #[y0, x1, x2] 30 (0, 0)) := by simp [World.setCell, Array.getElem?_modify, hg]
  have g2 : ((W.setCell ⟨g, 0, none⟩ y0).setCell ⟨g, 1, none⟩ y1).heap[g]? = some (.cells #[y0, y1, x2] 30 (0, 0)) := by rw [World.setCell]; simp [Array.getElem?_modify, g1]
  have m := tabM_other (o := 2) (v := y2) (tabM_other (o := 1) (v := y1) (tabM_other (o := 0) (v := y0) h.m hg (by decide) (by decide) (by decide)) g1 (by decide) (by decide) (by decide)) g2 (by decide) (by decide) (by decide)
  exact ⟨m.blk, m.low, m.r, m.p, h.g, h.cnt, h.ok, h.bd⟩
theorem st_three {B : Nat} {w0 W : World} (h : St B w0 W) {g : Nat} (hg : w0.heap.size ≤ g) (hB : B ≤ w0.heap.size) (y0 y1 y2 : Value) : St B w0 (((W.setCell ⟨g, 0, none⟩ y0).setCell ⟨g, 1, none⟩ y1).setCell ⟨g, 2, none⟩ y2) :=
  st_new (st_new (st_new h hg hB _) hg hB _) hg hB _
set_option maxRecDepth 100000 in
set_option maxHeartbeats 4000000 in
theorem next_yes {B b cr cp n s t : Nat} {ar ap : Option Addr} {R : List Rw} {P : List Int} {last cur : Int} (hs : Behind R cur s) (ht : Here R s t) {r : Rw} (hr : R[t]? = some r) (w : World) (hB : B ≤ w.heap.size) (h : Tab B b ar cr ap cp w R P n last) :
    Calls Try.prog 17 #[.pointer (some ⟨b, 0, none⟩), .int .i64 cur] w (Nexted B b ar cr ap cp w R P n last (.tuple #[.int .i64 r.c, .agg #[.int .i64 r.k.1, .int .i64 r.k.2.1, .string r.k.2.2], .agg #[.int .i64 r.v.1, .int .i64 r.v.2.1, .string r.v.2.2], .bool true])) := by
  obtain ⟨ga, rfl, _, _⟩ := row_some h.r (show 0 < R.length by have := (List.getElem?_eq_some_iff.1 hr).1; omega)
  obtain ⟨W1, hW1⟩ : ∃ W1, W1 = w.alloc (.cells #[.pointer (some ⟨b, 0, none⟩)] 25) := ⟨_, rfl⟩
  obtain ⟨W2, hW2⟩ : ∃ W2, W2 = W1.alloc (.cells #[.int .i64 cur] 2) := ⟨_, rfl⟩
  obtain ⟨W3, hW3⟩ : ∃ W3, W3 = W2.alloc (.cells #[.int .i64 0, .int .i64 0, .string ⟨#[]⟩] 30) := ⟨_, rfl⟩
  obtain ⟨W4, hW4⟩ : ∃ W4, W4 = W3.alloc (.cells #[.int .i64 0, .int .i64 0, .string ⟨#[]⟩] 30) := ⟨_, rfl⟩
  have z1 : W1.heap.size = w.heap.size + 1 := by rw [hW1]; simp
  have z2 : W2.heap.size = w.heap.size + 1 + 1 := by rw [hW2, ← z1]; simp
  have z3 : W3.heap.size = w.heap.size + 1 + 1 + 1 := by rw [hW3, ← z2]; simp
  have z4 : W4.heap.size = w.heap.size + 1 + 1 + 1 + 1 := by rw [hW4, ← z3]; simp
  have b1 : Below w.heap.size w W1 := by rw [hW1]; exact (Below.refl _ _).alloc (Nat.le_refl _) _
  have b2 : Below w.heap.size w W2 := by rw [hW2]; exact b1.alloc b1.size _
  have b3 : Below w.heap.size w W3 := by rw [hW3]; exact b2.alloc b2.size _
  have b4 : Below w.heap.size w W4 := by rw [hW4]; exact b3.alloc b3.size _
  have k1 : W1.heap[w.heap.size]? = some (.cells #[.pointer (some ⟨b, 0, none⟩)] 25) := by rw [hW1]; exact box_one rfl
  have k2 : W2.heap[w.heap.size + 1]? = some (.cells #[.int .i64 cur] 2) := by rw [hW2]; exact box_one z1
  have k3 : W3.heap[w.heap.size + 1 + 1]? = some (.cells #[.int .i64 0, .int .i64 0, .string ⟨#[]⟩] 30) := by rw [hW3]; exact box_one z2
  have k4 : W4.heap[w.heap.size + 1 + 1 + 1]? = some (.cells #[.int .i64 0, .int .i64 0, .string ⟨#[]⟩] 30) := by rw [hW4]; exact box_one z3
  have q34 : Below W3.heap.size W3 W4 := by rw [hW4]; exact (Below.refl _ _).alloc (Nat.le_refl _) _
  have q23 : Below W2.heap.size W2 W3 := by rw [hW3]; exact (Below.refl _ _).alloc (Nat.le_refl _) _
  have q12 : Below W1.heap.size W1 W2 := by rw [hW2]; exact (Below.refl _ _).alloc (Nat.le_refl _) _
  have m1 := keep (keep (keep k1 q12) q23) q34
  have m2 := keep (keep k2 q23) q34
  have m3 := keep k3 q34
  have HT4 := Lib.hid (tab_below h b4)
  have hT4 := HT4.out.blk
  obtain ⟨c0, c1, c2, c3, y0, y1, y2, y3⟩ := four_cells hT4
  have o1 := cell_of_one m1
  have o2 := cell_of_one m2
  have hS := search_at hs W4.drew (tab_below HT4.out (Below.refl _ _).drew) (p2 := w.heap.size) (p3 := w.heap.size + 1) o1 o2 (by show _ < W4.heap.size; omega) (by show _ < W4.heap.size; omega)
  have HS := Lib.hid hS
  have hHE : Hid (∀ w5, Below W4.drew.heap.size W4.drew w5 → Calls Try.prog 57 #[.pointer (some ⟨b, 0, none⟩), .int .i64 (s : Int)] w5 (Hered B b (some ⟨ga, 0, none⟩) cr ap cp w5 R P n last t)) := fun w5 hb => here_any ht w5 (by have h1 := hb.size; have h2 : W4.drew.heap.size = W4.heap.size := rfl; omega) (tab_below HT4.out ((Below.refl _ _).drew.trans hb))
  have HO : Hid (∀ w5, Below W4.drew.heap.size W4.drew w5 → w5.cell? ⟨w.heap.size, 0, none⟩ = some (.pointer (some ⟨b, 0, none⟩)) ∧ w5.cell? ⟨b, 0, none⟩ = some (.slice (some ⟨ga, 0, none⟩) R.length cr)) := fun w5 hb => ⟨cell_below hb (by show _ < W4.heap.size; omega) o1, (four_cells (tab_below HT4.out ((Below.refl _ _).drew.trans hb)).blk).1⟩
  have HO1 := Lib.hid (HO.out _ (Below.refl _ _))
  have m4 := k4
  have notV : ∀ (x y z : Value), NotT (.cells #[x, y, z] 30) := fun x y z cur t fr e => by cases e; decide
  have notI : ∀ (x : Value), NotT (.cells #[x] 2) := fun x cur t fr e => by cases e; decide
  have notP : ∀ (x : Value), NotT (.cells #[x] 25) := fun x cur t fr e => by cases e; decide
  have HAFT : Hid (∀ w5 w6, Below W4.drew.heap.size W4.drew w5 → St B w5 w6 → St B w w6 ∧ w6.heap[w.heap.size]? = some (.cells #[.pointer (some ⟨b, 0, none⟩)] 25) ∧ w6.heap[w.heap.size + 1]? = some (.cells #[.int .i64 cur] 2) ∧ w6.heap[w.heap.size + 1 + 1]? = some (.cells #[.int .i64 0, .int .i64 0, .string ⟨#[]⟩] 30) ∧ w6.heap[w.heap.size + 1 + 1 + 1]? = some (.cells #[.int .i64 0, .int .i64 0, .string ⟨#[]⟩] 30) ∧ w.heap.size + 1 + 1 + 1 + 1 ≤ w6.heap.size) := fun w5 w6 hb5 hst => by
    have hb : Below W4.heap.size W4 w5 := (Below.refl _ _).drew.trans hb5
    refine ⟨st_trans (st_below (b4.trans (hb.mono b4.size)) hB) hst, hst.f.block _ _ (keep m1 hb) (notP _), hst.f.block _ _ (keep m2 hb) (notI _), hst.f.block _ _ (keep m3 hb) (notV _ _ _), hst.f.block _ _ (keep m4 hb) (notV _ _ _), ?_⟩
    have h1 := hb.size
    have h2 := hst.f.size
    omega
  clear hS hT4 m1 m2 m3 m4 k1 k2 k3 k4 q34 q23 q12 b1 b2 b3 b4 h notV notI notP hs ht
  subst hW4
  subst hW3
  subst hW2
  subst hW1
  have hl := (List.getElem?_eq_some_iff.1 hr).1
  have hl' : ((t : Int) == (R.length : Int)) = false := by rw [beq_eq_false_iff_ne]; omega
  have ht0 : (0 : Int) ≤ (t : Int) := by omega
  have ht1 : (t : Int) < (R.length : Int) := by omega
  go_enter Try.func17, Try.ntmps17
  go_wp2_with fail
  go_region_held3 (fun w' => w'.cell? ⟨w.heap.size, 0, none⟩ = some (.pointer (some ⟨b, 0, none⟩)) ∧ w'.cell? ⟨b, 0, none⟩ = some (.slice (some ⟨ga, 0, none⟩) R.length cr)) (with_reducible (first | exact HO1.out | exact o9 | exact ⟨o1, c0⟩ | exact HO1.out.1 | exact HO1.out.2 | exact o9.1 | exact o9.2 | exact o1 | exact c0)) (first | (go_at_call 58; (with_reducible refine HS.out.mono ?_); rintro e5 w5 ⟨rfl, hb5⟩; have o9 := HO.out _ hb5) | (go_at_call 57; (with_reducible refine (hHE.out _ hb5).mono ?_); intro e6 w6 hh6; obtain ⟨he6, S6, hT6, hA6, hE6, hS6⟩ := hh6; subst he6; obtain ⟨hst, n1, n2, n3, n4, hsz⟩ := HAFT.out _ _ hb5 hS6; clear HO1 c0 c1 c2 c3 y0 y1 y2 y3 o1 o2 o9; obtain ⟨c0, c1, c2, c3, _, _, _, _⟩ := four_cells hT6.blk; rw [hA6.1] at c0; obtain ⟨q6, hq6⟩ := get_some (show t < S6.length by rw [hA6.1]; exact hl); obtain ⟨r0, r1, r2, r3, r4, r5, r6, r7⟩ := ownR_at hT6.r hq6; have HQ6 := Lib.hid hq6; clear hq6; have o1 := cell_of_one n1; have o2 := cell_of_one n2; obtain ⟨a0, a1, a2, az0, az1, az2⟩ := three_facts n3; obtain ⟨d0, d1, d2, dz0, dz1, dz2⟩ := three_facts n4; have HT6 := Lib.hid hT6; have HST := Lib.hid hst; have HN := Lib.hid (And.intro n3 n4); have HI6 := Lib.hid n2; have HA6 := Lib.hid hA6; have HE6 := Lib.hid hE6; clear hst n1 n2 n3 n4 hT6 hA6 hE6 hS6))
  go_wp2_with fail
  have HQR : Hid (r.k = q6.k ∧ r.v = q6.v ∧ r.c = q6.c) := by
    obtain ⟨q, h1, h2, h3, h4⟩ := HA6.out.2 t q6 HQ6.out
    rw [hr] at h1; cases h1; exact ⟨h2, h3, h4⟩
  clear HAFT HO hHE HS HT4 z1 z2 z3 z4 c0 c1 c2 c3 o1 o2 a0 a1 a2 az0 az1 az2 d0 d1 d2 dz0 dz1 dz2 hb5 hl hl' ht0 ht1 r0 r1 r2 r3 r4 r5 r6 r7 hr
  have hA := (Below.refl w6.heap.size w6).alloc (Nat.le_refl _) (.cells #[.int .i64 q6.k.1, .int .i64 q6.k.2.1, .string q6.k.2.2, .int .i64 q6.v.1, .int .i64 q6.v.2.1, .string q6.v.2.2, .int .i64 q6.c, .int .i64 q6.s] 109)
  have m9 := heap_alloc_new w6 (.cells #[.int .i64 q6.k.1, .int .i64 q6.k.2.1, .string q6.k.2.2, .int .i64 q6.v.1, .int .i64 q6.v.2.1, .string q6.v.2.2, .int .i64 q6.c, .int .i64 q6.s] 109)
  have m5 := keep HN.out.1 hA
  have m6 := keep HN.out.2 hA
  have HT7 := Lib.hid (tab_below HT6.out hA)
  have HST7 := Lib.hid (st_trans HST.out (st_below hA (Nat.le_trans hB HST.out.b.size)))
  have hne1 : ¬ w.heap.size + 1 + 1 = w6.heap.size := by omega
  have hne2 : ¬ w.heap.size + 1 + 1 + 1 = w6.heap.size := by omega
  have hne3 : ¬ w6.heap.size = w.heap.size + 1 + 1 := by omega
  have hne4 : ¬ w6.heap.size = w.heap.size + 1 + 1 + 1 := by omega
  clear hA hsz HST HT6 HN
  generalize w6.heap.size = g9 at *
  generalize w6.alloc (.cells #[.int .i64 q6.k.1, .int .i64 q6.k.2.1, .string q6.k.2.2, .int .i64 q6.v.1, .int .i64 q6.v.2.1, .string q6.v.2.2, .int .i64 q6.c, .int .i64 q6.s] 109) = W at *
  have M5 := Lib.hid m5
  have M6 := Lib.hid m6
  obtain ⟨a0, a1, a2, az0, az1, az2⟩ := three_facts m5
  obtain ⟨d0, d1, d2, dz0, dz1, dz2⟩ := three_facts m6
  have c0 : W.cell? ⟨g9, 0, none⟩ = some (.int .i64 q6.k.1) := by rw [cell_of_row _ _ _ _ _ _ m9]; rfl
  have c1 : W.cell? ⟨g9, 1, none⟩ = some (.int .i64 q6.k.2.1) := by rw [cell_of_row _ _ _ _ _ _ m9]; rfl
  have c2 : W.cell? ⟨g9, 2, none⟩ = some (.string q6.k.2.2) := by rw [cell_of_row _ _ _ _ _ _ m9]; rfl
  have c3 : W.cell? ⟨g9, 3, none⟩ = some (.int .i64 q6.v.1) := by rw [cell_of_row _ _ _ _ _ _ m9]; rfl
  have c4 : W.cell? ⟨g9, 4, none⟩ = some (.int .i64 q6.v.2.1) := by rw [cell_of_row _ _ _ _ _ _ m9]; rfl
  have c5 : W.cell? ⟨g9, 5, none⟩ = some (.string q6.v.2.2) := by rw [cell_of_row _ _ _ _ _ _ m9]; rfl
  have c6 : W.cell? ⟨g9, 6, none⟩ = some (.int .i64 q6.c) := by rw [cell_of_row _ _ _ _ _ _ m9]; rfl
  clear m5 m6 m9
  go_region
  clear a0 a1 a2 az0 az1 az2 d0 d1 d2 dz0 dz1 dz2 c0 c1 c2 c3 c4 c5 c6
  obtain ⟨n5, n5'⟩ := three_set M5.out (.int .i64 q6.k.1) (.int .i64 q6.k.2.1) (.string q6.k.2.2)
  have n6 := (n5' (w.heap.size + 1 + 1 + 1) (by omega)).trans M6.out
  have hT8 := tab_three HT7.out (M5.out) (.int .i64 q6.k.1) (.int .i64 q6.k.2.1) (.string q6.k.2.2)
  have hS8 := st_three HST7.out (g := w.heap.size + 1 + 1) (by omega) hB (.int .i64 q6.k.1) (.int .i64 q6.k.2.1) (.string q6.k.2.2)
  generalize ((W.setCell ⟨w.heap.size + 1 + 1, 0, none⟩ (.int .i64 q6.k.1)).setCell ⟨w.heap.size + 1 + 1, 1, none⟩ (.int .i64 q6.k.2.1)).setCell ⟨w.heap.size + 1 + 1, 2, none⟩ (.string q6.k.2.2) = W8 at *
  obtain ⟨o6, o6'⟩ := three_set n6 (.int .i64 q6.v.1) (.int .i64 q6.v.2.1) (.string q6.v.2.2)
  have o5 := (o6' (w.heap.size + 1 + 1) (by omega)).trans n5
  have hT9 := tab_three hT8 n6 (.int .i64 q6.v.1) (.int .i64 q6.v.2.1) (.string q6.v.2.2)
  have hS9 := st_three hS8 (g := w.heap.size + 1 + 1 + 1) (by omega) hB (.int .i64 q6.v.1) (.int .i64 q6.v.2.1) (.string q6.v.2.2)
  generalize ((W8.setCell ⟨w.heap.size + 1 + 1 + 1, 0, none⟩ (.int .i64 q6.v.1)).setCell ⟨w.heap.size + 1 + 1 + 1, 1, none⟩ (.int .i64 q6.v.2.1)).setCell ⟨w.heap.size + 1 + 1 + 1, 2, none⟩ (.string q6.v.2.2) = W9 at *
  have HEND : Hid (Nexted B b (some ⟨ga, 0, none⟩) cr ap cp w R P n last (.tuple #[.int .i64 q6.c, .agg #[.int .i64 q6.k.1, .int .i64 q6.k.2.1, .string q6.k.2.2], .agg #[.int .i64 q6.v.1, .int .i64 q6.v.2.1, .string q6.v.2.2], .bool true]) (.returned (.tuple #[.int .i64 q6.c, .agg #[.int .i64 q6.k.1, .int .i64 q6.k.2.1, .string q6.k.2.2], .agg #[.int .i64 q6.v.1, .int .i64 q6.v.2.1, .string q6.v.2.2], .bool true])) W9.drew) :=
    ⟨rfl, S6, tab_below hT9 (Below.refl _ _).drew, HA6.out, HE6.out, st_drew hS9⟩
  have P5 := Lib.hid o5
  have P6 := Lib.hid o6
  clear hT8 hT9 hS8 hS9 n5 n5' n6 o5 o6 o6'
  go_wp2_with fail
  all_goals (try simp only [Exit.inBlock, Exit.then])
  refine bodyPost_ret (results_next rfl _ _ (w.heap.size + 1 + 1) (w.heap.size + 1 + 1 + 1) #[.int .i64 q6.k.1, .int .i64 q6.k.2.1, .string q6.k.2.2] #[.int .i64 q6.v.1, .int .i64 q6.v.2.1, .string q6.v.2.2] 30 30 _ _ rfl P5.out Try.underlying30 rfl A.infoV rfl P6.out Try.underlying30 rfl A.infoV) ?_ ?_
  · rfl
  · obtain ⟨e1, e2, e3⟩ := HQR.out
    rw [e1, e2, e3]; exact HEND.out
end Go.Proofs.Ytipdjjgpcmbpdaa.Ta
