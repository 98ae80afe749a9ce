/- own, Clone. -/
import Derived.Test.YtaonojimpfhkfaaAstH
namespace Go.Proofs.Ytaonojimpfhkfaa.As
open Go.RowKit Go.ChangeShapes Go.WideShapes Go.ChangeAt

theorem five_facts {w : World} {g : Nat} {a b c d e : Value} {t : TypeId} (h : w.heap[g]? = some (.cells #[a, b, c, d, e] t)) :
    (w.cell? ⟨g, 0, none⟩ = some a ∧ w.cell? ⟨g, 1, none⟩ = some b ∧ w.cell? ⟨g, 2, none⟩ = some c ∧ w.cell? ⟨g, 3, none⟩ = some d ∧ w.cell? ⟨g, 4, none⟩ = some e) ∧ w.frozen? ⟨g, 0, none⟩ = false ∧ w.frozen? ⟨g, 1, none⟩ = false ∧ w.frozen? ⟨g, 2, none⟩ = false ∧ w.frozen? ⟨g, 3, none⟩ = false ∧ w.frozen? ⟨g, 4, none⟩ = false := by
  refine ⟨⟨?_, ?_, ?_, ?_, ?_⟩, by simp [World.frozen?, h], by simp [World.frozen?, h], by simp [World.frozen?, h], by simp [World.frozen?, h], by simp [World.frozen?, h]⟩ <;> rw [cell_of_row _ _ _ _ _ _ h] <;> rfl
theorem heap_five {w : World} {g : Nat} {a b c d e : Value} {t : TypeId} (h : w.heap[g]? = some (.cells #[a, b, c, d, e] t)) (a' b' c' d' e' : Value) :
    (((((w.setCell ⟨g, 0, none⟩ a').setCell ⟨g, 1, none⟩ b').setCell ⟨g, 2, none⟩ c').setCell ⟨g, 3, none⟩ d').setCell ⟨g, 4, none⟩ e').heap[g]? = some (.cells #[a', b', c', d', e'] t) := by
  rw [heap_setCell_same _ _ _ _ _ _ (heap_setCell_same _ _ _ _ _ _ (heap_setCell_same _ _ _ _ _ _ (heap_setCell_same _ _ _ _ _ _ (heap_setCell_same _ _ _ _ _ _ h))))]
  rfl
theorem below_five {B g : Nat} {w w' : World} (h : Below B w w') (hg : B ≤ g) (a' b' c' d' e' : Value) :
    Below B w (((((w'.setCell ⟨g, 0, none⟩ a').setCell ⟨g, 1, none⟩ b').setCell ⟨g, 2, none⟩ c').setCell ⟨g, 3, none⟩ d').setCell ⟨g, 4, none⟩ e') :=
  ((((h.setCell (p := ⟨g, 0, none⟩) hg _).setCell (p := ⟨g, 1, none⟩) hg _).setCell (p := ⟨g, 2, none⟩) hg _).setCell (p := ⟨g, 3, none⟩) hg _).setCell (p := ⟨g, 4, none⟩) hg _
theorem own_set {B e size n g o : Nat} {ad : Option Addr} {cap : Nat} {w : World} {xs : List Value} {v : Value} {cs : Array Value} {t : TypeId} {f : Nat × Nat} (h : w.ownsRow B e size (.slice ad n cap) n xs) (hg : w.heap[g]? = some (.cells cs t f)) (ht : t ≠ e) : (w.setCell ⟨g, o, none⟩ v).ownsRow B e size (.slice ad n cap) n xs := by
  rcases h with ⟨h1, h2 | ⟨g', cap', cur, a, b, c, d⟩⟩
  · exact ⟨h1, Or.inl h2⟩
  · exact ⟨h1, Or.inr ⟨g', cap', cur, a, b, (Below.heap_setCell w _ _ g' (by
      show g' ≠ g
      rintro rfl
      rw [c] at hg
      simp only [Option.some.injEq, Obj.cells.injEq] at hg
      exact ht hg.2.1.symm)).trans c, d⟩⟩
theorem own_five {B e size n g : Nat} {ad : Option Addr} {cap : Nat} {w : World} {xs : List Value} {a b c d f a' b' c' d' e' : Value} {t : TypeId} (h : w.ownsRow B e size (.slice ad n cap) n xs) (hg : w.heap[g]? = some (.cells #[a, b, c, d, f] t)) (ht : t ≠ e) :
    (((((w.setCell ⟨g, 0, none⟩ a').setCell ⟨g, 1, none⟩ b').setCell ⟨g, 2, none⟩ c').setCell ⟨g, 3, none⟩ d').setCell ⟨g, 4, none⟩ e').ownsRow B e size (.slice ad n cap) n xs := by
  have s0 := heap_setCell_same w g 0 _ _ a' hg
  have s1 := heap_setCell_same (w.setCell ⟨g, 0, none⟩ a') g 1 _ _ b' s0
  have s2 := heap_setCell_same _ g 2 _ _ c' s1
  have s3 := heap_setCell_same _ g 3 _ _ d' s2
  exact own_set (own_set (own_set (own_set (own_set h hg ht) s0 ht) s1 ht) s2 ht) s3 ht
set_option maxRecDepth 100000 in
set_option maxHeartbeats 4000000 in
theorem own_any {w : World} {B : Nat} (n : Nd) (h : RowI w B n.ka n.kids) (hB : B ≤ w.heap.size) (hl : n.kids.length ≤ 1000000) (hs : n.text.size ≤ 1000000) :
    Calls Try.prog 36 #[nv n] w fun e w' => ∃ A' c', e = .returned (nv (n.at A' c')) ∧ OwI w.heap.size A' c' w' n.kids ∧ Below w.heap.size w w' := by
  have hz := bel2 w (.cells #[.int .i64 n.kind, .int .i64 n.loc, .string n.text, .int .i64 n.num, .slice n.ka n.kids.length n.kc] 37) (.cells #[.int .i64 0, .int .i64 0, .string ⟨#[]⟩, .int .i64 0, .slice none 0 0] 37)
  have hx : ((w.alloc (.cells #[.int .i64 n.kind, .int .i64 n.loc, .string n.text, .int .i64 n.num, .slice n.ka n.kids.length n.kc] 37)).alloc (.cells #[.int .i64 0, .int .i64 0, .string ⟨#[]⟩, .int .i64 0, .slice none 0 0] 37)).heap[w.heap.size]? = some (.cells #[.int .i64 n.kind, .int .i64 n.loc, .string n.text, .int .i64 n.num, .slice n.ka n.kids.length n.kc] 37) := (heap_alloc_old _ _ (by simp)).trans (new1 w _)
  have hy := new2 w (.cells #[.int .i64 n.kind, .int .i64 n.loc, .string n.text, .int .i64 n.num, .slice n.ka n.kids.length n.kc] 37) (.cells #[.int .i64 0, .int .i64 0, .string ⟨#[]⟩, .int .i64 0, .slice none 0 0] 37)
  have HZ := Lib.hid hz
  have HX := Lib.hid hx
  have HY := Lib.hid hy
  have HH := Lib.hid h
  have HB := Lib.hid hB
  have HL := Lib.hid hl
  have HCL := Lib.hid fun w => clone_any n.text (by omega) w
  have hlb : (n.kids.length : Int) ≤ 1000000 := by omega
  clear hz hx hy h hB hl hs
  unfold nv Nd.at
  simp only
  go_enter Try.func36, Try.ntmps36
  go_wp2_with fail
  generalize (w.alloc (.cells #[.int .i64 n.kind, .int .i64 n.loc, .string n.text, .int .i64 n.num, .slice n.ka n.kids.length n.kc] 37)).alloc (.cells #[.int .i64 0, .int .i64 0, .string ⟨#[]⟩, .int .i64 0, .slice none 0 0] 37) = w1 at *
  refine (HCL.out _).mono ?_
  rintro e w2 ⟨rfl, hb⟩
  have HX2 := Lib.hid ((hb.block _ (lt_of_block HX.out)).trans HX.out)
  have HY2 := Lib.hid ((hb.block _ (lt_of_block HY.out)).trans HY.out)
  have HZ2 := Lib.hid (HZ.out.trans (hb.mono HZ.out.size))
  obtain ⟨⟨x0, x1, x2, x3, x4⟩, _, _, f2, _, f4⟩ := five_facts HX2.out
  have HX3 := Lib.hid (set_nd HX2.out (.string n.text)).1
  have HY3 := Lib.hid (blk_far HY2.out (p := ⟨w.heap.size, 2, none⟩) (by simp) (.string n.text))
  have HZ3 := Lib.hid (HZ2.out.setCell (p := ⟨w.heap.size, 2, none⟩) (Nat.le_refl _) (.string n.text))
  have y4 : (w2.setCell ⟨w.heap.size, 2, none⟩ (.string n.text)).cell? ⟨w.heap.size, 4, none⟩ = some (.slice n.ka n.kids.length n.kc) := (five_facts HX3.out).1.2.2.2.2
  clear hb HX HY HZ
  go_wp2_with fail
  generalize w2.setCell ⟨w.heap.size, 2, none⟩ (.string n.text) = w3 at *
  refine (copyI_any (HH.out.keep (w' := w3) (Nat.le_refl _) fun b hb => HZ3.out.block b (by have := HB.out; omega)) HL.out).mono ?_
  rintro e w4 ⟨A', c', rfl, ho, hb⟩
  have HX4 := Lib.hid ((hb.block _ (lt_of_block HX3.out)).trans HX3.out)
  have HY4 := Lib.hid ((hb.block _ (lt_of_block HY3.out)).trans HY3.out)
  have HZ4 := Lib.hid (HZ3.out.trans (hb.mono HZ3.out.size))
  have HO4 := Lib.hid (own_mono ho (Nat.le_trans HZ3.out.size (Nat.le_refl _)))
  clear hb ho x0 x1 x2 x3 x4 f2 f4 y4
  obtain ⟨⟨x0, x1, x2, x3, x4⟩, _, _, f2, _, f4⟩ := five_facts HX4.out
  have HX5 := Lib.hid (set_nd HX4.out (.slice A' n.kids.length c')).2
  have HY5 := Lib.hid (blk_far HY4.out (p := ⟨w.heap.size, 4, none⟩) (by simp) (.slice A' n.kids.length c'))
  have HZ5 := Lib.hid (HZ4.out.setCell (p := ⟨w.heap.size, 4, none⟩) (Nat.le_refl _) (.slice A' n.kids.length c'))
  have HO5 := Lib.hid (own_set (o := 4) (v := .slice A' n.kids.length c') HO4.out HX4.out (by decide))
  obtain ⟨⟨u0, u1, u2, u3, u4⟩, _⟩ := five_facts HX5.out
  obtain ⟨⟨v0, v1, v2, v3, v4⟩, q0, q1, q2, q3, q4⟩ := five_facts HY5.out
  clear HX2 HY2 HZ2 HX3 HY3 HZ3
  go_wp2_with fail
  refine bodyPost_ret (results_one rfl _ _ (w.heap.size + 1) 37 #[.int .i64 n.kind, .int .i64 n.loc, .string n.text, .int .i64 n.num, .slice A' n.kids.length c'] (0, 0) _ rfl (heap_five HY5.out _ _ _ _ _) Try.underlying37 rfl As.A.infoN2) rfl ⟨A', c', rfl, own_five HO5.out HY5.out (by decide), below_five HZ5.out (Nat.le_succ _) _ _ _ _ _⟩
/-- Two rows of nodes that say the same. -/
def Alk (L M : List Nd) : Prop := M.length = L.length ∧ ∀ (j : Nat) (n : Nd), L[j]? = some n → ∃ a c, M[j]? = some (n.at a c)
theorem flatN_set (L : List Nd) (k : Nat) (n : Nd) (h : k < L.length) : (((((flatN L).set (k * 5) (.int .i64 n.kind)).set (k * 5 + 1) (.int .i64 n.loc)).set (k * 5 + 2) (.string n.text)).set (k * 5 + 3) (.int .i64 n.num)).set (k * 5 + 4) (.slice n.ka n.kids.length n.kc) = flatN (L.set k n) := by
  induction L generalizing k with
  | nil => simp at h
  | cons m L ih =>
    cases k with
    | zero => simp [flatN_cons, celN]
    | succ k =>
      have ih := ih k (by simpa using h)
      rw [List.set_cons_succ, flatN_cons, flatN_cons, ← ih]
      simp only [show (k + 1) * 5 = k * 5 + 5 by omega, show ∀ j, k * 5 + 5 + j = (k * 5 + j) + 5 from fun j => by omega]
      rw [List.set_append_right _ _ (by simp [celN])]
      rw [List.set_append_right _ _ (by simp [celN])]
      rw [List.set_append_right _ _ (by simp [celN])]
      rw [List.set_append_right _ _ (by simp [celN])]
      rw [List.set_append_right _ _ (by simp [celN])]
      simp [celN]
theorem ownN_set {lo g c : Nat} {w : World} {L : List Nd} (h : OwN lo (some ⟨g, 0, none⟩) c w L) (k : Nat) (hk : k < L.length) (n : Nd) :
    OwN lo (some ⟨g, 0, none⟩) c (((((w.setCell ⟨g, k * 5, none⟩ (.int .i64 n.kind)).setCell ⟨g, k * 5 + 1, none⟩ (.int .i64 n.loc)).setCell ⟨g, k * 5 + 2, none⟩ (.string n.text)).setCell ⟨g, k * 5 + 3, none⟩ (.int .i64 n.num)).setCell ⟨g, k * 5 + 4, none⟩ (.slice n.ka n.kids.length n.kc)) (L.set k n) := by
  have h0 := (World.ownsRow.stored h (k * 5) (.int .i64 n.kind)).1
  have h1 := (World.ownsRow.stored h0 (k * 5 + 1) (.int .i64 n.loc)).1
  have h2 := (World.ownsRow.stored h1 (k * 5 + 2) (.string n.text)).1
  have h3 := (World.ownsRow.stored h2 (k * 5 + 3) (.int .i64 n.num)).1
  have h4 := (World.ownsRow.stored h3 (k * 5 + 4) (.slice n.ka n.kids.length n.kc)).1
  rw [flatN_set L k n hk] at h4
  unfold OwN
  rw [List.length_set]
  exact h4
end Go.Proofs.Ytaonojimpfhkfaa.As
