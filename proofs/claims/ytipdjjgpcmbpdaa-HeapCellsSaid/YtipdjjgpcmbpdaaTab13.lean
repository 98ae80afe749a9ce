/- table.Next, told by the keys that are there. -/
import Derived.Test.YtipdjjgpcmbpdaaTab12
set_option linter.unusedVariables false
namespace Go.Proofs.Ytipdjjgpcmbpdaa.Ta
open Go.RowKit Go.ChangeShapes Go.WideShapes Go.ChangeAt Go.Proofs.Ytipdjjgpcmbpdaa.Va

theorem rank_mono (R : List Rw) {x i : Nat} (h : x ≤ i) : rank R x ≤ rank R i := by
  unfold rank
  have : R.take i = R.take x ++ (R.take i).drop x := by
    conv => lhs; rw [← List.take_append_drop x (R.take i), List.take_take, Nat.min_eq_left h]
  rw [this, ents_append, List.length_append]; omega
theorem rank_lt {R : List Rw} {x i : Nat} {q : Rw} (hx : R[x]? = some q) (hk : q.k ≠ nul) (h : x < i) : rank R x < rank R i := by
  have h1 := rank_mono R (show x + 1 ≤ i from h)
  have h2 : rank R (x + 1) = rank R x + 1 := by
    unfold rank
    obtain ⟨hl, e⟩ := List.getElem?_eq_some_iff.1 hx
    rw [List.take_succ_eq_append_getElem hl, ents_append, List.length_append, e, ents_live hk]; rfl
  omega
/-- Of what is there nothing lies behind a cursor. -/
theorem none_behind {R : List Rw} {cur : Int} {s t : Nat} (hs : Behind R cur s) (ht : Here R s t) (h : ∀ (j : Nat) (k v : Vl) (c : Int), (ents R)[j]? = some (k, v, c) → c ≤ cur) : t = R.length := by
  by_cases e : t < R.length
  · obtain ⟨r, hr⟩ := get_some e
    have hk := ht.2.2.2 r hr
    have h1 := h _ _ _ _ (ents_at hr hk)
    have h2 := hs.2.2 t r hr ht.1
    omega
  · have := ht.2.1; omega
theorem first_behind {R : List Rw} {cur : Int} {s t j : Nat} {k v : Vl} {c : Int} (hs : Behind R cur s) (ht : Here R s t) (hj : (ents R)[j]? = some (k, v, c)) (hc : cur < c) (hb : ∀ (i : Nat) (k v : Vl) (c : Int), i < j → (ents R)[i]? = some (k, v, c) → c ≤ cur) :
    ∃ r, R[t]? = some r ∧ r.k = k ∧ r.v = v ∧ r.c = c := by
  obtain ⟨i, r, hi, h1, h2, h3, h4, h5⟩ := ents_row hj
  have hsi : s ≤ i := by
    by_cases e : s ≤ i
    · exact e
    · have := hs.2.1 i r hi (by omega); omega
  have hti : t = i := by
    rcases Nat.lt_trichotomy t i with x | x | x
    · exfalso
      obtain ⟨q, hq⟩ := get_some (show t < R.length by have := (List.getElem?_eq_some_iff.1 hi).1; omega)
      have hk := ht.2.2.2 q hq
      have h6 := hb _ _ _ _ (by rw [← h5]; exact rank_lt hq hk x) (ents_at hq hk)
      have h7 := hs.2.2 t q hq ht.1
      omega
    · exact x
    · exact absurd (ht.2.2.1 i r hi hsi x) (by rw [h1]; exact h4)
  subst hti
  exact ⟨r, hi, h1, h2, h3⟩
theorem next_none {B b sz us : Nat} {E : List (Vl × Vl × Int)} {last cur : Int} (w : World) (hB : B ≤ w.heap.size) (h : IsTab B b w E last sz us) (hn : ∀ (j : Nat) (k v : Vl) (c : Int), E[j]? = some (k, v, c) → c ≤ cur) :
    Calls Try.prog 17 #[.pointer (some ⟨b, 0, none⟩), .int .i64 cur] w fun x w' => x = .returned (.tuple #[.int .i64 cur, .agg #[.int .i64 0, .int .i64 0, .string ⟨#[]⟩], .agg #[.int .i64 0, .int .i64 0, .string ⟨#[]⟩], .bool false]) ∧ IsTab B b w' E last sz us ∧ St B w w' := by
  obtain ⟨ar, cr, ap, cp, R, P, n, hT, rfl, h1, h2⟩ := h
  obtain ⟨s, hs⟩ := behind_ex hT.g cur
  obtain ⟨t, ht⟩ := here_least hs.1
  refine (next_no hs ht (none_behind hs ht hn) w hB hT).mono ?_
  rintro e w' ⟨he, S, hS, hA, hE, hst⟩
  exact ⟨he, ⟨ar, cr, ap, cp, S, P, n, hS, hE, h1, hA.1.trans h2⟩, hst⟩
theorem next_some {B b sz us j : Nat} {E : List (Vl × Vl × Int)} {last cur : Int} {k v : Vl} {c : Int} (w : World) (hB : B ≤ w.heap.size) (h : IsTab B b w E last sz us) (hj : E[j]? = some (k, v, c)) (hc : cur < c) (hb : ∀ (i : Nat) (k v : Vl) (c : Int), i < j → E[i]? = some (k, v, c) → c ≤ cur) :
    Calls Try.prog 17 #[.pointer (some ⟨b, 0, none⟩), .int .i64 cur] w fun x w' => x = .returned (.tuple #[.int .i64 c, .agg #[.int .i64 k.1, .int .i64 k.2.1, .string k.2.2], .agg #[.int .i64 v.1, .int .i64 v.2.1, .string v.2.2], .bool true]) ∧ IsTab B b w' E last sz us ∧ St B w w' := by
  obtain ⟨ar, cr, ap, cp, R, P, n, hT, rfl, h1, h2⟩ := h
  obtain ⟨s, hs⟩ := behind_ex hT.g cur
  obtain ⟨t, ht⟩ := here_least hs.1
  obtain ⟨r, hr, rfl, rfl, rfl⟩ := first_behind hs ht hj hc hb
  refine (next_yes hs ht hr w hB hT).mono ?_
  rintro e w' ⟨he, S, hS, hA, hE, hst⟩
  exact ⟨he, ⟨ar, cr, ap, cp, S, P, n, hS, hE, h1, hA.1.trans h2⟩, hst⟩
/-- The cursors rise, are above 0, and no more than the last one. -/
theorem ents_rise {R : List Rw} {P : List Int} {last : Int} (G : Good R P last) {i j : Nat} {e f : Vl × Vl × Int} (hi : (ents R)[i]? = some e) (hj : (ents R)[j]? = some f) (h : i < j) : e.2.2 < f.2.2 := by
  obtain ⟨k, v, c⟩ := e
  obtain ⟨k', v', c'⟩ := f
  obtain ⟨x, r, hx, _, _, h3, h4, h5⟩ := ents_row hi
  obtain ⟨y, q, hy, _, _, g3, g4, g5⟩ := ents_row hj
  have : x < y := by
    rcases Nat.lt_or_ge x y with a | a
    · exact a
    · have := rank_mono R a; omega
  have := G.rise x y r q hx hy this
  simp only; omega
end Go.Proofs.Ytipdjjgpcmbpdaa.Ta
