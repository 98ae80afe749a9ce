/- Plain lemmas on rows with keys, and on places that tell of them: what is found, what comes, what goes. -/
import Derived.Test.YtipdjjgpcmbpdaaTab0
set_option linter.unusedVariables false
namespace Go.Proofs.Ytipdjjgpcmbpdaa.Ta
open Go.RowKit

abbrev Vl := Int × Int × ByteArray
def nul : Vl := (0, 0, ⟨#[]⟩)
structure Rw where
  k : Vl
  v : Vl
  c : Int
  s : Int
/-- Where a key's search begins. -/
def H (e : Vl) : Nat := (hsh e).toNat
def live (r : Rw) : Bool := decide (r.k ≠ nul)
/-- The keys that are there, with their values, and the cursors behind them. -/
def ents (R : List Rw) : List (Vl × Vl × Int) := (R.filter live).map fun r => (r.k, r.v, r.c)
/-- The place of the u-th step of a key's search. -/
def at_ (P : List Int) (key : Vl) (u : Nat) : Nat := (H key + u) % P.length
structure Good (R : List Rw) (P : List Int) (last : Int) : Prop where
  pw : (P = [] ∧ R = []) ∨ ∃ e, P.length = 2 ^ (e + 1) ∧ e ≤ 24
  rng : ∀ (x : Nat) (p : Int), P[x]? = some p → 0 ≤ p ∧ p ≤ R.length
  inj : ∀ (x y : Nat) (p : Int), P[x]? = some p → P[y]? = some p → p ≠ 0 → x = y
  full : 4 * R.length ≤ 3 * P.length
  zeros : P.count 0 + R.length = P.length
  probe : ∀ (i : Nat) (r : Rw), R[i]? = some r → r.k ≠ nul → ∃ t, t < P.length ∧ P[at_ P r.k t]? = some ((i : Int) + 1) ∧ ∀ u, u < t → P[at_ P r.k u]? ≠ some 0
  uniq : ∀ (i j : Nat) (r q : Rw), R[i]? = some r → R[j]? = some q → r.k ≠ nul → r.k = q.k → i = j
  rise : ∀ (i j : Nat) (r q : Rw), R[i]? = some r → R[j]? = some q → i < j → r.c < q.c
  cur : ∀ (i : Nat) (r : Rw), R[i]? = some r → 0 < r.c ∧ r.c ≤ last
  skip : ∀ (i : Nat) (r : Rw), R[i]? = some r → r.k = nul → (i : Int) < r.s ∧ r.s ≤ R.length ∧ ∀ (j : Nat) (q : Rw), i ≤ j → (j : Int) < r.s → R[j]? = some q → q.k = nul
/-- Where a search ends. -/
def Stop (R : List Rw) (P : List Int) (key : Vl) (x : Nat) : Prop := P[x]? = some 0 ∨ ∃ (i : Nat) (r : Rw), P[x]? = some ((i : Int) + 1) ∧ R[i]? = some r ∧ r.k = key
theorem at_lt {P : List Int} (h : 0 < P.length) (key : Vl) (u : Nat) : at_ P key u < P.length := Nat.mod_lt _ h
theorem at_inj {P : List Int} {key : Vl} {t u : Nat} (ht : t < P.length) (hu : u < P.length) (h : at_ P key t = at_ P key u) : t = u := by
  unfold at_ at h
  have h1 := Nat.div_add_mod (H key + t) P.length
  have h2 := Nat.div_add_mod (H key + u) P.length
  rw [h] at h1
  generalize (H key + t) / P.length = a at *
  generalize (H key + u) / P.length = b at *
  generalize (H key + u) % P.length = c at *
  rcases Nat.lt_trichotomy a b with hab | hab | hab
  · have := Nat.mul_le_mul_left P.length (show a + 1 ≤ b from hab)
    rw [Nat.mul_add, Nat.mul_one] at this
    omega
  · subst hab; omega
  · have := Nat.mul_le_mul_left P.length (show b + 1 ≤ a from hab)
    rw [Nat.mul_add, Nat.mul_one] at this
    omega
theorem at_all {P : List Int} (key : Vl) {x : Nat} (hx : x < P.length) : ∃ t, t < P.length ∧ at_ P key t = x := by
  have hm : 0 < P.length := by omega
  have hr := Nat.mod_lt (H key) hm
  refine ⟨(x + P.length - H key % P.length) % P.length, Nat.mod_lt _ hm, ?_⟩
  unfold at_
  rw [Nat.add_mod_mod, ← Nat.mod_add_mod, show H key % P.length + (x + P.length - H key % P.length) = x + P.length by omega, Nat.add_mod_right, Nat.mod_eq_of_lt hx]
theorem get_some {α : Type} {l : List α} {x : Nat} (h : x < l.length) : ∃ p, l[x]? = some p := ⟨l[x], List.getElem?_eq_getElem h⟩
/-- There is a free place: a search ends. -/
theorem free_at {R : List Rw} {P : List Int} {last : Int} (G : Good R P last) (hP : 0 < P.length) (key : Vl) : ∃ t, t < P.length ∧ P[at_ P key t]? = some 0 := by
  have hc : 0 < P.count 0 := by have := G.zeros; have := G.full; omega
  have hm := List.count_pos_iff.1 hc
  obtain ⟨x, hx, e⟩ := List.getElem_of_mem hm
  obtain ⟨t, ht, e2⟩ := at_all key hx
  exact ⟨t, ht, by rw [e2, List.getElem?_eq_getElem hx, e]⟩
/-- A key that is there is found. -/
theorem found_at {R : List Rw} {P : List Int} {last : Int} (G : Good R P last) {i : Nat} {r : Rw} (hi : R[i]? = some r) (hk : r.k ≠ nul) {t : Nat} (ht : t < P.length) (hs : Stop R P r.k (at_ P r.k t)) (hn : ∀ u, u < t → ¬ Stop R P r.k (at_ P r.k u)) : P[at_ P r.k t]? = some ((i : Int) + 1) := by
  obtain ⟨t0, ht0, h1, h2⟩ := G.probe i r hi hk
  rcases Nat.lt_trichotomy t t0 with h | h | h
  · rcases hs with h0 | ⟨j, q, hj, hq, hk2⟩
    · exact absurd h0 (h2 t h)
    · have := G.uniq i j r q hi hq hk hk2.symm
      subst this; exact hj
  · subst h; exact h1
  · exact absurd (show Stop R P r.k (at_ P r.k t0) from Or.inr ⟨i, r, h1, hi, rfl⟩) (hn t0 h)
/-- A key that isn't there is not. -/
theorem lost_at {R : List Rw} {P : List Int} {key : Vl} (hk : ∀ (i : Nat) (r : Rw), R[i]? = some r → r.k ≠ key) {x : Nat} (hs : Stop R P key x) : P[x]? = some 0 := by
  rcases hs with h | ⟨i, r, _, hi, e⟩
  · exact h
  · exact absurd e (hk i r hi)

/-! what stands in a list that has turned at a place -/
theorem set_get {α : Type} (l : List α) (i j : Nat) (a : α) : (l.set i a)[j]? = if i = j then (if i < l.length then some a else none) else l[j]? := by
  rw [List.getElem?_set]
theorem ents_nil : ents [] = [] := rfl
theorem ents_append (R S : List Rw) : ents (R ++ S) = ents R ++ ents S := by unfold ents; rw [List.filter_append, List.map_append]
theorem ents_live {r : Rw} (h : r.k ≠ nul) : ents [r] = [(r.k, r.v, r.c)] := by unfold ents; simp [live, h]
theorem ents_dead {r : Rw} (h : r.k = nul) : ents [r] = [] := by unfold ents; simp [live, h]
theorem split_at {R : List Rw} {i : Nat} {r : Rw} (h : R[i]? = some r) : R = R.take i ++ r :: R.drop (i + 1) := by
  obtain ⟨hi, e⟩ := List.getElem?_eq_some_iff.1 h
  rw [← e, List.getElem_cons_drop, List.take_append_drop]
theorem set_split {R : List Rw} {i : Nat} {r q : Rw} (h : R[i]? = some r) : R.set i q = R.take i ++ q :: R.drop (i + 1) := by
  obtain ⟨hi, e⟩ := List.getElem?_eq_some_iff.1 h
  rw [List.set_eq_take_append_cons_drop, if_pos hi]
/-- The one that tells of row i among those that are there. -/
def rank (R : List Rw) (i : Nat) : Nat := (ents (R.take i)).length
theorem ents_at {R : List Rw} {i : Nat} {r : Rw} (h : R[i]? = some r) (hk : r.k ≠ nul) : (ents R)[rank R i]? = some (r.k, r.v, r.c) := by
  have h1 : ents R = ents (R.take i) ++ ((r.k, r.v, r.c) :: ents (R.drop (i + 1))) := by
    conv => lhs; rw [split_at h]
    rw [ents_append, show r :: R.drop (i + 1) = [r] ++ R.drop (i + 1) from rfl, ents_append, ents_live hk]; rfl
  rw [h1, rank, List.getElem?_append_right (Nat.le_refl _), Nat.sub_self]; rfl
theorem ents_set {R : List Rw} {i : Nat} {r q : Rw} (h : R[i]? = some r) (hk : r.k ≠ nul) (hq : q.k = r.k) (hc : q.c = r.c) : ents (R.set i q) = (ents R).set (rank R i) (r.k, q.v, r.c) := by
  have h1 : ents R = ents (R.take i) ++ ((r.k, r.v, r.c) :: ents (R.drop (i + 1))) := by
    conv => lhs; rw [split_at h]
    rw [ents_append, show r :: R.drop (i + 1) = [r] ++ R.drop (i + 1) from rfl, ents_append, ents_live hk]; rfl
  rw [set_split h, ents_append, show q :: R.drop (i + 1) = [q] ++ R.drop (i + 1) from rfl, ents_append, ents_live (by rw [hq]; exact hk), h1, rank, List.set_append_right _ _ (Nat.le_refl _), Nat.sub_self, hq, hc]; rfl
theorem ents_same {R : List Rw} {i : Nat} {r q : Rw} (h : R[i]? = some r) (hq : q.k = r.k) (hv : q.v = r.v) (hc : q.c = r.c) : ents (R.set i q) = ents R := by
  conv => rhs; rw [split_at h]
  rw [set_split h, ents_append, ents_append, show q :: R.drop (i + 1) = [q] ++ R.drop (i + 1) from rfl, show r :: R.drop (i + 1) = [r] ++ R.drop (i + 1) from rfl, ents_append, ents_append]
  congr 2
  unfold ents
  by_cases hk : r.k = nul
  · simp [live, hk, hq]
  · simp [live, hk, hq, hv, hc]
theorem ents_del {R : List Rw} {i : Nat} {r q : Rw} (h : R[i]? = some r) (hk : r.k ≠ nul) (hq : q.k = nul) : ents (R.set i q) = (ents R).eraseIdx (rank R i) := by
  have h1 : ents R = ents (R.take i) ++ ((r.k, r.v, r.c) :: ents (R.drop (i + 1))) := by
    conv => lhs; rw [split_at h]
    rw [ents_append, show r :: R.drop (i + 1) = [r] ++ R.drop (i + 1) from rfl, ents_append, ents_live hk]; rfl
  rw [set_split h, ents_append, show q :: R.drop (i + 1) = [q] ++ R.drop (i + 1) from rfl, ents_append, ents_dead hq, h1, rank, List.eraseIdx_append_of_length_le (Nat.le_refl _), Nat.sub_self]; rfl

/-! what turns -/
theorem good_val {R : List Rw} {P : List Int} {last : Int} (G : Good R P last) {i : Nat} {r q : Rw} (h : R[i]? = some r) (hq : q.k = r.k) (hc : q.c = r.c) (hs : r.k = nul → (i : Int) < q.s ∧ q.s ≤ R.length ∧ ∀ (j : Nat) (p : Rw), i ≤ j → (j : Int) < q.s → R[j]? = some p → p.k = nul) : Good (R.set i q) P last := by
  obtain ⟨hi, _⟩ := List.getElem?_eq_some_iff.1 h
  have back : ∀ (j : Nat) (p : Rw), (R.set i q)[j]? = some p → ∃ p', R[j]? = some p' ∧ p'.k = p.k ∧ p'.c = p.c ∧ (j ≠ i → p' = p) ∧ (j = i → p = q) := by
    intro j p hj
    rw [set_get] at hj
    by_cases e : i = j
    · subst e
      rw [if_pos rfl, if_pos hi] at hj
      cases hj
      exact ⟨r, h, hq.symm, hc.symm, fun x => absurd rfl x, fun _ => rfl⟩
    · rw [if_neg e] at hj
      exact ⟨p, hj, rfl, rfl, fun _ => rfl, fun x => absurd x.symm e⟩
  refine ⟨?_, ?_, G.inj, by rw [List.length_set]; exact G.full, by rw [List.length_set]; exact G.zeros, ?_, ?_, ?_, ?_, ?_⟩
  · rcases G.pw with ⟨h1, h2⟩ | h1
    · left; subst h2; exact ⟨h1, rfl⟩
    · exact Or.inr h1
  · rw [List.length_set]; exact G.rng
  · intro j p hj hk
    obtain ⟨p', h1, h2, _⟩ := back j p hj
    rw [← h2] at hk ⊢
    exact G.probe j p' h1 hk
  · intro a b p p2 ha hb hk e
    obtain ⟨p', h1, h2, _⟩ := back a p ha
    obtain ⟨p2', g1, g2, _⟩ := back b p2 hb
    exact G.uniq a b p' p2' h1 g1 (by rw [h2]; exact hk) (by rw [h2, g2]; exact e)
  · intro a b p p2 ha hb hab
    obtain ⟨p', h1, _, h3, _⟩ := back a p ha
    obtain ⟨p2', g1, _, g3, _⟩ := back b p2 hb
    rw [← h3, ← g3]; exact G.rise a b p' p2' h1 g1 hab
  · intro a p ha
    obtain ⟨p', h1, _, h3, _⟩ := back a p ha
    rw [← h3]; exact G.cur a p' h1
  · intro a p ha hk
    obtain ⟨p', h1, h2, _, h4, h5⟩ := back a p ha
    rw [List.length_set]
    have key : ∀ x : Int, (∀ (j : Nat) (p : Rw), a ≤ j → (j : Int) < x → R[j]? = some p → p.k = nul) → ∀ (j : Nat) (p : Rw), a ≤ j → (j : Int) < x → (R.set i q)[j]? = some p → p.k = nul := by
      intro x hx j p2 h6 h7 h8
      obtain ⟨p2', g1, g2, _⟩ := back j p2 h8
      rw [← g2]; exact hx j p2' h6 h7 g1
    by_cases e : a = i
    · subst e
      rw [h5 rfl] at hk ⊢
      obtain ⟨s1, s2, s3⟩ := hs (by rw [← hq]; exact hk)
      exact ⟨s1, s2, key _ s3⟩
    · have := h4 e; subst this
      obtain ⟨s1, s2, s3⟩ := G.skip a p' h1 hk
      exact ⟨s1, s2, key _ s3⟩
theorem good_del {R : List Rw} {P : List Int} {last : Int} (G : Good R P last) {i : Nat} {r : Rw} (h : R[i]? = some r) : Good (R.set i ⟨nul, nul, r.c, (i : Int) + 1⟩) P last := by
  obtain ⟨hi, _⟩ := List.getElem?_eq_some_iff.1 h
  have back : ∀ (j : Nat) (p : Rw), (R.set i ⟨nul, nul, r.c, (i : Int) + 1⟩)[j]? = some p → (j ≠ i ∧ R[j]? = some p) ∨ (j = i ∧ p = ⟨nul, nul, r.c, (i : Int) + 1⟩) := by
    intro j p hj
    rw [set_get] at hj
    by_cases e : i = j
    · subst e
      rw [if_pos rfl, if_pos hi] at hj
      cases hj
      exact Or.inr ⟨rfl, rfl⟩
    · rw [if_neg e] at hj
      exact Or.inl ⟨fun x => e x.symm, hj⟩
  have cs : ∀ (j : Nat) (p : Rw), (R.set i ⟨nul, nul, r.c, (i : Int) + 1⟩)[j]? = some p → ∃ p', R[j]? = some p' ∧ p'.c = p.c := by
    intro j p hj
    rcases back j p hj with ⟨_, h1⟩ | ⟨rfl, rfl⟩
    · exact ⟨p, h1, rfl⟩
    · exact ⟨r, h, rfl⟩
  refine ⟨?_, ?_, G.inj, by rw [List.length_set]; exact G.full, by rw [List.length_set]; exact G.zeros, ?_, ?_, ?_, ?_, ?_⟩
  · rcases G.pw with ⟨h1, h2⟩ | h1
    · left; subst h2; exact ⟨h1, rfl⟩
    · exact Or.inr h1
  · rw [List.length_set]; exact G.rng
  · intro j p hj hk
    rcases back j p hj with ⟨_, h1⟩ | ⟨_, rfl⟩
    · exact G.probe j p h1 hk
    · exact absurd rfl hk
  · intro a b p p2 ha hb hk e
    rcases back a p ha with ⟨_, h1⟩ | ⟨_, rfl⟩
    · rcases back b p2 hb with ⟨_, h2⟩ | ⟨_, rfl⟩
      · exact G.uniq a b p p2 h1 h2 hk e
      · exact absurd e hk
    · exact absurd rfl hk
  · intro a b p p2 ha hb hab
    obtain ⟨p', h1, h3⟩ := cs a p ha
    obtain ⟨p2', g1, g3⟩ := cs b p2 hb
    rw [← h3, ← g3]; exact G.rise a b p' p2' h1 g1 hab
  · intro a p ha
    obtain ⟨p', h1, h3⟩ := cs a p ha
    rw [← h3]; exact G.cur a p' h1
  · intro a p ha hk
    rw [List.length_set]
    rcases back a p ha with ⟨_, h1⟩ | ⟨rfl, rfl⟩
    · obtain ⟨s1, s2, s3⟩ := G.skip a p h1 hk
      refine ⟨s1, s2, fun j q h2 h3 h4 => ?_⟩
      rcases back j q h4 with ⟨_, g1⟩ | ⟨_, rfl⟩
      · exact s3 j q h2 h3 g1
      · rfl
    · refine ⟨by simp only; omega, by simp only; omega, fun j q h2 h3 h4 => ?_⟩
      rcases back j q h4 with ⟨g0, _⟩ | ⟨_, rfl⟩
      · simp only at h3; omega
      · rfl
theorem at_set (P : List Int) (key : Vl) (u x : Nat) (p : Int) : at_ (P.set x p) key u = at_ P key u := by unfold at_; rw [List.length_set]
/-- A row more. -/
theorem good_add {R : List Rw} {P : List Int} {last : Int} (G : Good R P last) {q : Rw} (hq : q.k ≠ nul) (hnew : ∀ (i : Nat) (r : Rw), R[i]? = some r → r.k ≠ q.k) (hc : ∀ (i : Nat) (r : Rw), R[i]? = some r → r.c < q.c) (h0 : 0 < q.c) (hl : q.c ≤ last) (hroom : 4 * (R.length + 1) ≤ 3 * P.length)
    {t : Nat} (ht : t < P.length) (hfree : P[at_ P q.k t]? = some 0) (hway : ∀ u, u < t → ¬ Stop R P q.k (at_ P q.k u)) : Good (R ++ [q]) (P.set (at_ P q.k t) ((R.length : Int) + 1)) last := by
  have hx := at_lt (show 0 < P.length by omega) q.k t
  have back : ∀ (j : Nat) (p : Rw), (R ++ [q])[j]? = some p → R[j]? = some p ∨ (j = R.length ∧ p = q) := by
    intro j p hj
    rw [List.getElem?_append] at hj
    split at hj
    · exact Or.inl hj
    · right
      rename_i hge
      have : j - R.length = 0 := by
        by_cases e : j - R.length = 0
        · exact e
        · rw [List.getElem?_eq_none (by simp; omega)] at hj; cases hj
      rw [this] at hj
      simp at hj
      exact ⟨by omega, hj.symm⟩
  have pl : ∀ (x : Nat) (p : Int), (P.set (at_ P q.k t) ((R.length : Int) + 1))[x]? = some p → (x ≠ at_ P q.k t ∧ P[x]? = some p) ∨ (x = at_ P q.k t ∧ p = (R.length : Int) + 1) := by
    intro x p hp
    rw [set_get] at hp
    by_cases e : at_ P q.k t = x
    · rw [if_pos e, if_pos hx] at hp
      cases hp
      exact Or.inr ⟨e.symm, rfl⟩
    · rw [if_neg e] at hp
      exact Or.inl ⟨fun y => e y.symm, hp⟩
  have keep : ∀ (x : Nat), P[x]? ≠ some 0 → (P.set (at_ P q.k t) ((R.length : Int) + 1))[x]? ≠ some 0 := by
    intro x hn hp
    rcases pl x 0 hp with ⟨_, h⟩ | ⟨_, h⟩
    · exact hn h
    · omega
  refine ⟨?_, ?_, ?_, ?_, ?_, ?_, ?_, ?_, ?_, ?_⟩
  · rcases G.pw with ⟨h1, _⟩ | ⟨e, h1, h2⟩
    · subst h1; simp at ht
    · exact Or.inr ⟨e, by rw [List.length_set]; exact h1, h2⟩
  · intro x p hp
    rw [List.length_append, List.length_singleton]
    rcases pl x p hp with ⟨_, h⟩ | ⟨_, rfl⟩
    · have := G.rng x p h; omega
    · omega
  · intro x y p hp hy hne
    rcases pl x p hp with ⟨_, h⟩ | ⟨e1, h⟩
    · rcases pl y p hy with ⟨_, g⟩ | ⟨_, g⟩
      · exact G.inj x y p h g hne
      · have := G.rng x p h; omega
    · rcases pl y p hy with ⟨_, g⟩ | ⟨e2, _⟩
      · have := G.rng y p g; omega
      · omega
  · rw [List.length_append, List.length_singleton, List.length_set]; exact hroom
  · rw [List.length_append, List.length_singleton, List.length_set, List.count_set hx]
    have e := hfree
    rw [List.getElem?_eq_getElem hx] at e
    simp only [Option.some.injEq] at e
    have hz := G.zeros
    have hpos : 0 < P.count 0 := List.count_pos_iff.2 (by rw [← e]; exact List.getElem_mem hx)
    rw [e]
    have hne : (((R.length : Int) + 1) == 0) = false := by rw [beq_eq_false_iff_ne]; omega
    simp only [beq_self_eq_true, if_true, hne]
    simp
    omega
  · intro j p hj hk
    rw [List.length_set]
    simp only [at_set]
    rcases back j p hj with h | ⟨rfl, rfl⟩
    · obtain ⟨t0, a, b, c⟩ := G.probe j p h hk
      refine ⟨t0, a, ?_, fun u hu => keep _ (c u hu)⟩
      rw [set_get, if_neg]
      · exact b
      · intro e
        rw [← e, hfree] at b
        simp only [Option.some.injEq] at b
        omega
    · refine ⟨t, ht, ?_, fun u hu => keep _ fun e => hway u hu (show Stop R P _ _ from Or.inl e)⟩
      rw [set_get, if_pos rfl, if_pos hx]
  · intro a b p p2 ha hb hk e
    rcases back a p ha with h | ⟨rfl, rfl⟩
    · rcases back b p2 hb with g | ⟨_, rfl⟩
      · exact G.uniq a b p p2 h g hk e
      · exact absurd e (hnew a p h)
    · rcases back b p2 hb with g | ⟨rfl, _⟩
      · exact absurd e.symm (hnew b p2 g)
      · rfl
  · intro a b p p2 ha hb hab
    rcases back a p ha with h | ⟨rfl, rfl⟩
    · rcases back b p2 hb with g | ⟨_, rfl⟩
      · exact G.rise a b p p2 h g hab
      · exact hc a p h
    · rcases back b p2 hb with g | ⟨rfl, _⟩
      · have := (List.getElem?_eq_some_iff.1 g).1; omega
      · omega
  · intro a p ha
    rcases back a p ha with h | ⟨_, rfl⟩
    · exact G.cur a p h
    · exact ⟨h0, hl⟩
  · intro a p ha hk
    rw [List.length_append, List.length_singleton]
    rcases back a p ha with h | ⟨_, rfl⟩
    · obtain ⟨s1, s2, s3⟩ := G.skip a p h hk
      refine ⟨s1, by omega, fun j p2 h2 h3 h4 => ?_⟩
      rcases back j p2 h4 with g | ⟨rfl, _⟩
      · exact s3 j p2 h2 h3 g
      · omega
    · exact absurd hk hq
theorem good_empty (e : Nat) (he : e ≤ 24) (last : Int) : Good [] (List.replicate (2 ^ (e + 1)) 0) last := by
  refine ⟨Or.inr ⟨e, List.length_replicate, he⟩, ?_, ?_, by simp, ?_, ?_, ?_, ?_, ?_, ?_⟩
  · intro x p hp
    have := List.eq_of_mem_replicate (List.mem_of_getElem? hp)
    subst this; simp
  · intro x y p hp _ hne
    exact absurd (List.eq_of_mem_replicate (List.mem_of_getElem? hp)) hne
  · simp
  all_goals (intros; simp at *)
theorem good_none (last : Int) : Good [] [] last := by
  refine ⟨Or.inl ⟨rfl, rfl⟩, ?_, ?_, by simp, rfl, ?_, ?_, ?_, ?_, ?_⟩
  all_goals (intros; simp at *)
theorem good_last {R : List Rw} {P : List Int} {last last' : Int} (G : Good R P last) (h : last ≤ last') : Good R P last' :=
  ⟨G.pw, G.rng, G.inj, G.full, G.zeros, G.probe, G.uniq, G.rise, fun i r hi => ⟨(G.cur i r hi).1, Int.le_trans (G.cur i r hi).2 h⟩, G.skip⟩
end Go.Proofs.Ytipdjjgpcmbpdaa.Ta
