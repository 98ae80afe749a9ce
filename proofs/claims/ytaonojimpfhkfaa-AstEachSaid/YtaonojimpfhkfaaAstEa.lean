/- Of a tree that may be each node is met once: plain. -/
import Derived.Test.YtaonojimpfhkfaaAstU
namespace Go.Proofs.Ytaonojimpfhkfaa.As

theorem goK_once {L : List Nd} {D : List Int} {i : Nat} : ∀ (cs : List Int) (K : List Bool) (d : Int) (ks : List Int), i ≤ K.length → (goK L D i cs K d ks).code = 0 →
    cs.Pairwise (fun x y => 0 ≤ x → x ≠ y) ∧ (∀ x ∈ cs, 0 ≤ x → K[x.toNat]? ≠ some true) ∧ (∀ x ∈ cs, 0 ≤ x → (goK L D i cs K d ks).kid[x.toNat]? = some true) ∧ (∀ j : Nat, K[j]? = some true → (goK L D i cs K d ks).kid[j]? = some true) ∧ d ≤ (goK L D i cs K d ks).deep ∧ ∀ x ∈ cs, 0 ≤ x → D.getD x.toNat 0 + 1 ≤ (goK L D i cs K d ks).deep
  | [], K, d, ks, _, _ => ⟨List.Pairwise.nil, by simp, by simp, fun j h => h, Int.le_refl _, by simp⟩
  | x :: r, K, d, ks, hK, hc => by
    rw [goK] at hc ⊢
    by_cases h1 : x < -1 ∨ (i : Int) ≤ x
    · rw [if_pos h1] at hc; simp at hc
    · rw [if_neg h1] at hc ⊢
      by_cases h2 : x = -1
      · rw [if_pos h2] at hc ⊢
        obtain ⟨a1, a2, a3, a4, a5, a6⟩ := goK_once r _ _ _ hK hc
        refine ⟨List.pairwise_cons.2 ⟨fun y _ h => by omega, a1⟩, fun y hy h0 => ?_, fun y hy h0 => ?_, a4, a5, fun y hy h0 => ?_⟩
        all_goals
          rcases List.mem_cons.1 hy with rfl | hy
          · omega
        · exact a2 y hy h0
        · exact a3 y hy h0
        · exact a6 y hy h0
      · rw [if_neg h2] at hc ⊢
        by_cases h3 : K[x.toNat]? = some true
        · rw [if_pos h3] at hc; simp at hc
        · rw [if_neg h3] at hc ⊢
          obtain ⟨a1, a2, a3, a4, a5, a6⟩ := goK_once r _ _ _ (by rw [List.length_set]; exact hK) hc
          have hx : x.toNat < K.length := by omega
          have hs : (K.set x.toNat true)[x.toNat]? = some true := List.getElem?_set_self hx
          have hne : ∀ y ∈ r, 0 ≤ y → x ≠ y := fun y hy h0 e => by subst e; exact a2 x hy h0 hs
          refine ⟨List.pairwise_cons.2 ⟨fun y hy h => hne y hy |> fun f e => f (e ▸ h) e, a1⟩, fun y hy h0 => ?_, fun y hy h0 => ?_, fun j hj => a4 j ?_, by omega, fun y hy h0 => ?_⟩
          · rcases List.mem_cons.1 hy with rfl | hy
            · exact h3
            · have := a2 y hy h0
              rwa [List.getElem?_set_ne (by have := hne y hy h0; omega)] at this
          · rcases List.mem_cons.1 hy with rfl | hy
            · exact a4 _ hs
            · exact a3 y hy h0
          · by_cases hj' : x.toNat = j
            · subst hj'; exact hs
            · rw [List.getElem?_set_ne hj']; exact hj
          · rcases List.mem_cons.1 hy with rfl | hy
            · omega
            · exact a6 y hy h0
/-- Up to a node: one parent each, and how deep. -/
structure Upto (L : List Nd) (i : Nat) (D : List Int) : Prop where
  one : ∀ (p q : Nat) (n m : Nd) (x : Int), p < q → q < i → L[p]? = some n → L[q]? = some m → x ∈ n.kids → x ∈ m.kids → x < 0
  pw : ∀ (p : Nat) (n : Nd), p < i → L[p]? = some n → n.kids.Pairwise (fun x y => 0 ≤ x → x ≠ y)
  dp : ∀ (p : Nat) (n : Nd), p < i → L[p]? = some n → 0 ≤ D.getD p 0 ∧ D.getD p 0 ≤ 200 ∧ ∀ x ∈ n.kids, 0 ≤ x → D.getD x.toNat 0 + 1 ≤ D.getD p 0
theorem goC_upto {P : Words} {L : List Nd} (hKin : Kin L) : ∀ (rest : List Nd) (i : Nat) (K : List Bool) (D : List Int), L.drop i = rest → i ≤ L.length → K.length = L.length → D.length = i → (goC P L rest i K D).1 = 0 →
    (∀ (p : Nat) (n : Nd) (x : Int), p < i → L[p]? = some n → x ∈ n.kids → 0 ≤ x → K[x.toNat]? = some true) → Upto L i D → ∃ D', Upto L L.length D'
  | [], i, K, D, hd, hi, hK, hD, hc, hm, hu => by
    have := List.drop_eq_nil_iff.1 hd
    obtain rfl : i = L.length := by omega
    exact ⟨D, hu⟩
  | n :: r, i, K, D, hd, hi, hK, hD, hc, hm, hu => by
    have hin : L[i]? = some n := by
      have := congrArg (fun l => l[0]?) hd
      simpa using this
    have hil := get_lt hin
    rw [goC] at hc
    by_cases hk : (nodC P L D i n K).code ≠ 0
    · rw [if_pos hk] at hc; exact absurd hc hk
    · rw [if_neg hk] at hc
      have hok := nodC_ok (by simpa using hk : (nodC P L D i n K).code = 0)
      obtain ⟨a1, a2, a3, a4, a5, a6⟩ := goK_once n.kids K 0 [] (by omega) hok.2.1
      have hlow : ∀ x ∈ n.kids, x < (i : Int) := fun x hx => by rcases hok.2.2.2.1 x hx with h | h <;> omega
      have hg : ∀ j : Nat, j < i → (D ++ [(nodC P L D i n K).deep]).getD j 0 = D.getD j 0 := fun j hj => by
        rw [List.getD_eq_getElem?_getD, List.getD_eq_getElem?_getD, List.getElem?_append_left (by omega)]
      have hgi : (D ++ [(nodC P L D i n K).deep]).getD i 0 = (nodC P L D i n K).deep := by
        rw [List.getD_eq_getElem?_getD, List.getElem?_append_right (by omega), hD]; simp
      refine goC_upto hKin r (i + 1) _ _ (by rw [← List.tail_drop, hd]; rfl) (by omega) (by rw [hok.2.2.2.2.2.2.1, goK_len]; exact hK) (by simp [hD]) hc (fun p m x hp hpm hx h0 => ?_) ⟨fun p q m m' x hpq hq hpm hqm hx hx' => ?_, fun p m hp hpm => ?_, fun p m hp hpm => ?_⟩
      · rw [hok.2.2.2.2.2.2.1]
        by_cases hpi : p = i
        · subst hpi
          rw [hin, Option.some.injEq] at hpm
          subst hpm
          exact a3 x hx h0
        · exact a4 _ (hm p m x (by omega) hpm hx h0)
      · by_cases hqi : q = i
        · subst hqi
          rw [hin, Option.some.injEq] at hqm
          subst hqm
          rcases Int.lt_or_le x 0 with h | h
          · exact h
          · exact absurd (hm p m x hpq hpm hx h) (a2 x hx' h)
        · exact hu.one p q m m' x hpq (by omega) hpm hqm hx hx'
      · by_cases hpi : p = i
        · subst hpi
          rw [hin, Option.some.injEq] at hpm
          subst hpm
          exact a1
        · exact hu.pw p m (by omega) hpm
      · by_cases hpi : p = i
        · subst hpi
          rw [hin, Option.some.injEq] at hpm
          subst hpm
          rw [hgi]
          refine ⟨hok.2.2.2.2.2.1, hok.2.2.2.2.1, fun x hx h0 => ?_⟩
          rw [hg _ (by have := hlow x hx; omega), hok.2.2.2.2.2.2.2]
          exact a6 x hx h0
        · have := hu.dp p m (by omega) hpm
          rw [hg p (by omega)]
          refine ⟨this.1, this.2.1, fun x hx h0 => ?_⟩
          have h2 := this.2.2 x hx h0
          rw [hg _ (by have := (hKin p m hpm x hx).2; omega)]
          exact h2
/-- The nodes below a node, it ahead of them, from the front on. -/
def pre (L : List Nd) : Nat → Int → List Nat
  | 0, _ => []
  | f + 1, i => if i < 0 then [] else match L[i.toNat]? with
    | some n => i.toNat :: n.kids.flatMap (pre L f)
    | none => []
theorem pre_neg {L : List Nd} {f : Nat} {i : Int} (h : i < 0) : pre L f i = [] := by
  cases f with
  | zero => rfl
  | succ f => rw [pre, if_pos h]
theorem pre_some {L : List Nd} {f a : Nat} {n : Nd} (h : L[a]? = some n) : pre L (f + 1) (a : Int) = a :: n.kids.flatMap (pre L f) := by
  rw [pre, if_neg (by omega), Int.toNat_natCast, h]
theorem flat_congr {α β : Type} {l : List α} {f g : α → List β} (h : ∀ x ∈ l, f x = g x) : l.flatMap f = l.flatMap g := by
  rw [List.flatMap_def, List.flatMap_def, List.map_congr_left h]
theorem pre_fuel {L : List Nd} (hk : Kin L) : ∀ (f f' : Nat) (i : Int), i < (f : Int) → i < (f' : Int) → pre L f i = pre L f' i
  | 0, f', i, h, _ => by rw [pre_neg (by omega), pre_neg (by omega)]
  | f + 1, 0, i, _, h => by rw [pre_neg (by omega), pre_neg (by omega)]
  | f + 1, f' + 1, i, h, h' => by
    by_cases h0 : i < 0
    · rw [pre_neg h0, pre_neg h0]
    · obtain ⟨a, rfl⟩ : ∃ a : Nat, i = (a : Int) := ⟨i.toNat, by omega⟩
      cases hn : L[a]? with
      | none => rw [pre, pre, Int.toNat_natCast, hn]
      | some n =>
        rw [pre_some hn, pre_some hn, flat_congr (g := pre L f') fun x hx => pre_fuel hk f f' x (by have := (hk a n hn x hx).2; omega) (by have := (hk a n hn x hx).2; omega)]
inductive Dsc (L : List Nd) : Nat → Nat → Prop
  | rfl (a : Nat) : Dsc L a a
  | step {a p x : Nat} {n : Nd} : Dsc L a p → L[p]? = some n → (x : Int) ∈ n.kids → Dsc L a x
theorem Dsc.trans {L : List Nd} {a b x : Nat} (h : Dsc L a b) (h2 : Dsc L b x) : Dsc L a x := by
  induction h2 with
  | rfl => exact h
  | step _ hn hx ih => exact ih.step hn hx
theorem Dsc.le {L : List Nd} (hk : Kin L) {a x : Nat} (h : Dsc L a x) : x ≤ a := by
  induction h with
  | rfl => exact Nat.le_refl _
  | step _ hn hx ih => have := (hk _ _ hn _ hx).2; omega
theorem mem_pre {L : List Nd} : ∀ (f : Nat) (i : Int) (x : Nat), x ∈ pre L f i → 0 ≤ i ∧ Dsc L i.toNat x
  | 0, i, x, h => by simp [pre] at h
  | f + 1, i, x, h => by
    by_cases h0 : i < 0
    · rw [pre_neg h0] at h; simp at h
    · obtain ⟨a, rfl⟩ : ∃ a : Nat, i = (a : Int) := ⟨i.toNat, by omega⟩
      refine ⟨by omega, ?_⟩
      rw [Int.toNat_natCast]
      cases hn : L[a]? with
      | none => rw [pre, Int.toNat_natCast, hn] at h; simp at h
      | some n =>
        rw [pre_some hn] at h
        rcases List.mem_cons.1 h with rfl | h
        · exact .rfl _
        · obtain ⟨y, hy, hx⟩ := List.mem_flatMap.1 h
          obtain ⟨y0, hd⟩ := mem_pre f y x hx
          refine Dsc.trans ((Dsc.rfl a).step hn (x := y.toNat) ?_) hd
          rwa [show ((y.toNat : Nat) : Int) = y by omega]
theorem one_parent {L : List Nd} {D : List Int} (hu : Upto L L.length D) {p q : Nat} {n m : Nd} {x : Nat} (hp : L[p]? = some n) (hq : L[q]? = some m) (h1 : (x : Int) ∈ n.kids) (h2 : (x : Int) ∈ m.kids) : p = q := by
  rcases Nat.lt_trichotomy p q with h | h | h
  · have := hu.one p q n m x h (get_lt hq) hp hq h1 h2; omega
  · exact h
  · have := hu.one q p m n x h (get_lt hp) hq hp h2 h1; omega
theorem dsc_or {L : List Nd} {D : List Int} (hu : Upto L L.length D) {a x : Nat} (h : Dsc L a x) : ∀ b, Dsc L b x → Dsc L a b ∨ Dsc L b a := by
  induction h with
  | rfl => intro b hb; exact Or.inr hb
  | step hd hn hx ih =>
    intro b hb
    cases hb with
    | rfl => exact Or.inl (hd.step hn hx)
    | step hd' hn' hx' =>
      obtain rfl := one_parent hu hn hn' hx hx'
      exact ih b hd'
theorem dsc_kid {L : List Nd} {D : List Int} (hu : Upto L L.length D) (hk : Kin L) {q k1 k2 : Nat} {n : Nd} (hn : L[q]? = some n) (h1 : (k1 : Int) ∈ n.kids) (h2 : (k2 : Int) ∈ n.kids) (hne : k1 ≠ k2) : ¬ Dsc L k1 k2 := by
  intro h
  cases h with
  | rfl => exact hne rfl
  | step hd hn' hx' =>
    obtain rfl := one_parent hu hn hn' h2 hx'
    have := hd.le hk
    have := (hk _ _ hn _ h1).2
    omega
theorem dsc_apart {L : List Nd} {D : List Int} (hu : Upto L L.length D) (hk : Kin L) {q k1 k2 x : Nat} {n : Nd} (hn : L[q]? = some n) (h1 : (k1 : Int) ∈ n.kids) (h2 : (k2 : Int) ∈ n.kids) (hne : k1 ≠ k2) (hx1 : Dsc L k1 x) (hx2 : Dsc L k2 x) : False := by
  rcases dsc_or hu hx1 k2 hx2 with h | h
  · exact dsc_kid hu hk hn h1 h2 hne h
  · exact dsc_kid hu hk hn h2 h1 (Ne.symm hne) h
theorem nodup_flat {α β : Type} {g : α → List β} : ∀ {l : List α}, l.Pairwise (fun x y => ∀ z ∈ g x, z ∉ g y) → (∀ x ∈ l, (g x).Nodup) → (l.flatMap g).Nodup
  | [], _, _ => by simp
  | x :: r, hp, hn => by
    rw [List.flatMap_cons, List.nodup_append]
    obtain ⟨h1, h2⟩ := List.pairwise_cons.1 hp
    refine ⟨hn x (by simp), nodup_flat h2 fun y hy => hn y (by simp [hy]), fun a ha b hb => ?_⟩
    rintro rfl
    obtain ⟨y, hy, hay⟩ := List.mem_flatMap.1 hb
    exact h1 y hy a ha hay
theorem pre_nodup {L : List Nd} {D : List Int} (hu : Upto L L.length D) (hk : Kin L) : ∀ (f : Nat) (i : Int), (pre L f i).Nodup
  | 0, i => by simp [pre]
  | f + 1, i => by
    by_cases h0 : i < 0
    · rw [pre_neg h0]; simp
    · obtain ⟨a, rfl⟩ : ∃ a : Nat, i = (a : Int) := ⟨i.toNat, by omega⟩
      cases hn : L[a]? with
      | none => rw [pre, Int.toNat_natCast, hn]; simp
      | some n =>
        rw [pre_some hn, List.nodup_cons]
        constructor
        · intro h
          obtain ⟨y, hy, hx⟩ := List.mem_flatMap.1 h
          obtain ⟨y0, hd⟩ := mem_pre f y a hx
          have := hd.le hk
          have := (hk _ _ hn _ hy).2
          omega
        · refine nodup_flat (List.Pairwise.imp_of_mem (fun {x y} hx hy hne z hz hz' => ?_) (hu.pw a n (get_lt hn) hn)) fun x _ => pre_nodup hu hk f x
          obtain ⟨x0, hd⟩ := mem_pre f x z hz
          obtain ⟨y0, hd'⟩ := mem_pre f y z hz'
          have hxy := hne x0
          refine dsc_apart hu hk hn (k1 := x.toNat) (k2 := y.toNat) ?_ ?_ (by omega) hd hd'
          · rwa [show ((x.toNat : Nat) : Int) = x by omega]
          · rwa [show ((y.toNat : Nat) : Int) = y by omega]
/-- Where a node is met, all below it is. -/
theorem pre_split {L : List Nd} (hk : Kin L) : ∀ (f : Nat) (i : Int) (p : Nat) (n : Nd), i < (f : Int) → p ∈ pre L f i → L[p]? = some n → ∃ u v, pre L f i = u ++ (p :: n.kids.flatMap (pre L f)) ++ v
  | 0, i, p, n, _, h, _ => by simp [pre] at h
  | f + 1, i, p, n, hi, h, hp => by
    by_cases h0 : i < 0
    · rw [pre_neg h0] at h; simp at h
    · obtain ⟨a, rfl⟩ : ∃ a : Nat, i = (a : Int) := ⟨i.toNat, by omega⟩
      have hf : ∀ (q : Nat) (m : Nd), q ≤ a → L[q]? = some m → m.kids.flatMap (pre L f) = m.kids.flatMap (pre L (f + 1)) := fun q m hq hm => flat_congr fun x hx => pre_fuel hk f (f + 1) x (by have := (hk q m hm x hx).2; omega) (by have := (hk q m hm x hx).2; omega)
      cases hn : L[a]? with
      | none => rw [pre, Int.toNat_natCast, hn] at h; simp at h
      | some m =>
        rw [pre_some hn] at h ⊢
        rcases List.mem_cons.1 h with rfl | h
        · rw [hn, Option.some.injEq] at hp
          subst hp
          exact ⟨[], [], by rw [hf p _ (Nat.le_refl _) hn]; simp⟩
        · obtain ⟨y, hy, hx⟩ := List.mem_flatMap.1 h
          obtain ⟨y0, hd⟩ := mem_pre f y p hx
          have hya := (hk a m hn y hy).2
          obtain ⟨u, v, e⟩ := pre_split hk f y p n (by omega) hx hp
          obtain ⟨k1, k2, ek⟩ := List.append_of_mem hy
          refine ⟨a :: (k1.flatMap (pre L f) ++ u), v ++ k2.flatMap (pre L f), ?_⟩
          rw [← hf p n (by have := hd.le hk; omega) hp, ek, List.flatMap_append, List.flatMap_cons, e]
          simp
theorem pre_step {L : List Nd} (hk : Kin L) {f : Nat} {i : Int} {p j : Nat} {n : Nd} (hi : i < (f : Int)) (h : p ∈ pre L f i) (hn : L[p]? = some n) (hj : (j : Int) ∈ n.kids) : j ∈ pre L f i := by
  obtain ⟨u, v, e⟩ := pre_split hk f i p n hi h hn
  obtain ⟨x0, hd⟩ := mem_pre f i p h
  have hjp := (hk p n hn _ hj).2
  have := hd.le hk
  obtain ⟨f, rfl⟩ : ∃ f', f = f' + 1 := ⟨f - 1, by omega⟩
  obtain ⟨m, hm⟩ := get_some (show j < L.length by have := get_lt hn; omega)
  have hj2 : j ∈ pre L (f + 1) (j : Int) := by rw [pre_some hm]; simp
  rw [e]
  exact List.mem_append_left _ (List.mem_append_right _ (List.mem_cons_of_mem _ (List.mem_flatMap.2 ⟨_, hj, hj2⟩)))
theorem pre_all {L : List Nd} (hc : (chk PW L).1 = 0) : ∀ d j : Nat, j + d + 1 = L.length → j ∈ pre L L.length ((L.length : Int) - 1) := by
  have h1 := chk_all hc
  have hk := chk_kin hc
  intro d
  induction d using Nat.strongRecOn with
  | _ d ih =>
    intro j hj
    obtain ⟨m, hm⟩ := get_some (show j < L.length by omega)
    rcases Nat.eq_zero_or_pos d with h0 | h0
    · obtain ⟨f, hf⟩ : ∃ f, L.length = f + 1 := ⟨L.length - 1, by omega⟩
      rw [show (L.length : Int) - 1 = (j : Int) by omega, hf, pre_some hm]
      simp
    · obtain ⟨p, n, hn, hm', hp⟩ := chk_parent hc j (by omega)
      have hpl := get_lt hn
      exact pre_step hk (by omega) (ih (L.length - 1 - p) (by omega) p (by omega)) hn hm'
theorem chk_upto {P : Words} {L : List Nd} (hc : (chk P L).1 = 0) : ∃ D, Upto L L.length D := by
  have h1 := chk_all hc
  have hk := chk_kin hc
  unfold chk at hc
  rw [if_neg (by omega)] at hc
  exact goC_upto hk L 0 _ [] (List.drop_zero ..) (Nat.zero_le _) (by simp) rfl hc (fun p n x hp => by omega) ⟨fun p q n m x _ hq => by omega, fun p n hp => by omega, fun p n hp => by omega⟩
theorem pre_perm {L : List Nd} (hc : (chk PW L).1 = 0) : (pre L L.length ((L.length : Int) - 1)).Perm (List.range L.length) := by
  obtain ⟨D, hu⟩ := chk_upto hc
  have hk := chk_kin hc
  refine (List.perm_ext_iff_of_nodup (pre_nodup hu hk _ _) List.nodup_range).2 fun x => ?_
  rw [List.mem_range]
  constructor
  · intro h
    obtain ⟨h0, hd⟩ := mem_pre _ _ _ h
    have := hd.le hk
    omega
  · intro h
    exact pre_all hc (L.length - 1 - x) x (by omega)
end Go.Proofs.Ytaonojimpfhkfaa.As
