/- Trees that say the same but for where they stand: plain. -/
import Derived.Test.YtaonojimpfhkfaaAstN
namespace Go.Proofs.Ytaonojimpfhkfaa.As

/-- The same kinds, texts, numbers and kids. -/
def EqN (n m : Nd) : Prop := m.kind = n.kind ∧ m.text = n.text ∧ m.num = n.num ∧ m.kids = n.kids
def Sim (L U : List Nd) : Prop := U.length = L.length ∧ ∀ (j : Nat) (n : Nd), L[j]? = some n → ∃ m, U[j]? = some m ∧ EqN n m
theorem Sim.symm {L U : List Nd} (h : Sim L U) : Sim U L := by
  refine ⟨h.1.symm, fun j m hm => ?_⟩
  obtain ⟨n, hn⟩ := get_some (show j < L.length by have := get_lt hm; have := h.1; omega)
  obtain ⟨m', hm', e⟩ := h.2 j n hn
  rw [hm, Option.some.injEq] at hm'
  subst hm'
  exact ⟨n, hn, e.1.symm, e.2.1.symm, e.2.2.1.symm, e.2.2.2.symm⟩
theorem Sim.kindAt {L U : List Nd} (h : Sim L U) (i : Nat) : kindAt U i = kindAt L i := by
  unfold As.kindAt
  cases hn : L[i]? with
  | none =>
    rw [List.getElem?_eq_none (by have := List.getElem?_eq_none_iff.1 hn; have := h.1; omega)]
  | some n =>
    obtain ⟨m, hm, e⟩ := h.2 i n hn
    rw [hm]; exact e.1
theorem Sim.headKid {L U : List Nd} (h : Sim L U) (i : Nat) : headKid U i = headKid L i := by
  unfold As.headKid
  cases hn : L[i]? with
  | none =>
    rw [List.getElem?_eq_none (by have := List.getElem?_eq_none_iff.1 hn; have := h.1; omega)]
  | some n =>
    obtain ⟨m, hm, e⟩ := h.2 i n hn
    rw [hm]; simp only; rw [e.2.2.2]
theorem Sim.defs {L U : List Nd} (h : Sim L U) (cs : List Int) : defs U cs = defs L cs := by
  unfold As.defs
  congr 1
  congr 1
  funext x
  rw [h.headKid]
theorem Sim.goK {L U : List Nd} (h : Sim L U) (D : List Int) (i : Nat) : ∀ (cs : List Int) (K : List Bool) (d : Int) (ks : List Int), goK U D i cs K d ks = goK L D i cs K d ks
  | [], K, d, ks => rfl
  | x :: r, K, d, ks => by rw [As.goK, As.goK, h.kindAt, h.goK D i r, h.goK D i r]
theorem Sim.kidsB {L U : List Nd} (h : Sim L U) {n m : Nd} (e : EqN n m) (ks : List Int) : kidsB U m ks = kidsB L n ks := by
  obtain ⟨e1, e2, e3, e4⟩ := e
  unfold As.kidsB
  rw [e1, e4, h.defs]
  congr 1
  congr 1
  unfold exB
  rw [e1, e2, e3]
theorem Sim.nodC {P : Words} {L U : List Nd} (h : Sim L U) {D : List Int} {i : Nat} {n m : Nd} {K : List Bool} (e : EqN n m) (hl : 0 ≤ m.loc) (hc : (nodC P L D i n K).code = 0) : nodC P U D i m K = nodC P L D i n K := by
  have ha := (nodC_ok hc).1
  have hb : aloneB P m = aloneB P n := by
    rw [ha]
    unfold aloneB at ha ⊢
    obtain ⟨e1, e2, e3, _⟩ := e
    rw [e1, e2, e3]
    simp only [Bool.and_eq_true, decide_eq_true_eq] at ha ⊢
    exact ⟨ha.1, ha.2.1, hl, ha.2.2.2⟩
  unfold As.nodC
  rw [hb, e.2.2.2, h.goK, h.kidsB e]
theorem Sim.goC {P : Words} {L U : List Nd} (h : Sim L U) (hl : ∀ m ∈ U, 0 ≤ m.loc) : ∀ (rest rest' : List Nd) (i : Nat) (K : List Bool) (D : List Int), L.drop i = rest → U.drop i = rest' → (goC P L rest i K D).1 = 0 → goC P U rest' i K D = goC P L rest i K D
  | [], rest', i, K, D, hd, hd', hc => by
    have h1 := List.drop_eq_nil_iff.1 hd
    have h2 : rest' = [] := by rw [← hd']; exact List.drop_eq_nil_of_le (by have := h.1; omega)
    subst h2
    show endC U K = endC L K
    unfold endC
    rw [h.1, h.kindAt]
  | n :: r, rest', i, K, D, hd, hd', hc => by
    have hi : L[i]? = some n := by
      have := congrArg (fun l => l[0]?) hd
      simpa using this
    obtain ⟨m, hm, e⟩ := h.2 i n hi
    obtain rfl : rest' = m :: U.drop (i + 1) := by rw [← hd', drop_get hm]
    rw [As.goC] at hc
    by_cases hk : (As.nodC P L D i n K).code ≠ 0
    · rw [if_pos hk] at hc; exact absurd hc hk
    · have e2 := h.nodC (P := P) (D := D) (i := i) (K := K) e (hl m (List.mem_of_getElem? hm)) (by simpa using hk)
      rw [if_neg hk] at hc
      rw [As.goC, As.goC, e2, if_neg hk, if_neg hk]
      exact h.goC hl r _ (i + 1) _ _ (by rw [← List.tail_drop, hd]; rfl) rfl hc
theorem Sim.chk {P : Words} {L U : List Nd} (h : Sim L U) (hl : ∀ m ∈ U, 0 ≤ m.loc) (hc : (chk P L).1 = 0) : (chk P U).1 = 0 := by
  have h1 := chk_all hc
  unfold As.chk at hc ⊢
  rw [if_neg (by omega)] at hc
  rw [h.1, if_neg (by omega), h.goC hl L U 0 _ _ (List.drop_zero ..) (List.drop_zero ..) hc]
  exact hc
theorem zipB_self {P : Int → Int → Bool} : ∀ (xs : List Int), (∀ x ∈ xs, P x x = true) → zipB P xs xs = true
  | [], _ => rfl
  | x :: xs, h => by rw [zipB, h x (by simp), zipB_self xs (fun y hy => h y (by simp [hy]))]; rfl
theorem zipB_mem {P : Int → Int → Bool} : ∀ (xs : List Int), zipB P xs xs = true → ∀ x ∈ xs, P x x = true
  | x :: xs, h, y, hy => by
    rw [zipB, Bool.and_eq_true] at h
    rcases List.mem_cons.1 hy with rfl | hy
    · exact h.1
    · exact zipB_mem xs h.2 y hy
/-- Trees that say the same are alike. -/
theorem Sim.alk {L U : List Nd} (h : Sim L U) (hk : Kin L) : ∀ (f : Nat) (i : Int), -1 ≤ i → i < (L.length : Int) → i + 2 ≤ (f : Int) → alk L U f i i = true
  | 0, i, h1, _, h2 => by omega
  | f + 1, i, h1, h2, h3 => by
    by_cases hi : i = -1
    · rw [As.alk, if_pos (Or.inl hi)]; simp
    · obtain ⟨a, rfl⟩ : ∃ a : Nat, i = (a : Int) := ⟨i.toNat, by omega⟩
      obtain ⟨x, hx⟩ := get_some (show a < L.length by omega)
      obtain ⟨y, hy, e1, e2, e3, e4⟩ := h.2 a x hx
      rw [alk_some hx hy, e1, e2, e3, e4]
      simp only [decide_true, Bool.true_and]
      refine zipB_self _ fun p hp => ?_
      have := hk a x hx p hp
      exact h.alk hk f p this.1 (by omega) (by omega)
/-- Which nodes are kids of nodes so far. -/
theorem goK_marks {L : List Nd} {D : List Int} {i : Nat} : ∀ (cs : List Int) (K : List Bool) (d : Int) (ks : List Int) (j : Nat), (goK L D i cs K d ks).code = 0 → (goK L D i cs K d ks).kid[j]? = some true → K[j]? = some true ∨ (j : Int) ∈ cs
  | [], K, d, ks, j, _, h => Or.inl h
  | x :: r, K, d, ks, j, hc, h => by
    rw [goK] at hc h
    by_cases h1 : x < -1 ∨ (i : Int) ≤ x
    · rw [if_pos h1] at hc; simp at hc
    · rw [if_neg h1] at hc h
      by_cases h2 : x = -1
      · rw [if_pos h2] at hc h
        rcases goK_marks r _ _ _ j hc h with h | h
        · exact Or.inl h
        · exact Or.inr (List.mem_cons_of_mem _ h)
      · rw [if_neg h2] at hc h
        by_cases h3 : K[x.toNat]? = some true
        · rw [if_pos h3] at hc; simp at hc
        · rw [if_neg h3] at hc h
          rcases goK_marks r _ _ _ j hc h with h | h
          · rw [List.getElem?_set] at h
            by_cases hx : x.toNat = j
            · right
              rw [← hx]
              have : ((x.toNat : Nat) : Int) = x := by omega
              rw [this]
              exact List.mem_cons_self ..
            · rw [if_neg hx] at h; exact Or.inl h
          · exact Or.inr (List.mem_cons_of_mem _ h)
theorem goC_marks {P : Words} {L : List Nd} : ∀ (rest : List Nd) (i : Nat) (K : List Bool) (D : List Int), L.drop i = rest → i ≤ L.length → K.length = L.length → (goC P L rest i K D).1 = 0 → (∀ j : Nat, K[j]? = some true → ∃ (p : Nat) (n : Nd), L[p]? = some n ∧ (j : Int) ∈ n.kids) → ∀ j : Nat, j + 1 < L.length → ∃ (p : Nat) (n : Nd), L[p]? = some n ∧ (j : Int) ∈ n.kids
  | [], i, K, D, hd, hi, hK, hc, hm, j, hj => by
    refine hm j ?_
    have hc : (endC L K).1 = 0 := hc
    unfold endC at hc
    by_cases h1 : kindAt L (L.length - 1) ≠ 26
    · rw [if_pos h1] at hc; simp at hc
    · rw [if_neg h1] at hc
      cases hf : (K.take (L.length - 1)).findIdx? (· == false) with
      | some i => rw [hf] at hc; simp at hc
      | none =>
        rw [List.findIdx?_eq_none_iff] at hf
        obtain ⟨b, hb⟩ := get_some (show j < K.length by omega)
        have : b ∈ K.take (L.length - 1) := List.mem_of_getElem? (i := j) (by rw [List.getElem?_take, if_pos (by omega)]; exact hb)
        have := hf b this
        cases b
        · simp at this
        · exact hb
  | n :: r, i, K, D, hd, hi, hK, hc, hm, j, hj => by
    have hin : L[i]? = some n := by
      have := congrArg (fun l => l[0]?) hd
      simpa using this
    rw [goC] at hc
    by_cases hk : (nodC P L D i n K).code ≠ 0
    · rw [if_pos hk] at hc; exact absurd hc hk
    · rw [if_neg hk] at hc
      have hok := nodC_ok (by simpa using hk : (nodC P L D i n K).code = 0)
      refine goC_marks r (i + 1) _ _ (by rw [← List.tail_drop, hd]; rfl) (by have := get_lt hin; omega) (by rw [hok.2.2.2.2.2.2.1, goK_len]; exact hK) hc (fun q hq => ?_) j hj
      rw [hok.2.2.2.2.2.2.1] at hq
      rcases goK_marks _ _ _ _ q hok.2.1 hq with h | h
      · exact hm q h
      · exact ⟨i, n, hin, h⟩
theorem chk_parent {P : Words} {L : List Nd} (hc : (chk P L).1 = 0) (j : Nat) (hj : j + 1 < L.length) : ∃ (p : Nat) (n : Nd), L[p]? = some n ∧ (j : Int) ∈ n.kids ∧ j < p := by
  have hk := chk_kin hc
  have h1 := chk_all hc
  have hc' := hc
  unfold chk at hc'
  rw [if_neg (by omega)] at hc'
  obtain ⟨p, n, hn, hm⟩ := goC_marks L 0 _ [] (List.drop_zero ..) (Nat.zero_le _) (by simp) hc' (fun j hj => by
    rw [List.getElem?_replicate] at hj
    split at hj <;> simp at hj) j hj
  exact ⟨p, n, hn, hm, by have := hk p n hn _ hm; omega⟩
/-- From the whole's node all are met. -/
theorem alk_down {L V : List Nd} (hc : (chk PW L).1 = 0) (hl : V.length = L.length) (hk : ∀ (j : Nat) (n m : Nd), L[j]? = some n → V[j]? = some m → m.kids = n.kids) (f : Nat) (h : alk L V f ((L.length : Int) - 1) ((V.length : Int) - 1) = true) :
    ∀ d j : Nat, j + d + 1 = L.length → ∃ f', alk L V f' (j : Int) (j : Int) = true := by
  have h1 := chk_all hc
  intro d
  induction d using Nat.strongRecOn with
  | _ d ih =>
    intro j hj
    rcases Nat.eq_zero_or_pos d with h0 | h0
    · refine ⟨f, ?_⟩
      rw [hl] at h
      rw [show (L.length : Int) - 1 = (j : Int) by omega] at h
      exact h
    · obtain ⟨p, n, hn, hm, hp⟩ := chk_parent hc j (by omega)
      have hpl := get_lt hn
      obtain ⟨f', hf'⟩ := ih (L.length - 1 - p) (by omega) p (by omega)
      cases f' with
      | zero => simp [alk] at hf'
      | succ f' =>
        obtain ⟨m, hm'⟩ := get_some (show p < V.length by omega)
        rw [alk_some hn hm', hk p n m hn hm'] at hf'
        simp only [Bool.and_eq_true] at hf'
        exact ⟨f', zipB_mem _ hf'.2.2.2.2 _ hm⟩
/-- A node that is told otherwise tells two trees apart. -/
theorem alk_no {L V : List Nd} (hc : (chk PW L).1 = 0) (hl : V.length = L.length) (hk : ∀ (j : Nat) (n m : Nd), L[j]? = some n → V[j]? = some m → m.kids = n.kids) {a : Nat} {n m : Nd} (hn : L[a]? = some n) (hm : V[a]? = some m) (hne : ¬ (n.kind = m.kind ∧ n.text.toList = m.text.toList ∧ n.num = m.num)) (f : Nat) : alk L V f ((L.length : Int) - 1) ((V.length : Int) - 1) = false := by
  rw [← Bool.not_eq_true]
  intro h
  have ha := get_lt hn
  obtain ⟨f', hf'⟩ := alk_down hc hl hk f h (L.length - 1 - a) a (by omega)
  cases f' with
  | zero => simp [alk] at hf'
  | succ f' =>
    rw [alk_some hn hm] at hf'
    simp only [Bool.and_eq_true, decide_eq_true_eq] at hf'
    exact hne ⟨hf'.1, hf'.2.1, hf'.2.2.1⟩
end Go.Proofs.Ytaonojimpfhkfaa.As
