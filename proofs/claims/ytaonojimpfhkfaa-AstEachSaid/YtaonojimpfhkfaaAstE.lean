/- A node and its kids: the plain facts, and stores into a check. -/
import Derived.Test.YtaonojimpfhkfaaAstD
namespace Go.Proofs.Ytaonojimpfhkfaa.As
open Go.RowKit Go.ChangeShapes Go.WideShapes Go.ChangeAt

/-- A kid's kind; none: 0. -/
def kk (L : List Nd) (x : Int) : Int := if x = -1 then 0 else kindAt L x.toNat
theorem goK_kinds (L : List Nd) (D : List Int) (i : Nat) : ∀ (cs : List Int) (K : List Bool) (d : Int) (ks : List Int), (goK L D i cs K d ks).code = 0 →
    (goK L D i cs K d ks).kinds = ks ++ cs.map (kk L) ∧ ∀ x ∈ cs, x = -1 ∨ (0 ≤ x ∧ x < (i : Int))
  | [], K, d, ks, _ => by simp [goK]
  | x :: r, K, d, ks, h => by
    rw [goK] at h ⊢
    by_cases h1 : x < -1 ∨ (i : Int) ≤ x
    · rw [if_pos h1] at h; simp at h
    · rw [if_neg h1] at h ⊢
      by_cases h2 : x = -1
      · rw [if_pos h2] at h ⊢
        obtain ⟨a, b⟩ := goK_kinds L D i r K d (ks ++ [0]) h
        refine ⟨by rw [a]; simp [kk, h2], fun y hy => ?_⟩
        rcases List.mem_cons.1 hy with rfl | hy
        · exact Or.inl h2
        · exact b y hy
      · rw [if_neg h2] at h ⊢
        by_cases h3 : K[x.toNat]? = some true
        · rw [if_pos h3] at h; simp at h
        · rw [if_neg h3] at h ⊢
          obtain ⟨a, b⟩ := goK_kinds L D i r (K.set x.toNat true) (max d (D.getD x.toNat 0 + 1)) (ks ++ [kindAt L x.toNat]) h
          refine ⟨by rw [a]; simp [kk, h2], fun y hy => ?_⟩
          rcases List.mem_cons.1 hy with rfl | hy
          · exact Or.inr (by omega)
          · exact b y hy
theorem goK_len (L : List Nd) (D : List Int) (i : Nat) : ∀ (cs : List Int) (K : List Bool) (d : Int) (ks : List Int), (goK L D i cs K d ks).kid.length = K.length
  | [], K, d, ks => rfl
  | x :: r, K, d, ks => by
    rw [goK]
    split
    · rfl
    · split
      · exact goK_len L D i r K d _
      · split
        · rfl
        · rw [goK_len L D i r _ _ _, List.length_set]
theorem blk_ne {w : World} {g g' : Nat} {cs cs' : Array Value} {t t' : TypeId} {f f' : Nat × Nat} (h : w.heap[g]? = some (.cells cs t f)) (h' : w.heap[g']? = some (.cells cs' t' f')) (hne : t ≠ t') : g ≠ g' := by
  rintro rfl
  rw [h] at h'
  simp only [Option.some.injEq, Obj.cells.injEq] at h'
  exact hne h'.2.1
theorem blk_far {w : World} {g : Nat} {o : Obj} (h : w.heap[g]? = some o) {p : Addr} (hp : g ≠ p.block) (u : Value) : (w.setCell p u).heap[g]? = some o := (Below.heap_setCell w p u g hp).trans h
theorem Ck.setk {B cb kb db cap : Nat} {A : Option Addr} {w : World} {L : List Nd} {K : List Bool} {D : List Int} (h : Ck B cb kb db A cap w L K D) (x : Nat) :
    Ck B cb kb db A cap (w.setCell ⟨kb, x, none⟩ (.bool true)) L (K.set x true) D := by
  refine ⟨?_, ?_, ?_, h.bc, h.bk, h.bd, h.t.keep (Nat.le_refl _) fun b hb => Below.heap_setCell w _ _ b (by have := h.bk; simp; omega)⟩
  · rw [List.length_set]; exact blk_far h.c (blk_ne h.c h.k (by decide)) _
  · rw [heap_setCell_same w kb x _ _ _ h.k]
    simp [List.map_set]
  · exact blk_far h.d (blk_ne h.d h.k (by decide)) _
theorem Ck.setd {B cb kb db cap : Nat} {A : Option Addr} {w : World} {L : List Nd} {K : List Bool} {D : List Int} (h : Ck B cb kb db A cap w L K D) (x : Nat) (v : Int) :
    Ck B cb kb db A cap (w.setCell ⟨db, x, none⟩ (.int .i64 v)) L K (D.set x v) := by
  refine ⟨?_, ?_, ?_, h.bc, h.bk, h.bd, h.t.keep (Nat.le_refl _) fun b hb => Below.heap_setCell w _ _ b (by have := h.bd; simp; omega)⟩
  · rw [List.length_set]; exact blk_far h.c (blk_ne h.c h.d (by decide)) _
  · exact blk_far h.k (blk_ne h.k h.d (by decide)) _
  · rw [heap_setCell_same w db x _ _ _ h.d]
    simp [List.map_set]
theorem Ck.far {B cb kb db cap q x : Nat} {A : Option Addr} {w : World} {L : List Nd} {K : List Bool} {D : List Int} (h : Ck B cb kb db A cap w L K D) (v : Value) (h1 : q ≠ cb) (h2 : q ≠ kb) (h3 : q ≠ db) (h4 : B ≤ q) :
    Ck B cb kb db A cap (w.setCell ⟨q, x, none⟩ v) L K D :=
  ⟨blk_far h.c (Ne.symm h1) _, blk_far h.k (Ne.symm h2) _, blk_far h.d (Ne.symm h3) _, h.bc, h.bk, h.bd, h.t.keep (Nat.le_refl _) fun b hb => Below.heap_setCell w _ _ b (by simp; omega)⟩
theorem Ck.cellk {B cb kb db cap : Nat} {A : Option Addr} {w : World} {L : List Nd} {K : List Bool} {D : List Int} (h : Ck B cb kb db A cap w L K D) {x : Nat} {b : Bool} (hx : K[x]? = some b) : w.cell? ⟨kb, x, none⟩ = some (.bool b) := by
  rw [cell_of_row _ _ _ _ _ _ h.k]; simp [hx]
theorem Ck.celld {B cb kb db cap : Nat} {A : Option Addr} {w : World} {L : List Nd} {K : List Bool} {D : List Int} (h : Ck B cb kb db A cap w L K D) {x : Nat} {b : Int} (hx : D[x]? = some b) : w.cell? ⟨db, x, none⟩ = some (.int .i64 b) := by
  rw [cell_of_row _ _ _ _ _ _ h.d]; simp [hx]
theorem get_mid {α : Type} (D : List α) (x : α) (r : List α) : (D ++ x :: r)[D.length]? = some x := by simp
theorem set_mid {α : Type} (D : List α) (x y : α) (r : List α) : (D ++ x :: r).set D.length y = D ++ y :: r := by simp
theorem get_front {D r : List Int} {x : Int} {j : Nat} (h : j < D.length) : (D ++ x :: r)[j]? = some (D.getD j 0) := by
  rw [List.getElem?_append_left h, List.getD_eq_getElem?_getD, List.getElem?_eq_getElem h]; rfl
end Go.Proofs.Ytaonojimpfhkfaa.As
