/- Trees in memory: rows of numbers, nodes, rows of nodes. -/
import Derived.Test.YtaonojimpfhkfaaAst0
import Derived.Test.YtaonojimpfhkfaaBase
import Derived.Deep.Slices
import Derived.Deep.Draws
import Derived.Laws.OwnMore
namespace Go.Proofs.Ytaonojimpfhkfaa.As
open Go.RowKit Go.ChangeShapes Go.WideShapes Go.ChangeAt

theorem lt_of_block {w : World} {g : Nat} {o : Obj} (h : w.heap[g]? = some o) : g < w.heap.size := by
  rcases Nat.lt_or_ge g w.heap.size with h1 | h1
  · exact h1
  · rw [Array.getElem?_eq_none h1] at h; cases h
theorem get_some {α : Type} {L : List α} {i : Nat} (h : i < L.length) : ∃ x, L[i]? = some x := ⟨L[i], List.getElem?_eq_getElem h⟩
theorem get_lt {α : Type} {L : List α} {i : Nat} {x : α} (h : L[i]? = some x) : i < L.length := (List.getElem?_eq_some_iff.1 h).1

/-- A row of numbers below block 'B'. -/
def RowI (w : World) (B : Nat) (A : Option Addr) (L : List Int) : Prop :=
  L = [] ∨ ∃ g o, A = some ⟨g, o, none⟩ ∧ g < B ∧ ∀ (j : Nat) (x : Int), L[j]? = some x → w.cell? ⟨g, o + j, none⟩ = some (.int .i64 x)
theorem RowI.keep {w w' : World} {B B' : Nat} {A : Option Addr} {L : List Int} (h : RowI w B A L) (hB : B ≤ B') (hk : ∀ b, b < B → w'.heap[b]? = w.heap[b]?) : RowI w' B' A L := by
  rcases h with h | ⟨g, o, e, hg, h⟩
  · exact Or.inl h
  · exact Or.inr ⟨g, o, e, by omega, fun j x hx => (World.cell?_of_block (hk g hg)).trans (h j x hx)⟩
theorem RowI.below {w w' : World} {B B' C : Nat} {A : Option Addr} {L : List Int} (h : RowI w B A L) (hb : Below C w w') (hC : B ≤ C) (hB : B ≤ B') : RowI w' B' A L :=
  h.keep hB fun b hb' => hb.block b (by omega)
theorem RowI.at_ {w : World} {B : Nat} {A : Option Addr} {L : List Int} {j : Nat} {x : Int} (h : RowI w B A L) (hx : L[j]? = some x) :
    ∃ g o, A = some ⟨g, o, none⟩ ∧ g < B ∧ w.cell? ⟨g, o + j, none⟩ = some (.int .i64 x) := by
  rcases h with rfl | ⟨g, o, e, hg, h⟩
  · simp at hx
  · exact ⟨g, o, e, hg, h j x hx⟩

def kv (n : Nd) : Value := .slice n.ka n.kids.length n.kc
def nv (n : Nd) : Value := .agg #[.int .i64 n.kind, .int .i64 n.loc, .string n.text, .int .i64 n.num, .slice n.ka n.kids.length n.kc]
/-- A node at a place. -/
structure AtN (w : World) (B g o : Nat) (n : Nd) : Prop where
  k : w.cell? ⟨g, o, none⟩ = some (.int .i64 n.kind)
  l : w.cell? ⟨g, o + 1, none⟩ = some (.int .i64 n.loc)
  t : w.cell? ⟨g, o + 2, none⟩ = some (.string n.text)
  m : w.cell? ⟨g, o + 3, none⟩ = some (.int .i64 n.num)
  s : w.cell? ⟨g, o + 4, none⟩ = some (.slice n.ka n.kids.length n.kc)
  r : RowI w B n.ka n.kids
theorem AtN.keep {w w' : World} {B B' g o : Nat} {n : Nd} (h : AtN w B g o n) (hg : g < B) (hB : B ≤ B') (hk : ∀ b, b < B → w'.heap[b]? = w.heap[b]?) : AtN w' B' g o n :=
  ⟨(World.cell?_of_block (hk g hg)).trans h.k, (World.cell?_of_block (hk g hg)).trans h.l, (World.cell?_of_block (hk g hg)).trans h.t, (World.cell?_of_block (hk g hg)).trans h.m, (World.cell?_of_block (hk g hg)).trans h.s, h.r.keep hB hk⟩
/-- A row of nodes below block 'B'. -/
def Tr (w : World) (B : Nat) (A : Option Addr) (L : List Nd) : Prop :=
  L = [] ∨ ∃ g o, A = some ⟨g, o, none⟩ ∧ g < B ∧ ∀ (j : Nat) (n : Nd), L[j]? = some n → AtN w B g (o + j * 5) n
theorem Tr.keep {w w' : World} {B B' : Nat} {A : Option Addr} {L : List Nd} (h : Tr w B A L) (hB : B ≤ B') (hk : ∀ b, b < B → w'.heap[b]? = w.heap[b]?) : Tr w' B' A L := by
  rcases h with h | ⟨g, o, e, hg, h⟩
  · exact Or.inl h
  · exact Or.inr ⟨g, o, e, by omega, fun j n hn => (h j n hn).keep hg hB hk⟩
theorem Tr.below {w w' : World} {B B' C : Nat} {A : Option Addr} {L : List Nd} (h : Tr w B A L) (hb : Below C w w') (hC : B ≤ C) (hB : B ≤ B') : Tr w' B' A L :=
  h.keep hB fun b hb' => hb.block b (by omega)
theorem Tr.at_ {w : World} {B : Nat} {A : Option Addr} {L : List Nd} {j : Nat} {n : Nd} (h : Tr w B A L) (hn : L[j]? = some n) :
    ∃ g o, A = some ⟨g, o, none⟩ ∧ g < B ∧ AtN w B g (o + j * 5) n := by
  rcases h with rfl | ⟨g, o, e, hg, h⟩
  · simp at hn
  · exact ⟨g, o, e, hg, h j n hn⟩
/-- Sizes. -/
def Szd (L : List Nd) : Prop := L.length ≤ 1000000 ∧ ∀ n ∈ L, n.text.size ≤ 1000000 ∧ n.kids.length ≤ 1000000 ∧ n.kids.length ≤ n.kc
theorem bcell {W w1 : World} {B : Nat} (hb : Below B W w1) : ∀ b o, b < B → w1.cell? ⟨b, o, none⟩ = W.cell? ⟨b, o, none⟩ :=
  fun b o h => hb.cell (p := ⟨b, o, none⟩) h
end Go.Proofs.Ytaonojimpfhkfaa.As
