/- Boxes: blocks that hold a value; blocks kept; value.Same; drawn regions whose calls lay blocks. -/
import Derived.Test.YtipdjjgpcmbpdaaVal2
import Derived.BigQuiet
namespace Go.Proofs.Ytipdjjgpcmbpdaa.Va
open Go.RowKit Go.ChangeShapes Go.WideShapes Go.ChangeAt

theorem keep {w w' : World} {g : Nat} {A : Obj} (h : w.heap[g]? = some A) (hb : Below w.heap.size w w') : w'.heap[g]? = some A := (hb.block _ (lt_of_block h)).trans h
theorem bne_yes {a b : Int} (h : ¬ a = b) : (a != b) = true := by rw [bne_iff_ne]; exact h
theorem cell_below {B b i : Nat} {v : Value} {W W' : World} (h : Below B W W') (hb : b < B) (hc : W.cell? ⟨b, i, none⟩ = some v) : W'.cell? ⟨b, i, none⟩ = some v := by
  rw [← hc]
  exact World.cell?_of_block (h.block b hb)
theorem box1 {w w1 : World} {A : Obj} (hb : Below (w.alloc A).heap.size (w.alloc A) w1) : w1.heap[w.heap.size]? = some A ∧ Below w.heap.size w w1 :=
  ⟨(hb.block _ (by simp)).trans (heap_alloc_new w _), ((Below.refl _ _).alloc (Nat.le_refl _) _).trans (hb.mono (by simp))⟩
theorem box2 {w w1 : World} {A B : Obj} (hb : Below ((w.alloc A).alloc B).heap.size ((w.alloc A).alloc B) w1) : w1.heap[w.heap.size]? = some A ∧ w1.heap[w.heap.size + 1]? = some B ∧ Below w.heap.size w w1 := by
  have h1 := box1 (w := w.alloc A) hb
  have e : (w.alloc A).heap.size = w.heap.size + 1 := by simp
  have h2 := box1 (w := w) (w1 := w1) (A := A) (by rw [e] at h1 ⊢; exact h1.2)
  rw [e] at h1
  exact ⟨h2.1, h1.1, h2.2⟩
theorem box3 {w w1 : World} {A B C : Obj} (hb : Below (((w.alloc A).alloc B).alloc C).heap.size (((w.alloc A).alloc B).alloc C) w1) : w1.heap[w.heap.size]? = some A ∧ w1.heap[w.heap.size + 1]? = some B ∧ w1.heap[w.heap.size + 1 + 1]? = some C ∧ Below w.heap.size w w1 := by
  have h1 := box2 (w := w.alloc A) hb
  have e : (w.alloc A).heap.size = w.heap.size + 1 := by simp
  have h2 := box1 (w := w) (w1 := w1) (A := A) (by rw [e] at h1 ⊢; exact h1.2.2)
  rw [e] at h1
  exact ⟨h2.1, h1.1, h1.2.1, h2.2⟩
theorem below_two {w : World} (A B : Obj) : Below w.heap.size w ((w.alloc A).alloc B) := ((Below.refl _ _).alloc (Nat.le_refl _) _).alloc (by simp) _
theorem below_three {w : World} (A B C : Obj) : Below w.heap.size w (((w.alloc A).alloc B).alloc C) := (below_two A B).alloc (by simp; omega) _

theorem same_yes (k n : Int) (s : ByteArray) (w : World) : Calls Try.prog 79 #[.agg #[.int .i64 k, .int .i64 n, .string s], .agg #[.int .i64 k, .int .i64 n, .string s]] w fun e w' => e = .returned (.bool true) ∧ Below w.heap.size w w' := by
  go_enter Try.func79, Try.ntmps79
  go_wp2_with fail
  go_ret
  exact ⟨rfl, below_two _ _⟩
theorem list_inj {a b : ByteArray} (h : a.toList = b.toList) : a = b := by rw [ByteArray.toList_eq, ByteArray.toList_eq] at h; exact bytes_ext h
theorem same_no (k n k' n' : Int) (s s' : ByteArray) (h : ¬ (k = k' ∧ n = n' ∧ s = s')) (w : World) : Calls Try.prog 79 #[.agg #[.int .i64 k, .int .i64 n, .string s], .agg #[.int .i64 k', .int .i64 n', .string s']] w fun e w' => e = .returned (.bool false) ∧ Below w.heap.size w w' := by
  by_cases h1 : k = k'
  · by_cases h2 : n = n'
    · have h3 : ¬ s.toList = s'.toList := fun e => h ⟨h1, h2, list_inj e⟩
      subst h1; subst h2
      clear h
      go_enter Try.func79, Try.ntmps79
      go_wp2_with fail
      go_ret
      exact ⟨rfl, below_two _ _⟩
    · subst h1
      clear h
      go_enter Try.func79, Try.ntmps79
      go_wp2_with fail
      go_ret
      exact ⟨rfl, below_two _ _⟩
  · clear h
    go_enter Try.func79, Try.ntmps79
    go_wp2_with fail
    go_ret
    exact ⟨rfl, below_two _ _⟩
def alike (k n k' n' : Int) (s s' : ByteArray) : Bool := decide (k = k' ∧ n = n' ∧ s = s')
theorem same_any (k n k' n' : Int) (s s' : ByteArray) (w : World) : Calls Try.prog 79 #[.agg #[.int .i64 k, .int .i64 n, .string s], .agg #[.int .i64 k', .int .i64 n', .string s']] w fun e w' => e = .returned (.bool (alike k n k' n' s s')) ∧ Below w.heap.size w w' := by
  unfold alike
  by_cases h : k = k' ∧ n = n' ∧ s = s'
  · rw [decide_eq_true h]
    obtain ⟨rfl, rfl, rfl⟩ := h
    exact same_yes _ _ _ _
  · rw [decide_eq_false h]
    exact same_no _ _ _ _ _ _ h _

structure BelowBy (B : Nat) (W : World) where
  x : World
  h : Below B W x
instance (B : Nat) (W : World) : Inhabited (BelowBy B W) := ⟨⟨W, Below.refl _ _⟩⟩
theorem wp_region_quiet_below {P : Program} {id : Nat} {Q : Exit → Act → World → Prop} {a : Act} {w : World} {l : List Oper} (hm : P.follows .mixedOrders = true) (hB : Region.lexB .any l.toArray = true)
    (h : wpQuiet P l.toArray (fun w' => ∃ p : BelowBy w.heap.size w, w' = p.x) (fun a' => ∀ w', (∃ p : BelowBy w.heap.size w, w' = p.x) → Q .normal a' w') l a) : (Code.region id l.toArray true).wp P Q a w :=
  wp_region_quiet (C := fun w' => ∃ p : BelowBy w.heap.size w, w' = p.x) hm hB ⟨⟨w.drew, (Below.refl _ _).drew⟩, rfl⟩ (by simpa using h)
theorem Calls.below_of {P : Program} {f : FuncId} {args : Array Value} {W : World} {p : BelowBy W.heap.size W} {v : Value}
    (h : Calls P f args p.x fun e w' => e = .returned v ∧ Below p.x.heap.size p.x w') : Calls P f args p.x fun e w'' => e = .returned v ∧ ∃ p : BelowBy W.heap.size W, w'' = p.x :=
  h.mono fun _ w' ⟨he, hb⟩ => ⟨he, ⟨w', p.h.trans (hb.mono p.h.size)⟩, rfl⟩
theorem three_below {w : World} {g : Nat} {x y z : Value} {t : TypeId} (h : w.heap[g]? = some (.cells #[x, y, z] t)) :
    (∀ p : BelowBy w.heap.size w, p.x.cell? ⟨g, 0, none⟩ = some x) ∧ (∀ p : BelowBy w.heap.size w, p.x.cell? ⟨g, 1, none⟩ = some y) ∧ (∀ p : BelowBy w.heap.size w, p.x.cell? ⟨g, 2, none⟩ = some z) :=
  ⟨fun p => (three_facts (keep h p.h)).1, fun p => (three_facts (keep h p.h)).2.1, fun p => (three_facts (keep h p.h)).2.2.1⟩

end Go.Proofs.Ytipdjjgpcmbpdaa.Va
