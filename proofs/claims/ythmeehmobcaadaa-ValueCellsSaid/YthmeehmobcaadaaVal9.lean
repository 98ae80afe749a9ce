/- What the laws over values share: one or two values that may be; drawn regions whose calls lay blocks. -/
import Derived.Test.YthmeehmobcaadaaVal8
namespace Go.Proofs.Ythmeehmobcaadaa.Va
open Go.RowKit Go.ChangeShapes Go.WideShapes Go.ChangeAt

structure BelowBy (B : Nat) (W : World) where
  x : World
  h : Below B W x
instance (B : Nat) (W : World) : Inhabited (BelowBy B W) := ⟨⟨W, Below.refl _ _⟩⟩
theorem wp_region_quiet_below {P : Program} {id : Nat} {Q : Exit → Act → World → Prop} {a : Act} {w : World} {l : List Oper} (hm : P.follows .mixedOrders = true) (hB : Region.lexB .any l.toArray = true)
    (h : wpQuiet P l.toArray (fun w' => ∃ p : BelowBy w.heap.size w, w' = p.x) (fun a' => ∀ w', (∃ p : BelowBy w.heap.size w, w' = p.x) → Q .normal a' w') l a) : (Code.region id l.toArray true).wp P Q a w :=
  wp_region_quiet (C := fun w' => ∃ p : BelowBy w.heap.size w, w' = p.x) hm hB ⟨⟨w.drew, (Below.refl _ _).drew⟩, rfl⟩ (by simpa using h)
theorem Calls.below_of {P : Program} {f : FuncId} {args : Array Value} {W : World} {p : BelowBy W.heap.size W} {v : Value}
    (h : Calls P f args p.x fun e w' => e = .returned v ∧ Below p.x.heap.size p.x w') : Calls P f args p.x fun e w'' => e = .returned v ∧ ∃ p : BelowBy W.heap.size W, w'' = p.x :=
  h.mono fun _ w' ⟨he, hb⟩ => ⟨he, ⟨w', p.h.trans (hb.mono p.h.size)⟩, rfl⟩
theorem three_below {w : World} {g : Nat} {x y z : Value} {t : TypeId} (h : w.heap[g]? = some (.cells #[x, y, z] t)) :
    (∀ p : BelowBy w.heap.size w, p.x.cell? ⟨g, 0, none⟩ = some x) ∧ (∀ p : BelowBy w.heap.size w, p.x.cell? ⟨g, 1, none⟩ = some y) ∧ (∀ p : BelowBy w.heap.size w, p.x.cell? ⟨g, 2, none⟩ = some z) :=
  ⟨fun p => (three_facts (keep h p.h)).1, fun p => (three_facts (keep h p.h)).2.1, fun p => (three_facts (keep h p.h)).2.2.1⟩

theorem right_one (k n : Int) (s : ByteArray) (t : TypeId) (w : World) :
    Calls Try.prog 14 #[.slice (some ⟨w.heap.size, 0, none⟩) 1 1] (w.alloc (.cells #[.int .i64 k, .int .i64 n, .string s] t)) fun e w' => e = .returned (.bool (okB k n s)) ∧ Below w.heap.size w w' := by
  have hw : (w.alloc (.cells #[.int .i64 k, .int .i64 n, .string s] t)).heap[w.heap.size]? = some (.cells #[.int .i64 k, .int .i64 n, .string s] t (0, 0)) := heap_alloc_new w _
  refine (right_any w.heap.size 0 1 1 (fun _ => k) (fun _ => n) (fun _ => s) _ (lt_of_block hw) (by omega) ?_).mono ?_
  · intro i hi
    match i, hi with
    | 0, _ => exact ⟨by rw [cell_of_row _ _ _ _ _ _ hw]; rfl, by rw [cell_of_row _ _ _ _ _ _ hw]; rfl, by rw [cell_of_row _ _ _ _ _ _ hw]; rfl⟩
  · rintro e w' ⟨rfl, hb⟩
    exact ⟨by simp [okAll], (box1 hb).2⟩
theorem right_two (k n k' n' : Int) (s s' : ByteArray) (t : TypeId) (w : World) :
    Calls Try.prog 14 #[.slice (some ⟨w.heap.size, 0, none⟩) 2 2] (w.alloc (.cells #[.int .i64 k, .int .i64 n, .string s, .int .i64 k', .int .i64 n', .string s'] t)) fun e w' => e = .returned (.bool (okB k n s && okB k' n' s')) ∧ Below w.heap.size w w' := by
  have hw : (w.alloc (.cells #[.int .i64 k, .int .i64 n, .string s, .int .i64 k', .int .i64 n', .string s'] t)).heap[w.heap.size]? = some (.cells #[.int .i64 k, .int .i64 n, .string s, .int .i64 k', .int .i64 n', .string s'] t (0, 0)) := heap_alloc_new w _
  refine (right_any w.heap.size 0 2 2 (fun i => if i = 0 then k else k') (fun i => if i = 0 then n else n') (fun i => if i = 0 then s else s') _ (lt_of_block hw) (by omega) ?_).mono ?_
  · intro i hi
    match i, hi with
    | 0, _ => exact ⟨by rw [cell_of_row _ _ _ _ _ _ hw]; rfl, by rw [cell_of_row _ _ _ _ _ _ hw]; rfl, by rw [cell_of_row _ _ _ _ _ _ hw]; rfl⟩
    | 1, _ => exact ⟨by rw [cell_of_row _ _ _ _ _ _ hw]; rfl, by rw [cell_of_row _ _ _ _ _ _ hw]; rfl, by rw [cell_of_row _ _ _ _ _ _ hw]; rfl⟩
  · rintro e w' ⟨rfl, hb⟩
    exact ⟨by simp [okAll], (box1 hb).2⟩

theorem empty_of {s : ByteArray} (h : s.size = 0) : s = ⟨#[]⟩ := bytes_ext (by rw [no_list s h])
structure Right (k n : Int) (s : ByteArray) : Prop where
  k0 : 0 ≤ k
  k4 : k ≤ 4
  sz : s.size ≤ 1000
  f0 : k = 0 → n = 0
  f1 : k = 1 → n = 0 ∨ n = 1
  f3 : k = 3 → n = 0
  f4 : k = 4 → 0 ≤ n
  em : ¬ k = 3 → s = ⟨#[]⟩
theorem ok_right {k n : Int} {s : ByteArray} (h : okB k n s = true) : Right k n s := by
  unfold okB at h
  rw [Bool.and_eq_true] at h
  obtain ⟨h, hs⟩ := h
  have h := of_decide_eq_true h
  have hs := of_decide_eq_true hs
  unfold chk at h
  by_cases hk : k < 0 ∨ 4 < k
  · rw [if_pos hk] at h; exact absurd h (by decide)
  · rw [if_neg hk] at h
    by_cases hc : (k ≠ 3 ∧ s.size ≠ 0) ∨ fit k n = false
    · rw [if_pos hc] at h; exact absurd h (by decide)
    · rw [not_or, Bool.not_eq_false] at hc
      obtain ⟨h1, h2⟩ := hc
      refine ⟨by omega, by omega, hs, ?_, ?_, ?_, ?_, ?_⟩
      · rintro rfl; simpa [fit] using h2
      · rintro rfl; simpa [fit] using h2
      · rintro rfl; simpa [fit] using h2
      · rintro rfl; simpa [fit] using h2
      · intro h3; exact empty_of (by omega)
end Go.Proofs.Ythmeehmobcaadaa.Va
