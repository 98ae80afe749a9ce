/- What a sink is in memory; what stays when blocks of some types turn; contracts of sink.New, Left, Len, Full, Text. -/
import Derived.Test.YtmlhknkeacpnhaaBase
import Derived.Test.YtmlhknkeacpnhaaShelf
import Derived.Lib.AppendStr
import Derived.Lib.UnsafeStr
import Derived.Laws.OwnMore
import Derived.Laws.AppendOwnNone
import Derived.BigRegion
set_option linter.unusedVariables false
namespace Go.Proofs.Ytmlhknkeacpnhaa.Sk
open Go.RowKit Go.ChangeShapes Go.WideShapes Go.ChangeAt

/-- A block of none of some types. -/
def NotIn (T : TypeId → Prop) (A : Obj) : Prop := ∀ cur t fr, A = .cells cur t fr → ¬ T t
/-- Only blocks of some types have turned, and none of the old ones. -/
structure Fr (T : TypeId → Prop) (B : Nat) (w w' : World) : Prop where
  b : Below B w w'
  block : ∀ (k : Nat) (A : Obj), w.heap[k]? = some A → NotIn T A → w'.heap[k]? = some A
theorem fr_refl (T : TypeId → Prop) (B : Nat) (w : World) : Fr T B w w := ⟨Below.refl _ _, fun _ _ h _ => h⟩
theorem fr_trans {T : TypeId → Prop} {B : Nat} {w W w' : World} (h1 : Fr T B w W) (h2 : Fr T B W w') : Fr T B w w' := ⟨h1.b.trans h2.b, fun k A h n => h2.block k A (h1.block k A h n) n⟩
theorem fr_below {T : TypeId → Prop} {B : Nat} {w w' : World} (h : Below w.heap.size w w') (hB : B ≤ w.heap.size) : Fr T B w w' := ⟨h.mono hB, fun k A hA _ => (h.block k (lt_of_block hA)).trans hA⟩
theorem fr_set {T : TypeId → Prop} {B : Nat} {w : World} {g o : Nat} {v : Value} {cur : Array Value} {t : TypeId} {fr : Nat × Nat} (h : w.heap[g]? = some (.cells cur t fr)) (ht : T t) (hB : B ≤ g) : Fr T B w (w.setCell ⟨g, o, none⟩ v) :=
  ⟨(Below.refl _ _).setCell hB v, fun k A hA hn => by
    have hne : ¬ g = k := by
      rintro rfl
      rw [h] at hA
      exact hn cur t fr (Option.some.inj hA).symm ht
    simp only [World.setCell, Array.getElem?_modify]
    rw [if_neg hne]; exact hA⟩
theorem fr_grown {T : TypeId → Prop} {B : Nat} {w w' : World} {row : Option Nat} (hg : w.grownBy w' row) (hB : B ≤ w.heap.size) (hr : ∀ k, row = some k → B ≤ k ∧ ∃ cur t fr, w.heap[k]? = some (.cells cur t fr) ∧ T t) : Fr T B w w' :=
  ⟨(Below.refl _ _).grown hg hB fun k hk => (hr k hk).1, fun k A hA hn => by
    refine (hg.block k (lt_of_block hA) fun e => ?_).trans hA
    obtain ⟨_, cur, t, fr, h, ht⟩ := hr k e.symm
    rw [h] at hA
    exact hn cur t fr (Option.some.inj hA).symm ht⟩
theorem fr_low {T : TypeId → Prop} {B B' : Nat} {w w' : World} (h : Fr T B w w') (hB : B' ≤ B) : Fr T B' w w' := ⟨h.b.mono hB, h.block⟩
theorem fr_drew {T : TypeId → Prop} {B : Nat} {w w' : World} (h : Fr T B w w') : Fr T B w w'.drew := ⟨h.b.drew, h.block⟩
theorem fr_alloc {T : TypeId → Prop} {B : Nat} {w0 w : World} (h : Fr T B w0 w) (hB : B ≤ w.heap.size) (o : Obj) : Fr T B w0 (w.alloc o) :=
  fr_trans h (fr_below ((Below.refl _ _).alloc (Nat.le_refl _) o) hB)
/-- A row of another type stays. -/
theorem own_fr {T : TypeId → Prop} {B B2 e size n : Nat} {v : Value} {w w' : World} {xs : List Value} (h : w.ownsRow B2 e size v n xs) (hf : Fr T B w w') (he : ¬ T e) : w'.ownsRow B2 e size v n xs := by
  refine ⟨h.1, ?_⟩
  rcases h.2 with h1 | ⟨g, c, cur, hv, hb, hg, rest⟩
  · exact Or.inl h1
  · exact Or.inr ⟨g, c, cur, hv, hb, hf.block g _ hg (fun cur' t fr e' => by simp only [Obj.cells.injEq] at e'; obtain ⟨_, rfl, _⟩ := e'; exact he), rest⟩
theorem row_of {B e size n : Nat} {v : Value} {w : World} {xs : List Value} (h : w.ownsRow B e size v n xs) : ∀ g, v.ownBlock = some g → B ≤ g ∧ ∃ cur, w.heap[g]? = some (.cells cur e (0, 0)) := by
  intro g x
  rcases h.2 with ⟨hv, _⟩ | ⟨g', c, cur, hv, hb, hg, _⟩
  · rw [hv] at x; cases x
  · rw [hv] at x; simp [Value.ownBlock] at x; subst x; exact ⟨hb, cur, hg⟩
theorem row_shape {B e size n : Nat} {v : Value} {w : World} {xs : List Value} (h : w.ownsRow B e size v n xs) : ∃ ad cap, v = .slice ad n cap := by
  rcases h.2 with ⟨rfl, rfl⟩ | ⟨g, cap, cur, rfl, _⟩
  · exact ⟨none, 0, rfl⟩
  · exact ⟨_, cap, rfl⟩
theorem row_below {B e size n : Nat} {v : Value} {w w' : World} {xs : List Value} (h : w.ownsRow B e size v n xs) (hb : Below w.heap.size w w') : w'.ownsRow B e size v n xs :=
  World.ownsRow.kept (row := none) h ⟨hb.os, hb.tape, hb.output, hb.size, fun k hk _ => hb.block k hk⟩ (Classical.em _)
theorem set_heap {w : World} {g o k : Nat} {v : Value} (h : k ≠ g) : (w.setCell ⟨g, o, none⟩ v).heap[k]? = w.heap[k]? := by
  simp only [World.setCell, Array.getElem?_modify]
  rw [if_neg (fun e => h e.symm)]
theorem keep {w w' : World} {g : Nat} {A : Obj} (h : w.heap[g]? = some A) (hb : Below w.heap.size w w') : w'.heap[g]? = some A := (hb.block _ (lt_of_block h)).trans h
theorem cell_below {B b i : Nat} {v : Value} {W W' : World} (h : Below B W W') (hb : b < B) (hc : W.cell? ⟨b, i, none⟩ = some v) : W'.cell? ⟨b, i, none⟩ = some v := by
  rw [← hc]
  exact World.cell?_of_block (h.block b hb)
theorem cell_of_row' {W : World} {b i : Nat} {cur : Array Value} {t : TypeId} {fr : Nat × Nat} (h : W.heap[b]? = some (.cells cur t fr)) : W.cell? ⟨b, i, none⟩ = cur[i]? := by
  simp [World.cell?, h]
theorem free_of {W : World} {b i : Nat} {cur : Array Value} {t : TypeId} (h : W.heap[b]? = some (.cells cur t (0, 0))) : W.frozen? ⟨b, i, none⟩ = false := by
  simp [World.frozen?, h]

/-- Texts that lie in memory as a slice's: in old memory, or in blocks of texts. -/
def StrS (B : Nat) (ad : Option Addr) (w : World) (L : List ByteArray) : Prop :=
  L = [] ∨ ∃ g o, ad = some ⟨g, o, none⟩ ∧ g < w.heap.size ∧ (g < B ∨ ∃ cur fr, w.heap[g]? = some (.cells cur 9 fr)) ∧ ∀ (j : Nat) (h : j < L.length), w.cell? ⟨g, o + j, none⟩ = some (.string L[j])
theorem strS_fr {T : TypeId → Prop} {B : Nat} {ad : Option Addr} {w w' : World} {L : List ByteArray} (h : StrS B ad w L) (hf : Fr T B w w') (he : ¬ T 9) : StrS B ad w' L := by
  rcases h with h | ⟨g, o, rfl, hg, hk, hc⟩
  · exact Or.inl h
  refine Or.inr ⟨g, o, rfl, Nat.lt_of_lt_of_le hg hf.b.size, ?_, fun j h => ?_⟩
  · rcases hk with hk | ⟨cur, fr, hk⟩
    · exact Or.inl hk
    · exact Or.inr ⟨cur, fr, hf.block g _ hk (fun cur' t fr e' => by simp only [Obj.cells.injEq] at e'; obtain ⟨_, rfl, _⟩ := e'; exact he)⟩
  · rw [← hc j h]
    refine World.cell?_of_block ?_
    rcases hk with hk | ⟨cur, fr, hk⟩
    · exact hf.b.block g hk
    · exact (hf.block g _ hk (fun cur' t fr e' => by simp only [Obj.cells.injEq] at e'; obtain ⟨_, rfl, _⟩ := e'; exact he)).trans hk.symm
theorem strS_at {B : Nat} {ad : Option Addr} {w : World} {L : List ByteArray} (h : StrS B ad w L) {k : Nat} (hk : k < L.length) : ∃ g o, ad = some ⟨g, o, none⟩ ∧ w.cell? ⟨g, o + k, none⟩ = some (.string L[k]) := by
  rcases h with rfl | ⟨g, o, rfl, _, _, hc⟩
  · simp at hk
  · exact ⟨g, o, rfl, hc k hk⟩

def TS (t : TypeId) : Prop := t = 51 ∨ t = 5
theorem ts_str : ¬ TS 9 := by unfold TS; decide
/-- A sink: what was printed, its limit, whether it is full. -/
structure IsS (B b : Nat) (w : World) (t : List UInt8) (lim : Int) (full : Bool) : Prop where
  ex : ∃ ad cap, w.heap[b]? = some (.cells #[.slice ad t.length cap, .int .i64 lim, .bool full] 51 (0, 0)) ∧ w.ownsRow B 5 1 (.slice ad t.length cap) t.length (Lib.byteCells t)
  low : B ≤ b
theorem isS_below {B b : Nat} {w w' : World} {t : List UInt8} {lim : Int} {full : Bool} (h : IsS B b w t lim full) (hb : Below w.heap.size w w') : IsS B b w' t lim full := by
  obtain ⟨⟨ad, cap, h1, h2⟩, h3⟩ := h
  exact ⟨⟨ad, cap, keep h1 hb, row_below h2 hb⟩, h3⟩
theorem isS_lt {B b : Nat} {w : World} {t : List UInt8} {lim : Int} {full : Bool} (h : IsS B b w t lim full) : b < w.heap.size := by
  obtain ⟨⟨ad, cap, h1, h2⟩, h3⟩ := h
  exact lt_of_block h1
theorem three {w : World} {g : Nat} {x0 x1 x2 : Value} {t : TypeId} (h : w.heap[g]? = some (.cells #[x0, x1, x2] t (0, 0))) :
    w.cell? ⟨g, 0, none⟩ = some x0 ∧ w.cell? ⟨g, 1, none⟩ = some x1 ∧ w.cell? ⟨g, 2, none⟩ = some x2 ∧ w.frozen? ⟨g, 0, none⟩ = false ∧ w.frozen? ⟨g, 1, none⟩ = false ∧ w.frozen? ⟨g, 2, none⟩ = false :=
  ⟨cell_of_row' h, cell_of_row' h, cell_of_row' h, free_of h, free_of h, free_of h⟩

set_option maxRecDepth 100000 in
theorem new_any (lim : Int) (w : World) : Calls Try.prog 10 #[.int .i64 lim] w fun e w' => e = .returned (.pointer (some ⟨w.heap.size, 0, none⟩)) ∧ IsS w.heap.size w.heap.size w' [] (max lim 0) false ∧ Below w.heap.size w w' := by
  have hA := heap_alloc_new w (.cells #[.slice none 0 0, .int .i64 (max lim 0), .bool false] 51)
  have HE := Lib.hid ((Below.refl w.heap.size w).alloc (Nat.le_refl _) (.cells #[.slice none 0 0, .int .i64 (max lim 0), .bool false] 51))
  have HS : Hid (IsS w.heap.size w.heap.size (w.alloc (.cells #[.slice none 0 0, .int .i64 (max lim 0), .bool false] 51)) [] (max lim 0) false) := ⟨⟨none, 0, hA, World.ownsRow_nil _ _ _ _⟩, Nat.le_refl _⟩
  clear hA
  go_enter Try.func10, Try.ntmps10
  go_wp2_with fail
  go_ret
  exact ⟨rfl, HS.out, HE.out⟩
set_option maxRecDepth 100000 in
theorem left_any {B b : Nat} {w : World} {t : List UInt8} {lim : Nat} {full : Bool} (ht : t.length ≤ lim) (hl : lim ≤ 9223372036854775807) (h : IsS B b w t lim full) : Calls Try.prog 15 #[.pointer (some ⟨b, 0, none⟩)] w fun e w' => e = .returned (.int .i64 ((lim - t.length : Nat) : Int)) ∧ Below w.heap.size w w' := by
  obtain ⟨⟨ad, cap, h1, h2⟩, h3⟩ := h
  obtain ⟨c0, c1, c2, z0, z1, z2⟩ := three h1
  have e : ((lim - t.length : Nat) : Int) = (lim : Int) - t.length := by omega
  rw [e]
  clear h1 h2 e
  go_enter Try.func15, Try.ntmps15
  go_wp2_with fail
  go_quiet (fail)
  go_wp2_with fail
  go_ret
  exact ⟨ret_i64 (by first | rfl | (unfold wrap64; omega) | skip), below_drewN (Below.refl _ _) _⟩
set_option maxRecDepth 100000 in
theorem slen_any {B b : Nat} {w : World} {t : List UInt8} {lim : Int} {full : Bool} (h : IsS B b w t lim full) : Calls Try.prog 13 #[.pointer (some ⟨b, 0, none⟩)] w fun e w' => e = .returned (.int .i64 (t.length : Int)) ∧ w = w' := by
  obtain ⟨⟨ad, cap, h1, h2⟩, h3⟩ := h
  obtain ⟨c0, c1, c2, z0, z1, z2⟩ := three h1
  clear h1 h2
  go_enter Try.func13, Try.ntmps13
  go_wp2_with fail
  go_ret
  exact ⟨rfl, rfl⟩
set_option maxRecDepth 100000 in
theorem full_any {B b : Nat} {w : World} {t : List UInt8} {lim : Int} {full : Bool} (h : IsS B b w t lim full) : Calls Try.prog 14 #[.pointer (some ⟨b, 0, none⟩)] w fun e w' => e = .returned (.bool full) ∧ w = w' := by
  obtain ⟨⟨ad, cap, h1, h2⟩, h3⟩ := h
  obtain ⟨c0, c1, c2, z0, z1, z2⟩ := three h1
  clear h1 h2
  go_enter Try.func14, Try.ntmps14
  go_wp2_with fail
  go_ret
  exact ⟨rfl, rfl⟩
theorem conv_own {B n : Nat} {ad : Option Addr} {cap : Nat} {w : World} {t : List UInt8} (hn : n = t.length) (h : w.ownsRow B 5 1 (.slice ad n cap) n (Lib.byteCells t)) :
    (convert 42 9 (.slice ad n cap)).run Try.prog w = .ok (.string ⟨t.toArray⟩) w := by
  subst hn
  have hs := h
  rcases h.2 with ⟨hv, h0⟩ | ⟨g, c, cur, hv, hb, hg, _⟩
  · simp only [Value.slice.injEq] at hv
    obtain ⟨rfl, _, rfl⟩ := hv
    obtain rfl : t = [] := List.eq_nil_of_length_eq_zero h0
    have := run_convert_bytes_nil (P := Try.prog) (w := w) 42 5 Try.underlying42 Try.underlying5
    exact this 0 0 9 Try.underlying9
  · simp only [Value.slice.injEq] at hv
    obtain ⟨rfl, _, rfl⟩ := hv
    exact run_convert_bytes_back (P := Try.prog) w 42 9 5 ⟨g, 0, none⟩ _ t Try.underlying42 Try.underlying5 Try.underlying9 (fun j hj => World.ownsRow.cells hs rfl j _ (by simp [Lib.byteCells, hj]))
set_option maxRecDepth 100000 in
theorem text_any {B b : Nat} {w : World} {t : List UInt8} {lim : Int} {full : Bool} (h : IsS B b w t lim full) : Calls Try.prog 12 #[.pointer (some ⟨b, 0, none⟩)] w fun e w' => e = .returned (.string ⟨t.toArray⟩) ∧ w = w' := by
  obtain ⟨⟨ad, cap, h1, h2⟩, h3⟩ := h
  obtain ⟨c0, c1, c2, z0, z1, z2⟩ := three h1
  have HC := Lib.hid (conv_own rfl h2)
  clear h1 h2
  go_enter Try.func12, Try.ntmps12
  go_wp2_with (refine wpList_convert_run rfl 42 9 (.tmp 6) rfl _ rfl HC.out ?_)
  go_ret
  exact ⟨rfl, rfl⟩
end Go.Proofs.Ytmlhknkeacpnhaa.Sk
