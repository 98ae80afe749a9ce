/- What stays when blocks of some types turn; strings.Builder's methods so told. -/
import Derived.Test.YthjmlgbnpnfkgaaDoorBuild
import Derived.Laws.OwnMore
set_option linter.unusedVariables false
namespace Go.Proofs.YthjmlgbnpnfkgaaDoor
open Go.RowKit Go.ChangeShapes Go.WideShapes Go.ChangeAt

/-- A block of none of some types. -/
def NotIn (T : TypeId → Prop) (A : Obj) : Prop := ∀ cur t fr, A = .cells cur t fr → ¬ T t
/-- Only blocks of some types have turned, and none of the old ones. -/
structure Fr (T : TypeId → Prop) (B : Nat) (w w' : World) : Prop where
  b : Below B w w'
  block : ∀ (k : Nat) (A : Obj), w.heap[k]? = some A → NotIn T A → w'.heap[k]? = some A
theorem fr_refl (T : TypeId → Prop) (B : Nat) (w : World) : Fr T B w w := ⟨Below.refl _ _, fun _ _ h _ => h⟩
theorem fr_trans {T : TypeId → Prop} {B : Nat} {w W w' : World} (h1 : Fr T B w W) (h2 : Fr T B W w') : Fr T B w w' := ⟨h1.b.trans h2.b, fun k A h n => h2.block k A (h1.block k A h n) n⟩
theorem fr_below {T : TypeId → Prop} {B : Nat} {w w' : World} (h : Below w.heap.size w w') (hB : B ≤ w.heap.size) : Fr T B w w' := ⟨h.mono hB, fun k A hA _ => (h.block k (lt_of_block hA)).trans hA⟩
theorem fr_set {T : TypeId → Prop} {B : Nat} {w : World} {g o : Nat} {v : Value} {cur : Array Value} {t : TypeId} {fr : Nat × Nat} (h : w.heap[g]? = some (.cells cur t fr)) (ht : T t) (hB : B ≤ g) : Fr T B w (w.setCell ⟨g, o, none⟩ v) :=
  ⟨(Below.refl _ _).setCell hB v, fun k A hA hn => by
    have hne : ¬ g = k := by
      rintro rfl
      rw [h] at hA
      exact hn cur t fr (Option.some.inj hA).symm ht
    simp only [World.setCell, Array.getElem?_modify]
    rw [if_neg hne]; exact hA⟩
theorem fr_grown {T : TypeId → Prop} {B : Nat} {w w' : World} {row : Option Nat} (hg : w.grownBy w' row) (hB : B ≤ w.heap.size) (hr : ∀ k, row = some k → B ≤ k ∧ ∃ cur t fr, w.heap[k]? = some (.cells cur t fr) ∧ T t) : Fr T B w w' :=
  ⟨(Below.refl _ _).grown hg hB fun k hk => (hr k hk).1, fun k A hA hn => by
    refine (hg.block k (lt_of_block hA) fun e => ?_).trans hA
    obtain ⟨_, cur, t, fr, h, ht⟩ := hr k e.symm
    rw [h] at hA
    exact hn cur t fr (Option.some.inj hA).symm ht⟩
theorem fr_low {T : TypeId → Prop} {B B' : Nat} {w w' : World} (h : Fr T B w w') (hB : B' ≤ B) : Fr T B' w w' := ⟨h.b.mono hB, h.block⟩
theorem fr_drew {T : TypeId → Prop} {B : Nat} {w w' : World} (h : Fr T B w w') : Fr T B w w'.drew := ⟨h.b.drew, h.block⟩
theorem fr_alloc {T : TypeId → Prop} {B : Nat} {w0 w : World} (h : Fr T B w0 w) (hB : B ≤ w.heap.size) (o : Obj) : Fr T B w0 (w.alloc o) :=
  fr_trans h (fr_below ((Below.refl _ _).alloc (Nat.le_refl _) o) hB)
/-- A row of another type stays. -/
theorem own_fr {T : TypeId → Prop} {B B2 e size n : Nat} {v : Value} {w w' : World} {xs : List Value} (h : w.ownsRow B2 e size v n xs) (hf : Fr T B w w') (he : ¬ T e) : w'.ownsRow B2 e size v n xs := by
  refine ⟨h.1, ?_⟩
  rcases h.2 with h1 | ⟨g, c, cur, hv, hb, hg, rest⟩
  · exact Or.inl h1
  · exact Or.inr ⟨g, c, cur, hv, hb, hf.block g _ hg (fun cur' t fr e' => by simp only [Obj.cells.injEq] at e'; obtain ⟨_, rfl, _⟩ := e'; exact he), rest⟩
theorem row_of {B e size n : Nat} {v : Value} {w : World} {xs : List Value} (h : w.ownsRow B e size v n xs) : ∀ g, v.ownBlock = some g → B ≤ g ∧ ∃ cur, w.heap[g]? = some (.cells cur e (0, 0)) := by
  intro g x
  rcases h.2 with ⟨hv, _⟩ | ⟨g', c, cur, hv, hb, hg, _⟩
  · rw [hv] at x; cases x
  · rw [hv] at x; simp [Value.ownBlock] at x; subst x; exact ⟨hb, cur, hg⟩
def TU (t : TypeId) : Prop := t = 55 ∨ t = 5
theorem check_anyF (B b : Nat) (bs : List Value) (w : World) (h : Lib.IsBuilder 55 5 B b bs w) :
    Calls Tryd.prog 46 #[.pointer (some ⟨b, 0, none⟩)] w fun e w' => e = .returned (.tuple #[]) ∧ (Lib.BuilderAt 55 5 B b (.pointer (some ⟨b, 0, none⟩)) bs w' ∧ Fr TU B w w') := by
  rcases h with h | h
  · refine (check_fresh b w h.cell0 h.shape h.frozen0).mono ?_
    rintro e w' ⟨rfl, rfl⟩
    refine ⟨rfl, h.used _, ?_⟩
    obtain ⟨hB, v, hbk, _, _⟩ := h
    exact fr_set hbk (Or.inl rfl) hB
  · refine (check_used b w h.cell0).mono ?_
    rintro e w' ⟨rfl, rfl⟩
    exact ⟨rfl, h, fr_refl _ _ _⟩

set_option maxHeartbeats 2000000 in
set_option maxRecDepth 100000 in
theorem putByteF (B b : Nat) (bs : List Value) (c : Int) (w : World) (h : Lib.IsBuilder 55 5 B b bs w) (hlen : bs.length + 1 ≤ 140737488355328) (hBw : B ≤ w.heap.size) :
    Calls Tryd.prog 22 #[.pointer (some ⟨b, 0, none⟩), .int .u8 c] w fun e w' => e = .returned .nilIface ∧ (Lib.IsBuilder 55 5 B b (bs ++ [.int .u8 c]) w' ∧ Fr TU B w w') := by
  obtain ⟨i0, hi, hz0, hz1, hz2⟩ := info_parts A.info5
  go_enter Tryd.func22, Tryd.ntmps22
  go_wp2_with (go_at_call 46; refine (check_anyF B b bs _ h).mono ?_)
  rintro e w1 ⟨rfl, h1, hb1⟩
  have hb1F := hb1
  replace hb1 := hb1.b
  obtain ⟨hB, v, hbk, hown, hne⟩ := h1
  have c0 : w1.cell? ⟨b, 0, none⟩ = some (.pointer (some ⟨b, 0, none⟩)) := by rw [Lib.cell_of_heap hbk]; rfl
  have c1 : w1.cell? ⟨b, 1, none⟩ = some v := by rw [Lib.cell_of_heap hbk]; rfl
  have sz := hb1.size
  go_wp2_with (at_builtin; refine wpList_append_own _ rfl _ _ 53 rfl B 5 i0 (.int .u8 0) 1 1 Tryd.underlying53 hi hz0 hz1 hz2 rfl (by decide) _ _ _ rfl (hown.alloc _) ⟨w1.heap.size, 0, none⟩ 1 1 [.int .u8 c] rfl rfl ?c1 ?c2 ?c3 ?c4 ?c5 ?_)
  case c1 =>
    intro j u hj
    match j, hj with
    | 0, hj => simp at hj; subst hj; simp [Addr.add]
  case c2 => intro u hu; simp at hu; subst hu; rfl
  case c3 => unfold maxLen; omega
  case c4 => omega
  case c5 => simp; omega
  intro v' w2 hown' hgrow _
  have hlt : b < w1.heap.size := lt_of_block hbk
  have hb2 : w2.heap[b]? = some (.cells #[.pointer (some ⟨b, 0, none⟩), v] 55 (0, 0)) := by
    rw [hgrow.block b (by simp; omega) (fun e => hne e.symm), Below.heap_alloc w1 _ b hlt]
    exact hbk
  have d0 : w2.cell? ⟨b, 0, none⟩ = some (.pointer (some ⟨b, 0, none⟩)) := by rw [Lib.cell_of_heap hb2]; rfl
  have d1 : w2.cell? ⟨b, 1, none⟩ = some v := by rw [Lib.cell_of_heap hb2]; rfl
  have f1 : w2.frozen? ⟨b, 1, none⟩ = false := Lib.frozen_of_heap hb2 1
  obtain ⟨g, cap, rfl⟩ : ∃ g cap, v' = .slice (some ⟨g, 0, none⟩) (bs.length + 1) cap := by
    rcases hown'.2 with ⟨_, h0⟩ | ⟨g, cap, cur, hv, _⟩
    · omega
    · exact ⟨g, cap, hv⟩
  go_wp2
  go_ret
  refine ⟨rfl, .inr ?_, ?_⟩
  · exact Lib.BuilderAt.put (T := 55) (e := 5) hB hb2 (bs' := bs ++ [.int .u8 c]) (by simpa using hown') (by decide)
  · exact fr_trans (fr_trans (fr_alloc hb1F (by omega) _) (fr_grown hgrow (by simp; omega) (fun k hk => by obtain ⟨q1, cur, q2⟩ := row_of hown k hk; exact ⟨q1, cur, _, _, (Below.heap_alloc w1 _ k (lt_of_block q2)).trans q2, Or.inr rfl⟩))) (fr_set hb2 (Or.inl rfl) hB)

set_option maxHeartbeats 2000000 in
set_option maxRecDepth 100000 in
theorem putStringF (B b : Nat) (bs : List Value) (s : ByteArray) (w : World) (h : Lib.IsBuilder 55 5 B b bs w) (hlen : bs.length + s.size ≤ 140737488355328) (hBw : B ≤ w.heap.size) :
    Calls Tryd.prog 23 #[.pointer (some ⟨b, 0, none⟩), .string s] w fun e w' => e = .returned (.tuple #[.int .i64 s.size, .nilIface]) ∧ (Lib.IsBuilder 55 5 B b (bs ++ Lib.strCells s) w' ∧ Fr TU B w w') := by
  obtain ⟨i0, hi, hz0, hz1, hz2⟩ := info_parts A.info5
  go_enter Tryd.func23, Tryd.ntmps23
  go_wp2_with (go_at_call 46; refine (check_anyF B b bs _ h).mono ?_)
  rintro e w1 ⟨rfl, h1, hb1⟩
  have hb1F := hb1
  replace hb1 := hb1.b
  obtain ⟨hB, v, hbk, hown, hne⟩ := h1
  have c0 : w1.cell? ⟨b, 0, none⟩ = some (.pointer (some ⟨b, 0, none⟩)) := by rw [Lib.cell_of_heap hbk]; rfl
  have c1 : w1.cell? ⟨b, 1, none⟩ = some v := by rw [Lib.cell_of_heap hbk]; rfl
  have sz := hb1.size
  go_wp2_with (at_builtin; refine Lib.wpList_append_own_string _ rfl _ _ 53 9 rfl B 5 i0 Tryd.underlying53 Tryd.underlying9 hi hz0 hz1 hz2 _ _ _ rfl hown s rfl ?c3 ?c4 ?c5 ?_)
  case c3 => unfold maxLen; omega
  case c4 => omega
  case c5 => omega
  intro v' w2 hown' hgrow _
  have hlt : b < w1.heap.size := lt_of_block hbk
  have hb2 : w2.heap[b]? = some (.cells #[.pointer (some ⟨b, 0, none⟩), v] 55 (0, 0)) := by
    rw [hgrow.block b hlt (fun e => hne e.symm)]
    exact hbk
  have d0 : w2.cell? ⟨b, 0, none⟩ = some (.pointer (some ⟨b, 0, none⟩)) := by rw [Lib.cell_of_heap hb2]; rfl
  have d1 : w2.cell? ⟨b, 1, none⟩ = some v := by rw [Lib.cell_of_heap hb2]; rfl
  have f1 : w2.frozen? ⟨b, 1, none⟩ = false := Lib.frozen_of_heap hb2 1
  obtain ⟨ao, n', cap, rfl⟩ : ∃ ao n' cap, v' = .slice ao n' cap := by
    rcases hown'.2 with ⟨hv, _⟩ | ⟨g, cap, cur, hv, _⟩
    · exact ⟨_, _, _, hv⟩
    · exact ⟨_, _, _, hv⟩
  go_wp2
  go_ret2
  refine ⟨rfl, .inr ?_, ?_⟩
  · exact Lib.BuilderAt.put (T := 55) (e := 5) hB hb2 (bs' := bs ++ Lib.strCells s) (by simpa [Lib.strCells_length] using hown') (by decide)
  · exact fr_trans (fr_trans hb1F (fr_grown hgrow (by omega) (fun k hk => by obtain ⟨q1, cur, q2⟩ := row_of hown k hk; exact ⟨q1, cur, _, _, q2, Or.inr rfl⟩))) (fr_set hb2 (Or.inl rfl) hB)
end Go.Proofs.YthjmlgbnpnfkgaaDoor
