/- Rows of values that a list owns; contracts of list.own, New, Len, has, place, Get. -/
import Derived.Test.YtipdjjgpcmbpdaaValCells
import Derived.Laws.AppendOwnNone
import Derived.Laws.OwnMore
namespace Go.Proofs.Ytipdjjgpcmbpdaa.Li
open Go.RowKit Go.ChangeShapes Go.WideShapes Go.ChangeAt Go.Proofs.Ytipdjjgpcmbpdaa.Va

/-- A value: kind, number, text. -/
def cel (e : Int × Int × ByteArray) : List Value := [.int .i64 e.1, .int .i64 e.2.1, .string e.2.2]
def flat (L : List (Int × Int × ByteArray)) : List Value := L.flatMap cel
theorem flat_nil : flat [] = [] := rfl
theorem flat_cons (e : Int × Int × ByteArray) (L : List (Int × Int × ByteArray)) : flat (e :: L) = cel e ++ flat L := rfl
theorem flat_append (L M : List (Int × Int × ByteArray)) : flat (L ++ M) = flat L ++ flat M := List.flatMap_append ..
theorem flat_len : ∀ L : List (Int × Int × ByteArray), (flat L).length = L.length * 3
  | [] => rfl
  | e :: L => by rw [flat_cons, List.length_append, flat_len L]; simp [cel]; omega
theorem flat_one (e : Int × Int × ByteArray) : flat [e] = cel e := by simp [flat]
theorem flat_cells : ∀ (L : List (Int × Int × ByteArray)), ∀ u ∈ flat L, u.oneCell' = true
  | [], u, h => by simp [flat] at h
  | e :: L, u, h => by
    rw [flat_cons, List.mem_append] at h
    rcases h with h | h
    · simp [cel] at h
      rcases h with rfl | rfl | rfl <;> rfl
    · exact flat_cells L u h
theorem flat_at : ∀ (L : List (Int × Int × ByteArray)) (i : Nat) (h : i < L.length), (flat L)[i * 3]? = some (.int .i64 (L[i]).1) ∧ (flat L)[i * 3 + 1]? = some (.int .i64 (L[i]).2.1) ∧ (flat L)[i * 3 + 2]? = some (.string (L[i]).2.2)
  | [], i, h => by simp at h
  | e :: L, 0, _ => by simp [flat_cons, cel]
  | e :: L, i + 1, h => by
    have ih := flat_at L i (by simpa using h)
    rw [flat_cons, show (i + 1) * 3 = i * 3 + 3 by omega]
    refine ⟨?_, ?_, ?_⟩
    · rw [List.getElem?_append_right (by simp [cel])]; simpa [cel] using ih.1
    · rw [show i * 3 + 3 + 1 = i * 3 + 1 + 3 by omega, List.getElem?_append_right (by simp [cel])]; simpa [cel] using ih.2.1
    · rw [show i * 3 + 3 + 2 = i * 3 + 2 + 3 by omega, List.getElem?_append_right (by simp [cel])]; simpa [cel] using ih.2.2

theorem A.infoE : (Try.prog.info? 30).map (fun i => (i.zero, i.size, i.bytes)) = some (some (.agg #[.int .i64 0, .int .i64 0, .string ⟨#[]⟩]), 3, 32) := by kernel_rfl
/-- A slice of values that its own block holds. -/
def Own (B : Nat) (ad : Option Addr) (cap : Nat) (w : World) (L : List (Int × Int × ByteArray)) : Prop := w.ownsRow B 30 3 (.slice ad L.length cap) L.length (flat L)
theorem own_shape {B n : Nat} {v : Value} {w : World} {xs : List Value} (h : w.ownsRow B 30 3 v n xs) : ∃ ad cap, v = .slice ad n cap := by
  rcases h.2 with ⟨rfl, rfl⟩ | ⟨g, cap, cur, rfl, _⟩
  · exact ⟨none, 0, rfl⟩
  · exact ⟨_, cap, rfl⟩
theorem own_some {B : Nat} {ad : Option Addr} {cap : Nat} {w : World} {L : List (Int × Int × ByteArray)} (h : Own B ad cap w L) (h0 : 0 < L.length) :
    ∃ g, ad = some ⟨g, 0, none⟩ ∧ B ≤ g ∧ g < w.heap.size := by
  rcases h.2 with ⟨_, e⟩ | ⟨g, cap', cur, hv, hB, hg, _⟩
  · omega
  · simp only [Value.slice.injEq] at hv
    exact ⟨g, hv.1, hB, lt_of_block hg⟩
theorem own_at {B g cap : Nat} {w : World} {L : List (Int × Int × ByteArray)} (h : Own B (some ⟨g, 0, none⟩) cap w L) (i : Nat) (hi : i < L.length) :
    w.cell? ⟨g, i * 3, none⟩ = some (.int .i64 (L[i]).1) ∧ w.cell? ⟨g, i * 3 + 1, none⟩ = some (.int .i64 (L[i]).2.1) ∧ w.cell? ⟨g, i * 3 + 2, none⟩ = some (.string (L[i]).2.2) := by
  obtain ⟨h1, h2, h3⟩ := flat_at L i hi
  exact ⟨(World.ownsRow.cellAt (n := L.length) (size := 3) h (i * 3) (by omega)).trans h1, (World.ownsRow.cellAt (n := L.length) (size := 3) h (i * 3 + 1) (by omega)).trans h2, (World.ownsRow.cellAt (n := L.length) (size := 3) h (i * 3 + 2) (by omega)).trans h3⟩
theorem own_below {B : Nat} {ad : Option Addr} {cap : Nat} {w w' : World} {L : List (Int × Int × ByteArray)} (h : Own B ad cap w L) (hb : Below w.heap.size w w') : Own B ad cap w' L :=
  World.ownsRow.kept (row := none) h ⟨hb.os, hb.tape, hb.output, hb.size, fun k hk _ => hb.block k hk⟩ (Classical.em _)
/-- A list: a block that holds the slice. -/
structure IsL (B b : Nat) (ad : Option Addr) (cap : Nat) (w : World) (L : List (Int × Int × ByteArray)) : Prop where
  blk : w.heap[b]? = some (.cells #[.slice ad L.length cap] 120 (0, 0))
  low : B ≤ b
  own : Own B ad cap w L
theorem isL_below {B b : Nat} {ad : Option Addr} {cap : Nat} {w w' : World} {L : List (Int × Int × ByteArray)} (h : IsL B b ad cap w L) (hb : Below w.heap.size w w') : IsL B b ad cap w' L :=
  ⟨(hb.block _ (lt_of_block h.blk)).trans h.blk, h.low, own_below h.own hb⟩
theorem isL_mono {B B' b : Nat} {ad : Option Addr} {cap : Nat} {w : World} {L : List (Int × Int × ByteArray)} (h : IsL B b ad cap w L) (hB : B' ≤ B) : IsL B' b ad cap w L := by
  refine ⟨h.blk, by have := h.low; omega, h.own.1, ?_⟩
  rcases h.own.2 with h1 | ⟨g, c, cur, hv, hb, rest⟩
  · exact Or.inl h1
  · exact Or.inr ⟨g, c, cur, hv, by omega, rest⟩
theorem isL_cell {B b : Nat} {ad : Option Addr} {cap : Nat} {w : World} {L : List (Int × Int × ByteArray)} (h : IsL B b ad cap w L) : w.cell? ⟨b, 0, none⟩ = some (.slice ad L.length cap) ∧ w.frozen? ⟨b, 0, none⟩ = false :=
  ⟨cell_of_one h.blk, free_of_one h.blk⟩

/-- Values that lie in memory as a slice's. -/
def Src (ad : Option Addr) (w : World) (M : List (Int × Int × ByteArray)) : Prop := M = [] ∨ ∃ a, ad = some a ∧ ∀ j u, (flat M)[j]? = some u → w.cell? (a.add j) = some u

set_option maxRecDepth 100000 in
theorem own_any (ad : Option Addr) (cap : Nat) (M : List (Int × Int × ByteArray)) (w : World) (hm : M.length ≤ 2000000) (hs : Src ad w M) :
    Calls Try.prog 74 #[.slice ad M.length cap] w fun e w' => ∃ ad' cap', e = .returned (.slice ad' M.length cap') ∧ Own w.heap.size ad' cap' w' M ∧ Below w.heap.size w w' := by
  obtain ⟨i0, hi, hz0, hz1, hz2⟩ := info_parts A.infoE
  have hn0 := World.ownsRow_nil w w.heap.size 30 3
  by_cases hnone : ad = none
  · subst hnone
    have hM : M = [] := by
      rcases hs with h | ⟨a, h, _⟩
      · exact h
      · cases h
    subst hM
    go_enter Try.func74, Try.ntmps74
    go_wp2_with fail
    go_ret
    exact ⟨none, 0, rfl, hn0, Below.refl _ _⟩
  · obtain ⟨a, rfl⟩ := Option.ne_none_iff_exists'.1 hnone
    have hcl : ∀ j u, (flat M)[j]? = some u → w.cell? (a.add j) = some u := by
      rcases hs with rfl | ⟨a', e, h⟩
      · intro j u h; simp [flat] at h
      · cases e; exact h
    clear hs hnone
    have HCL := Lib.hid hcl
    clear hcl
    go_enter Try.func74, Try.ntmps74
    go_wp2_with (at_builtin; refine wpList_append_own _ rfl _ _ 74 rfl w.heap.size 30 i0 (.agg #[.int .i64 0, .int .i64 0, .string ⟨#[]⟩]) 3 32 Try.underlying74 hi hz0 hz1 hz2 rfl (by decide) (.slice none 0 0) 0 [] rfl hn0 a M.length cap (flat M) rfl (flat_len M) HCL.out (flat_cells M) ?c3 ?c4 ?c5 ?_)
    case c3 => unfold maxLen; omega
    case c4 => omega
    case c5 => exact Nat.le_refl _
    intro v' w4 hown' hgrow _
    obtain ⟨ad', cap', rfl⟩ := own_shape hown'
    go_wp2_with fail
    go_ret
    refine ⟨ad', cap', rfl, hown', (Below.refl _ _).grown hgrow (Nat.le_refl _) (fun k hk => by cases hk)⟩

set_option maxRecDepth 100000 in
theorem new_any (ad : Option Addr) (cap : Nat) (M : List (Int × Int × ByteArray)) (w : World) (hm : M.length ≤ 2000000) (hs : Src ad w M) :
    Calls Try.prog 42 #[.slice ad M.length cap] w fun e w' => ∃ b ad' cap', e = .returned (.pointer (some ⟨b, 0, none⟩)) ∧ IsL w.heap.size b ad' cap' w' M ∧ Below w.heap.size w w' := by
  have HO := Lib.hid (own_any ad cap M w hm hs)
  clear hs
  go_enter Try.func42, Try.ntmps42
  go_wp2_with fail
  refine HO.out.mono ?_
  rintro e w1 ⟨ad', cap', rfl, ho, hb⟩
  have HO' := Lib.hid ho
  clear ho
  go_wp2_with fail
  go_ret
  exact ⟨w1.heap.size, ad', cap', rfl, ⟨heap_alloc_new w1 _, hb.size, own_below HO'.out ((Below.refl _ _).alloc (Nat.le_refl _) _)⟩, hb.alloc hb.size _⟩
def placed (a n : Int) : Int := if a < 0 then wrap64 (a + n) else a
/-- A value as one. -/
def agg (e : Int × Int × ByteArray) : Value := .agg #[.int .i64 e.1, .int .i64 e.2.1, .string e.2.2]
/-- The first place of a value. -/
def findN (v : Int × Int × ByteArray) : List (Int × Int × ByteArray) → Nat → Int
  | [], _ => -1
  | x :: L, k => if x.1 = v.1 ∧ x.2.1 = v.2.1 ∧ x.2.2 = v.2.2 then (k : Int) else findN v L (k + 1)
end Go.Proofs.Ytipdjjgpcmbpdaa.Li
