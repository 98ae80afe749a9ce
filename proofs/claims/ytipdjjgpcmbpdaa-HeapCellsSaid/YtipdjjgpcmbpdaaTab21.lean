/- The statements' do: the easy cases. -/
import Derived.Test.YtipdjjgpcmbpdaaTab20
import Derived.BigQuiet
set_option linter.unusedVariables false
namespace Go.Proofs.Ytipdjjgpcmbpdaa.Ta
open Go.RowKit Go.ChangeShapes Go.WideShapes Go.ChangeAt Go.Proofs.Ytipdjjgpcmbpdaa.Va

theorem idx_cases (key : Vl) : ∀ (L : List (Vl × Vl)) (i : Int), (idx key L i = -1 ∧ ∀ (j : Nat) (p : Vl × Vl), L[j]? = some p → p.1 ≠ key) ∨ ∃ (j : Nat) (p : Vl × Vl), L[j]? = some p ∧ p.1 = key ∧ idx key L i = i + j
  | [], i => .inl ⟨rfl, fun j p h => by simp at h⟩
  | p :: L, i => by
    by_cases h : p.1 = key
    · exact .inr ⟨0, p, rfl, h, by rw [idx, if_pos h]; omega⟩
    · rcases idx_cases key L (i + 1) with ⟨h1, h2⟩ | ⟨j, q, h1, h2, h3⟩
      · refine .inl ⟨by rw [idx, if_neg h]; exact h1, fun j q hj => ?_⟩
        cases j with
        | zero => simp at hj; rw [← hj]; exact h
        | succ j => exact h2 j q (by simpa using hj)
      · exact .inr ⟨j + 1, q, by simpa using h1, h2, by rw [idx, if_neg h, h3]; omega⟩
theorem idx_tab (key : Vl) (E : List (Vl × Vl × Int)) : (idx key (prs E) 0 = -1 ∧ ∀ (j : Nat) (v : Vl) (c : Int), E[j]? ≠ some (key, v, c)) ∨ ∃ (j : Nat) (v : Vl) (c : Int), E[j]? = some (key, v, c) ∧ idx key (prs E) 0 = (j : Int) := by
  rcases idx_cases key (prs E) 0 with ⟨h1, h2⟩ | ⟨j, p, h1, h2, h3⟩
  · exact .inl ⟨h1, fun j v c hj => h2 j _ (prs_at hj) rfl⟩
  · have hl : j < E.length := by
      have := (List.getElem?_eq_some_iff.1 h1).1
      rw [prs_len] at this; exact this
    obtain ⟨⟨k, v, c⟩, he⟩ := get_some hl
    have h4 := prs_at he
    rw [h1] at h4
    cases h4
    subst h2
    exact .inr ⟨j, v, c, he, by rw [h3]; omega⟩
/-- An act, as it is handed over. -/
def opV (kd : Int) (k v : Vl) : Value := .agg #[.int .i64 kd, .int .i64 k.1, .int .i64 k.2.1, .string k.2.2, .int .i64 v.1, .int .i64 v.2.1, .string v.2.2]
def opB (kd : Int) (k v : Vl) : Obj := .cells #[.int .i64 kd, .int .i64 k.1, .int .i64 k.2.1, .string k.2.2, .int .i64 v.1, .int .i64 v.2.1, .string v.2.2] 32
theorem seven {w : World} {g : Nat} {kd : Int} {k v : Vl} (h : w.heap[g]? = some (opB kd k v)) :
    w.cell? ⟨g, 0, none⟩ = some (.int .i64 kd) ∧ w.cell? ⟨g, 1, none⟩ = some (.int .i64 k.1) ∧ w.cell? ⟨g, 2, none⟩ = some (.int .i64 k.2.1) ∧ w.cell? ⟨g, 3, none⟩ = some (.string k.2.2) ∧ w.cell? ⟨g, 4, none⟩ = some (.int .i64 v.1) ∧ w.cell? ⟨g, 5, none⟩ = some (.int .i64 v.2.1) ∧ w.cell? ⟨g, 6, none⟩ = some (.string v.2.2) := by
  unfold opB at h
  refine ⟨?_, ?_, ?_, ?_, ?_, ?_, ?_⟩ <;> (rw [cell_of_row _ _ _ _ _ _ h]; rfl)
theorem box_op {w w' : World} {g : Nat} {kd : Int} {k v : Vl} (h : FrT w w') (hg : w.heap[g]? = some (opB kd k v)) : w'.heap[g]? = some (opB kd k v) := h.block _ _ hg (fun cur t fr h => by cases h; exact ⟨by decide, by decide, by decide⟩)
/-- What an act leaves. -/
def Did (B Bm b : Nat) (w : World) (E : List (Vl × Vl × Int)) (last : Int) (x : Ending) (w' : World) : Prop :=
  ∃ ad cap sz us, x = .returned (.tuple #[.slice ad E.length cap, .bool true]) ∧ IsTab B b w' E last sz us ∧ OwnM Bm ad cap w' (prs E) ∧ St B w w'
theorem ownM_fr {B cap : Nat} {ad : Option Addr} {w w' : World} {L : List (Vl × Vl)} (h : OwnM B ad cap w L) (hf : FrT w w') : OwnM B ad cap w' L := row_fr ⟨by decide, by decide, by decide⟩ h hf
set_option maxRecDepth 100000 in
set_option maxHeartbeats 4000000 in
theorem do_other {B Bm b sz us cap : Nat} {ad : Option Addr} {E : List (Vl × Vl × Int)} {last : Int} (kd : Int) (hkd : kd ≠ 0 ∧ kd ≠ 1 ∧ kd ≠ 2 ∧ kd ≠ 3) (k v : Vl) (w : World) (hB : B ≤ w.heap.size) (hBm : Hid (Bm ≤ B)) (hE : E.length ≤ 1000) (h : IsTab B b w E last sz us) (hm : OwnM Bm ad cap w (prs E)) :
    Calls Try.prog 13 #[.pointer (some ⟨b, 0, none⟩), .slice ad E.length cap, opV kd k v] w (Did B Bm b w E last) := by
  have hb1 := (Below.refl w.heap.size w).alloc (Nat.le_refl _) (opB kd k v)
  have ho := heap_alloc_new w (opB kd k v)
  have HA := Lib.hid (at_any (prs E) (by rw [prs_len]; omega) k _ (ownM_below hm hb1))
  rw [prs_len] at HA
  have e0 : (kd == 0) = false := by rw [beq_eq_false_iff_ne]; exact hkd.1
  have e1 : (kd == 1) = false := by rw [beq_eq_false_iff_ne]; exact hkd.2.1
  have e2 : (kd == 2) = false := by rw [beq_eq_false_iff_ne]; exact hkd.2.2.1
  have e3 : (kd == 3) = false := by rw [beq_eq_false_iff_ne]; exact hkd.2.2.2
  have HEND : Hid (∀ w', Below (w.alloc (opB kd k v)).heap.size (w.alloc (opB kd k v)) w' → IsTab B b w' E last sz us ∧ OwnM Bm ad cap w' (prs E) ∧ St B w w') := fun w' hb => by
    have hz := hb1.trans (hb.mono hb1.size)
    exact ⟨isTab_below h hz, ownM_below hm hz, st_below hz hB⟩
  obtain ⟨c0, c1, c2, c3, c4, c5, c6⟩ := seven ho
  have HO := Lib.hid ho
  clear ho hb1 h hm hkd
  unfold opB at HA c0 c1 c2 c3 c4 c5 c6 HEND HO
  unfold opV
  go_enter Try.func13, Try.ntmps13
  go_wp2_with fail
  refine HA.out.mono ?_
  rintro e w1 ⟨rfl, hb⟩
  obtain ⟨hT, hM, hS⟩ := HEND.out w1 hb
  have HO1 := Lib.hid (box_op (frT_below hb) HO.out)
  obtain ⟨d0, d1, d2, d3, d4, d5, d6⟩ := seven HO1.out
  clear c0 c1 c2 c3 c4 c5 c6 HA HEND HO hb
  go_wp2_with fail
  go_ret2
  exact ⟨ad, cap, sz, us, rfl, hT, hM, hS⟩
end Go.Proofs.Ytipdjjgpcmbpdaa.Ta
