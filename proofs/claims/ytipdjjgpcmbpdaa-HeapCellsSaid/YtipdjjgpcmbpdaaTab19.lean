/- The statements' model of a table: at, without. -/
import Derived.Test.YtipdjjgpcmbpdaaTab18
import Derived.Laws.StructEq
set_option linter.unusedVariables false
namespace Go.Proofs.Ytipdjjgpcmbpdaa.Ta
open Go.RowKit Go.ChangeShapes Go.WideShapes Go.ChangeAt Go.Proofs.Ytipdjjgpcmbpdaa.Va

theorem vals_any {B b sz us : Nat} {E : List (Vl × Vl × Int)} {last : Int} (w : World) (h : IsTab B b w E last sz us) (hE : E.length ≤ 1048576) :
    Calls Try.prog 55 #[.pointer (some ⟨b, 0, none⟩)] w fun e W' => ∃ ad cap, e = .returned (.slice ad E.length cap) ∧ Li.Own w.heap.size ad cap W' (E.map (·.2.1)) ∧ Below w.heap.size w W' := by
  obtain ⟨ar, cr, ap, cp, R, P, n, hT, rfl, _, _⟩ := h
  exact vals_tab w hT hE
def celP (p : Vl × Vl) : List Value := [.int .i64 p.1.1, .int .i64 p.1.2.1, .string p.1.2.2, .int .i64 p.2.1, .int .i64 p.2.2.1, .string p.2.2.2]
def flatP (L : List (Vl × Vl)) : List Value := L.flatMap celP
theorem flatP_cons (p : Vl × Vl) (L : List (Vl × Vl)) : flatP (p :: L) = celP p ++ flatP L := rfl
theorem flatP_append (L M : List (Vl × Vl)) : flatP (L ++ M) = flatP L ++ flatP M := List.flatMap_append ..
theorem flatP_one (p : Vl × Vl) : flatP [p] = celP p := by simp [flatP]
theorem flatP_len : ∀ L : List (Vl × Vl), (flatP L).length = L.length * 6
  | [] => rfl
  | p :: L => by rw [flatP_cons, List.length_append, flatP_len L]; simp [celP]; omega
theorem flatP_cells : ∀ (L : List (Vl × Vl)), ∀ u ∈ flatP L, u.oneCell' = true
  | [], u, h => by cases h
  | p :: L, u, h => by
    rw [flatP_cons, List.mem_append] at h
    rcases h with h | h
    · simp [celP] at h; rcases h with rfl | rfl | rfl | rfl | rfl | rfl <;> rfl
    · exact flatP_cells L u h
theorem flatP_at : ∀ (L : List (Vl × Vl)) (i : Nat) (p : Vl × Vl) (_ : L[i]? = some p) (j : Nat), j < 6 → (flatP L)[i * 6 + j]? = (celP p)[j]?
  | [], i, p, h, _, _ => by simp at h
  | q :: L, 0, p, h, j, hj => by
    simp at h; subst h
    rw [flatP_cons, List.getElem?_append_left (by simp [celP]; omega)]; congr 1; omega
  | q :: L, i + 1, p, h, j, hj => by
    rw [flatP_cons, List.getElem?_append_right (by simp [celP]; omega), ← flatP_at L i p (by simpa using h) j hj]
    congr 1; simp [celP]; omega
theorem A.infoM : (Try.prog.info? 43).map (fun i => (i.zero, i.size, i.bytes)) = some (some (.agg #[.int .i64 0, .int .i64 0, .string ⟨#[]⟩, .int .i64 0, .int .i64 0, .string ⟨#[]⟩]), 6, 64) := by kernel_rfl
/-- A model: a slice of pairs. -/
def OwnM (B : Nat) (ad : Option Addr) (cap : Nat) (w : World) (L : List (Vl × Vl)) : Prop := w.ownsRow B 43 6 (.slice ad L.length cap) L.length (flatP L)
theorem ownM_at {B g cap : Nat} {w : World} {L : List (Vl × Vl)} (h : OwnM B (some ⟨g, 0, none⟩) cap w L) {i : Nat} {p : Vl × Vl} (hi : L[i]? = some p) :
    w.cell? ⟨g, i * 6, none⟩ = some (.int .i64 p.1.1) ∧ w.cell? ⟨g, i * 6 + 1, none⟩ = some (.int .i64 p.1.2.1) ∧ w.cell? ⟨g, i * 6 + 2, none⟩ = some (.string p.1.2.2) ∧ w.cell? ⟨g, i * 6 + 3, none⟩ = some (.int .i64 p.2.1) ∧ w.cell? ⟨g, i * 6 + 4, none⟩ = some (.int .i64 p.2.2.1) ∧ w.cell? ⟨g, i * 6 + 5, none⟩ = some (.string p.2.2.2) := by
  have hl := (List.getElem?_eq_some_iff.1 hi).1
  have at' : ∀ j, j < 6 → w.cell? ⟨g, i * 6 + j, none⟩ = (celP p)[j]? := fun j hj => (World.ownsRow.cellAt (n := L.length) (size := 6) h (i * 6 + j) (by omega)).trans (flatP_at L i p hi j hj)
  exact ⟨at' 0 (by omega), at' 1 (by omega), at' 2 (by omega), at' 3 (by omega), at' 4 (by omega), at' 5 (by omega)⟩
theorem ownM_below {B : Nat} {ad : Option Addr} {cap : Nat} {w w' : World} {L : List (Vl × Vl)} (h : OwnM B ad cap w L) (hb : Below w.heap.size w w') : OwnM B ad cap w' L := row_below h hb
theorem six {w : World} {g : Nat} {x0 x1 x2 x3 x4 x5 : Value} {t : TypeId} (h : w.heap[g]? = some (.cells #[x0, x1, x2, x3, x4, x5] t)) :
    w.cell? ⟨g, 0, none⟩ = some x0 ∧ w.cell? ⟨g, 1, none⟩ = some x1 ∧ w.cell? ⟨g, 2, none⟩ = some x2 ∧ w.cell? ⟨g, 3, none⟩ = some x3 ∧ w.cell? ⟨g, 4, none⟩ = some x4 ∧ w.cell? ⟨g, 5, none⟩ = some x5 := by
  refine ⟨?_, ?_, ?_, ?_, ?_, ?_⟩ <;> (rw [cell_of_row _ _ _ _ _ _ h]; rfl)
theorem three {w : World} {g : Nat} {x0 x1 x2 : Value} {t : TypeId} (h : w.heap[g]? = some (.cells #[x0, x1, x2] t)) :
    w.cell? ⟨g, 0, none⟩ = some x0 ∧ w.cell? ⟨g, 1, none⟩ = some x1 ∧ w.cell? ⟨g, 2, none⟩ = some x2 := by
  refine ⟨?_, ?_, ?_⟩ <;> (rw [cell_of_row _ _ _ _ _ _ h]; rfl)
theorem vl_eq {a b : Vl} (h1 : a.1 = b.1) (h2 : a.2.1 = b.2.1) (h3 : a.2.2.toList = b.2.2.toList) : a = b := by
  rw [ByteArray.toList_eq, ByteArray.toList_eq] at h3
  exact Prod.ext h1 (Prod.ext h2 (bytes_ext h3))
/-- Where a key stands in a model. -/
def idx (key : Vl) : List (Vl × Vl) → Int → Int
  | [], _ => -1
  | p :: L, i => if p.1 = key then i else idx key L (i + 1)
set_option maxRecDepth 100000 in
set_option maxHeartbeats 4000000 in
theorem at_any {B cap : Nat} {ad : Option Addr} (L : List (Vl × Vl)) (hl : L.length ≤ 1048576) (key : Vl) (w : World) (h : OwnM B ad cap w L) :
    Calls Try.prog 18 #[.slice ad L.length cap, .agg #[.int .i64 key.1, .int .i64 key.2.1, .string key.2.2]] w fun e w' => e = .returned (.int .i64 (idx key L 0)) ∧ Below w.heap.size w w' := by
  have HI0 : Hid (idx key (L.drop 0) 0 = idx key L 0) := rfl
  obtain ⟨R, hR⟩ : ∃ R, idx key L 0 = R := ⟨_, rfl⟩
  rw [hR] at HI0 ⊢
  clear hR
  have hkb := heap_alloc_new w (.cells #[.int .i64 key.1, .int .i64 key.2.1, .string key.2.2] 30)
  have hk1 := (Below.refl w.heap.size w).alloc (Nat.le_refl _) (.cells #[.int .i64 key.1, .int .i64 key.2.1, .string key.2.2] 30)
  have HM := Lib.hid (ownM_below h hk1)
  have HK := Lib.hid hkb
  have HZ := Lib.hid hk1
  clear hkb hk1 h
  go_enter Try.func18, Try.ntmps18
  go_wp2_with fail
  generalize w.alloc (.cells #[.int .i64 key.1, .int .i64 key.2.1, .string key.2.2] 30) = W at *
  go_loopw [5, 6, 9] (fun _ _ i wr => ∃ k : Nat, k ≤ L.length ∧ i = .int .i64 (k : Int) ∧ Hid (idx key (L.drop k) (k : Int) = R) ∧ Below W.heap.size W wr) (fun _ _ i _ => L.length - (intOf i).toNat)
  case atStart => exact ⟨0, by omega, rfl, HI0.out, Below.refl _ _⟩
  case round =>
    obtain ⟨k, hk, rfl, HU, hb⟩ := hrel
    by_cases hlt : k < L.length
    · obtain ⟨g, rfl, _, hgl⟩ := row_some HM.out (by omega)
      obtain ⟨p, hp⟩ := get_some hlt
      obtain ⟨r0, r1, r2, r3, r4, r5⟩ := ownM_at (ownM_below HM.out hb) hp
      have hd : L.drop k = p :: L.drop (k + 1) := by
        obtain ⟨h1, h2⟩ := List.getElem?_eq_some_iff.1 hp
        rw [List.drop_eq_getElem_cons h1, h2]
      have hU := HU.out
      rw [hd, idx] at hU
      have hq := hb.alloc hb.size (.cells #[.int .i64 p.1.1, .int .i64 p.1.2.1, .string p.1.2.2, .int .i64 p.2.1, .int .i64 p.2.2.1, .string p.2.2.2] 43)
      have hm := heap_alloc_new wr (.cells #[.int .i64 p.1.1, .int .i64 p.1.2.1, .string p.1.2.2, .int .i64 p.2.1, .int .i64 p.2.2.1, .string p.2.2.2] 43)
      have hkk := (hq.block _ (lt_of_block HK.out)).trans HK.out
      obtain ⟨d0, d1, d2, d3, d4, d5⟩ := six hm
      obtain ⟨e0, e1, e2⟩ := three hkk
      have HQ := Lib.hid hq
      have HB := Lib.hid hb
      clear hq hm hkk hd HU
      by_cases hpk : p.1 = key
      · rw [if_pos hpk] at hU
        have HR := Lib.hid hU
        clear hU
        subst hpk
        go_wp2_with fail
        go_ret
        exact ⟨by rw [← HR.out]; rfl, HZ.out.trans (HQ.out.mono HZ.out.size)⟩
      · rw [if_neg hpk] at hU
        have HR : Hid (idx key (L.drop (k + 1)) ((k + 1 : Nat) : Int) = R) := by show _ = _; rw [← hU]; rfl
        clear hU
        go_wp2_with fail
        all_goals first
          | (exfalso; exact hpk (vl_eq (by assumption) (by assumption) (by assumption)))
          | (go_roundw
             case rel => exact ⟨k + 1, by omega, by go_num, HR.out, HB.out.alloc HB.out.size _⟩
             case measure => simp [intOf]; omega)
    · have hR : R = -1 := by
        have h := HU.out
        rw [List.drop_eq_nil_of_le (by omega), idx] at h
        exact h.symm
      clear HU
      go_wp2_with fail
      go_ret
      exact ⟨by rw [hR]; rfl, HZ.out.trans (hb.mono HZ.out.size)⟩
end Go.Proofs.Ytipdjjgpcmbpdaa.Ta
