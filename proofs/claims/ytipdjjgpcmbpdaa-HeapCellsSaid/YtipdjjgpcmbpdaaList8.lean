/- dreylaw04.right; list.Cells; a slice of values as New takes it. -/
import Derived.Test.YtipdjjgpcmbpdaaList7
namespace Go.Proofs.Ytipdjjgpcmbpdaa.Li
open Go.RowKit Go.ChangeShapes Go.WideShapes Go.ChangeAt Go.Proofs.Ytipdjjgpcmbpdaa.Va

theorem at_src {w : World} {g off : Nat} {L : List (Int × Int × ByteArray)} (h : At w g off L) : Src (some ⟨g, off, none⟩) w L := by
  refine Or.inr ⟨_, rfl, fun j u hj => ?_⟩
  have hlt : j < (flat L).length := (List.getElem?_eq_some_iff.1 hj).1
  rw [flat_len] at hlt
  obtain ⟨i, r, rfl, hr⟩ : ∃ i r, j = i * 3 + r ∧ r < 3 := ⟨j / 3, j % 3, by omega, by omega⟩
  have hi : i < L.length := by omega
  obtain ⟨f0, f1, f2⟩ := flat_at L i hi
  obtain ⟨c0, c1, c2⟩ := h i hi
  rw [Go.WideShapes.add_plain]
  rcases (show r = 0 ∨ r = 1 ∨ r = 2 by omega) with rfl | rfl | rfl
  · rw [Nat.add_zero] at hj ⊢; rw [f0] at hj; cases hj; exact c0
  · rw [f1] at hj; cases hj; rw [← Nat.add_assoc]; exact c1
  · rw [f2] at hj; cases hj; rw [← Nat.add_assoc]; exact c2
def okR (L : List (Int × Int × ByteArray)) : Bool := L.all fun e => decide (chk e.1 e.2.1 e.2.2 = 0)
theorem okR_no {L : List (Int × Int × ByteArray)} {k : Nat} (h : k < L.length) (hc : ¬ chk (L[k]).1 (L[k]).2.1 (L[k]).2.2 = 0) : okR L = false := by
  cases h2 : okR L
  · rfl
  · unfold okR at h2
    rw [List.all_eq_true] at h2
    exact absurd (of_decide_eq_true (h2 _ (List.getElem_mem h))) hc
theorem okR_yes {L : List (Int × Int × ByteArray)} (h : ∀ k (hk : k < L.length), chk (L[k]).1 (L[k]).2.1 (L[k]).2.2 = 0) : okR L = true := by
  unfold okR
  rw [List.all_eq_true]
  intro e he
  obtain ⟨k, hk, rfl⟩ := List.getElem_of_mem he
  exact decide_eq_true (h k hk)

def kd (L : List (Int × Int × ByteArray)) (i : Nat) : Int := (L.getD i (0, 0, ⟨#[]⟩)).1
def nm (L : List (Int × Int × ByteArray)) (i : Nat) : Int := (L.getD i (0, 0, ⟨#[]⟩)).2.1
def tx (L : List (Int × Int × ByteArray)) (i : Nat) : ByteArray := (L.getD i (0, 0, ⟨#[]⟩)).2.2
theorem getD_at (L : List (Int × Int × ByteArray)) (i : Nat) (h : i < L.length) : L.getD i (0, 0, ⟨#[]⟩) = L[i] := by simp [List.getD, h]
theorem cells_zero (ad : Option Addr) (cap : Nat) (w : World) :
    Calls Try.prog 47 #[.slice ad 0 cap] w fun e w' => e = .returned (.slice none 0 0) ∧ Below w.heap.size w w' := by
  go_enter Try.func47, Try.ntmps47
  go_wp2_with fail
  refine wp_loop_rounds 1 ?_
  rw [rounds_succ]
  go_wp2_with fail
  go_ret
  exact ⟨rfl, Below.refl _ _⟩
set_option maxRecDepth 100000 in
theorem lcells_any (B b : Nat) (ad : Option Addr) (cap : Nat) (L : List (Int × Int × ByteArray)) (hl : L.length ≤ 1000000) (w : World) (h : IsL B b ad cap w L) :
    Calls Try.prog 77 #[.pointer (some ⟨b, 0, none⟩)] w fun e w' => ∃ ad' cap', e = .returned (.slice ad' (refs (kd L) (nm L) L.length).length cap') ∧ Below w.heap.size w w' := by
  obtain ⟨c0, z0⟩ := isL_cell h
  by_cases h0 : L = []
  · subst h0
    have HC := Lib.hid (cells_zero ad cap w)
    clear h
    go_enter Try.func77, Try.ntmps77
    go_wp2_with fail
    refine HC.out.mono ?_
    rintro e w1 ⟨rfl, hb⟩
    go_wp2_with fail
    go_ret
    exact ⟨none, 0, rfl, hb⟩
  · obtain ⟨g, rfl, _, hg⟩ := own_some h.own (List.length_pos_iff.2 h0)
    have hv : Vals w g 0 L.length (kd L) (nm L) (tx L) := fun i hi => by
      obtain ⟨e0, e1, e2⟩ := own_at h.own i hi
      unfold kd nm tx
      rw [getD_at L i hi, Nat.zero_add]
      exact ⟨e0, e1, e2⟩
    have HC := Lib.hid (cells_any g 0 L.length cap (kd L) (nm L) (tx L) w hg (by omega) hv)
    clear h hv
    go_enter Try.func77, Try.ntmps77
    go_wp2_with fail
    refine HC.out.mono ?_
    rintro e w1 ⟨v, n, rfl, rfl, hown, hb⟩
    obtain ⟨ad', cap', rfl⟩ : ∃ ad' cap', v = .slice ad' (refs (kd L) (nm L) L.length).length cap' := by
      rcases hown.2 with ⟨hv, e⟩ | ⟨g, c, cur, hv, _⟩
      · exact ⟨none, 0, by rw [hv, e]⟩
      · exact ⟨_, c, hv⟩
    clear hown
    go_wp2_with fail
    go_ret
    exact ⟨ad', cap', rfl, hb⟩
end Go.Proofs.Ytipdjjgpcmbpdaa.Li
