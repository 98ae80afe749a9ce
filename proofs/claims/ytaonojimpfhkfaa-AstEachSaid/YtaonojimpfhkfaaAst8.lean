/- exprKids at a function, and at all other kinds. -/
import Derived.Test.YtaonojimpfhkfaaAst7
namespace Go.Proofs.Ytaonojimpfhkfaa.As
open Go.RowKit Go.ChangeShapes Go.WideShapes Go.ChangeAt

theorem RowI.take {w : World} {B : Nat} {A : Option Addr} {L : List Int} (h : RowI w B A L) (k : Nat) : RowI w B A (L.take k) := by
  rcases h with rfl | ⟨g, o, e, hg, h⟩
  · left; simp
  · refine Or.inr ⟨g, o, e, hg, fun j x hx => h j x ?_⟩
    rw [List.getElem?_take] at hx
    split at hx
    · exact hx
    · cases hx
def fnB (num : Int) (ks : List Int) : Bool := decide (1 ≤ ks.length) && (decide (num = (ks.length : Int) - 1) && (allB (ks.take (ks.length - 1)) (.one [22]) && decide (ks.drop (ks.length - 1) = [26])))
theorem fnB_yes {num : Int} {ks : List Int} {m : Nat} {y : Int} (h : ks.length = m + 1) (hn : num = (m : Int)) (hy : ks[m]? = some y) : fnB num ks = (allB (ks.take m) (.one [22]) && (y == 26)) := by
  have hd : ks.drop m = [y] := by rw [drop_get hy, List.drop_eq_nil_of_le (by omega)]
  unfold fnB
  rw [h, Nat.add_sub_cancel, hd, decide_eq_true (show 1 ≤ m + 1 by omega), decide_eq_true (show num = ((m + 1 : Nat) : Int) - 1 by omega), Bool.true_and, Bool.true_and]
  congr 1
  rw [Bool.eq_iff_iff]; simp
theorem below_drewN {B : Nat} {w w' : World} (h : Below B w w') (n : Nat) : Below B w (w'.drewN n) := h.trans ⟨rfl, rfl, rfl, Nat.le_refl _, fun _ _ => rfl⟩
section
variable {w : World} {c : Nat} {A : Option Addr} {ks : List Int} (loc num : Int) (text : ByteArray) (ka : Option Addr) (nk kc : Nat)
set_option maxRecDepth 100000 in
set_option maxHeartbeats 4000000 in
theorem ex_20 (h : RowI w w.heap.size A ks) (hl : ks.length ≤ 1000000) (hlc : ks.length ≤ c) :
    Calls Try.prog 57 #[.agg #[.int .i64 20, .int .i64 loc, .string text, .int .i64 num, .slice ka nk kc], .slice A ks.length c] w fun e w' => e = .returned (.bool (fnB num ks)) ∧ Below w.heap.size w w' := by
  generalize hR : fnB num ks = R
  have HR := Lib.hid hR
  clear hR
  have hB := bel1 w (.cells #[.int .i64 20, .int .i64 loc, .string text, .int .i64 num, .slice ka nk kc] 37)
  have hn := new1 w (.cells #[.int .i64 20, .int .i64 loc, .string text, .int .i64 num, .slice ka nk kc] 37)
  have h1 : (w.alloc (.cells #[.int .i64 20, .int .i64 loc, .string text, .int .i64 num, .slice ka nk kc] 37)).cell? ⟨w.heap.size, 3, none⟩ = some (.int .i64 num) := by rw [cell_of_row _ _ _ _ _ _ hn]; rfl
  have HB := Lib.hid hB
  rcases Nat.eq_zero_or_pos ks.length with h0 | h0
  · have hks : ks = [] := List.eq_nil_of_length_eq_zero h0
    subst hks
    have HE : Hid (false = R) := by show _ = _; rw [← HR.out]; rfl
    have H1 := Lib.hid h1
    clear h hn hB h1
    go_enter Try.func57, Try.ntmps57
    go_wp2_with fail
    go_quiet (fail)
    go_wp2_with fail
    go_ret
    exact ⟨ret_b HE.out, below_drewN HB.out _⟩
  · obtain ⟨m, hm⟩ : ∃ m, ks.length = m + 1 := ⟨ks.length - 1, by omega⟩
    by_cases hnum : num = (m : Int)
    · subst hnum
      obtain ⟨y, hy⟩ := get_some (show m < ks.length by omega)
      obtain ⟨g, o, rfl, hg, hcy⟩ := h.at_ hy
      have HE : Hid ((allB (ks.take m) (.one [22]) && (y == 26)) = R) := by show _ = _; rw [← HR.out]; exact (fnB_yes hm rfl hy).symm
      have hgc := fun (W : World) (hb : Below w.heap.size w W) => (World.cell?_of_block (a := ⟨g, o + m, none⟩) (hb.block g hg)).trans hcy
      have HG := Lib.hid hgc
      have HT := Lib.hid (h.take m)
      have htl : (ks.take m).length = m := by rw [List.length_take]; omega
      have HTL := Lib.hid htl
      have HL := Lib.hid hl
      have HM := Lib.hid hm
      have hN1 : (ks.length : Int) = (m : Int) + 1 := by omega
      have hm0 : (0 : Int) ≤ (m : Int) := by omega
      have hmb : (m : Int) ≤ 1000000 := by omega
      have hm9 : (m : Int) < ((m + 1 : Nat) : Int) := by omega
      have hm8 : (m : Int) < (m : Int) + 1 := by omega
      have hmc : (m : Int) ≤ (c : Int) := by omega
      have H1 := Lib.hid h1
      have hlen : ks.length = m + 1 := hm
      clear h hn hB h1 hy hcy hgc htl hl hm HR
      rw [hlen] at hlc ⊢
      clear h0 hlen hN1
      go_enter Try.func57, Try.ntmps57
      go_wp2_with fail
      have hx : ((m : Int) == (m : Int)) = true := by simp
      generalize hW1 : w.alloc (.cells #[.int .i64 20, .int .i64 loc, .string text, .int .i64 (m : Int), .slice ka nk kc] 37) = W1 at *
      have HWS : Hid (w.heap.size < W1.heap.size) := by show _ < _; rw [← hW1]; simp
      clear hW1
      have HS1 := Lib.hid (And.intro H1.out (HG.out _ HB.out))
      have HS1d : Hid (W1.drew.cell? ⟨w.heap.size, 3, none⟩ = some (.int .i64 (m : Int)) ∧ W1.drew.cell? ⟨g, o + m, none⟩ = some (.int .i64 y)) := HS1.out
      have HBA := Lib.hid (HB.out.alloc HB.out.size (.cells #[.int .i64 22] 3)).drew
      have HN : Hid ((W1.alloc (.cells #[.int .i64 22] 3)).drew.heap[W1.heap.size]? = some (.cells #[.int .i64 22] 3)) := new1 W1 (.cells #[.int .i64 22] 3)
      have HK : Hid (∀ W, Below W1.heap.size W1 W → W.cell? ⟨w.heap.size, 3, none⟩ = some (.int .i64 (m : Int)) ∧ W.cell? ⟨g, o + m, none⟩ = some (.int .i64 y)) := fun W hW => ⟨(World.cell?_of_block (a := ⟨w.heap.size, 3, none⟩) (hW.block _ HWS.out)).trans H1.out, HG.out _ (HB.out.trans (hW.mono HB.out.size))⟩
      have HS2 := Lib.hid (HK.out _ (bel1 W1 (.cells #[.int .i64 22] 3)).drew)
      have HMK : Hid (Calls Try.prog 54 #[.slice (some ⟨W1.heap.size, 0, none⟩) 1 1] (W1.alloc (.cells #[.int .i64 22] 3)).drew fun e w' => ∃ v, e = .returned v ∧ OneV w' w'.heap.size [22] v ∧ Below (W1.alloc (.cells #[.int .i64 22] 3)).drew.heap.size (W1.alloc (.cells #[.int .i64 22] 3)).drew w') :=
        mkone_any (ks := [22]) (c := 1) (rowI_new HN.out (by simp)) (by decide)
      have HAL : Hid (∀ (W : World) (v : Value), Below W1.heap.size W1 W → OneV W W.heap.size [22] v → Calls Try.prog 61 #[.slice (some ⟨g, o, none⟩) m c, v] W fun e w' => e = .returned (.bool (allB (ks.take m) (.one [22]))) ∧ W = w') := fun W v hW hv => by
        have := all_any (w := W) (c := c) (.one [22]) (HT.out.below (B' := w.heap.size) (HB.out.trans (hW.mono HB.out.size)) (Nat.le_refl _) (Nat.le_refl _)) (by have := HTL.out; have := HL.out; have := HM.out; omega) hv
        rw [HTL.out] at this
        exact this
      generalize allB (ks.take m) (.one [22]) = b at *
      cases b with
      | false =>
        have HE2 : Hid (false = R) := HE.out
        have f1 := H1.out
        first
          | (go_region_with (first
                | (go_at_call 54; refine HMK.out.mono ?_; rintro e8 w8 ⟨v, rfl, hv, hb8⟩; have HZ8 := Lib.hid ((bel1 W1 (.cells #[.int .i64 22] 3)).drew.trans (hb8.mono (by simp))); have hs3 := HK.out _ HZ8.out; have HC8 := Lib.hid (HAL.out _ _ HZ8.out hv); clear hv hb8)
                | (go_at_call 61; refine HC8.out.mono ?_; rintro e9 w9 ⟨rfl, rfl⟩)))
          | fail
        all_goals
          go_wp2_with fail
          go_ret
          exact ⟨ret_b HE2.out, HB.out.trans (HZ8.out.mono HB.out.size)⟩
      | true =>
        go_region_held3 (fun w' => w'.cell? ⟨w.heap.size, 3, none⟩ = some (.int .i64 (m : Int)) ∧ w'.cell? ⟨g, o + m, none⟩ = some (.int .i64 y)) (with_reducible (first | exact HS1.out | exact HS1d.out | exact HS2.out | assumption | (trace_state; fail)))
          (first
            | (go_at_call 54; refine HMK.out.mono ?_; rintro e8 w8 ⟨v, rfl, hv, hb8⟩; have HZ8 := Lib.hid ((bel1 W1 (.cells #[.int .i64 22] 3)).drew.trans (hb8.mono (by simp))); have hs3 := HK.out _ HZ8.out; have HC8 := Lib.hid (HAL.out _ _ HZ8.out hv); clear hv hb8)
            | (go_at_call 61; refine HC8.out.mono ?_; rintro e9 w9 ⟨rfl, rfl⟩))
        go_wp2_with fail
        go_ret
        exact ⟨ret_b HE.out, HB.out.trans (HZ8.out.mono HB.out.size)⟩
    · have HE : Hid (false = R) := by
        show _ = _
        rw [← HR.out]
        unfold fnB
        rw [decide_eq_false (show ¬ num = (ks.length : Int) - 1 by omega), Bool.false_and, Bool.and_false]
      have hx : (num == (m : Int)) = false := by simpa using hnum
      have hm0 : (0 : Int) ≤ (m : Int) := by omega
      have hmb : (m : Int) ≤ 1000000 := by omega
      clear h hn hB h1 HR hnum
      rw [hm] at hlc ⊢
      clear hm h0 hl
      go_enter Try.func57, Try.ntmps57
      go_wp2_with fail
      go_quiet (fail)
      go_wp2_with fail
      go_ret
      exact ⟨ret_b HE.out, below_drewN HB.out _⟩
end
end Go.Proofs.Ytaonojimpfhkfaa.As
