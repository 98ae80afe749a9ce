/- headed: a first kid and those behind it. -/
import Derived.Test.YtaonojimpfhkfaaAst4
namespace Go.Proofs.Ytaonojimpfhkfaa.As
open Go.RowKit Go.ChangeShapes Go.WideShapes Go.ChangeAt

set_option maxRecDepth 100000 in
set_option maxHeartbeats 4000000 in
theorem headed_e {w : World} {B B2 B3 c : Nat} {A : Option Addr} {L : List Int} {v u : Value} (t : Tst) (h : RowI w B A L) (hl : L.length ≤ 1000000) (hlc : L.length ≤ c) (hv1 : TsV w B2 .e v) (hu : TsV w B3 t u) :
    Calls Try.prog 53 #[.slice A L.length c, v, u] w fun e w' => e = .returned (.bool (headB L .e t)) ∧ w = w' := by
  obtain rfl := hv1
  rcases L with _ | ⟨x, r⟩
  · go_enter Try.func53, Try.ntmps53
    go_wp2
    go_ret
    exact ⟨rfl, rfl⟩
  · obtain ⟨g, o, rfl, _, hc⟩ := h.some_
    have HT := Lib.hid h.tail
    have HC := Lib.hid (ts_e x w)
    have HE : Hid (headB (x :: r) .e t = (Tst.ok .e x && allB r t)) := rfl
    generalize hr : (x :: r).length = N at *
    have hr2 : N = r.length + 1 := by rw [← hr]; rfl
    have HR2 := Lib.hid hr2
    have hpos : 0 < N := by omega
    have hpz : (0 : Int) < (N : Int) := by omega
    have h1N : ¬ (N : Int) < 1 := by omega
    have h1N2 : (1 : Int) ≤ (N : Int) := by omega
    have HH := Lib.hid h
    have HU := Lib.hid hu
    have HL := Lib.hid hl
    clear hr hr2 h hu hl
    generalize Tst.ok .e x = b at *
    cases b
    · go_enter Try.func53, Try.ntmps53
      go_wp2_with fail
      refine HC.out.mono ?_
      rintro e w' ⟨rfl, rfl⟩
      go_wp2_with fail
      go_ret
      exact ⟨ret_b HE.out.symm, rfl⟩
    · by_cases hc1 : c = 1
      · subst hc1
        have hr0 : r = [] := List.eq_nil_of_length_eq_zero (by have := HR2.out; omega)
        subst hr0
        have HA := Lib.hid (show Calls Try.prog 61 #[.slice (some ⟨g, o, none⟩) 0 0, u] w _ from all_any (L := []) (A := some ⟨g, o, none⟩) (B := B) (c := 0) t (Or.inl rfl) (by simp) HU.out)
        go_enter Try.func53, Try.ntmps53
        go_wp2_with fail
        refine HC.out.mono ?_
        rintro e w' ⟨rfl, rfl⟩
        go_wp2_with fail
        refine HA.out.mono ?_
        rintro e w' ⟨rfl, rfl⟩
        go_wp2_with fail
        go_ret
        exact ⟨ret_b (by rw [HE.out]; rfl), rfl⟩
      · have ha := all_any (c := c - 1) t HT.out (by have := HR2.out; have := HL.out; omega) HU.out
        rw [show r.length = N - 1 by have := HR2.out; omega] at ha
        have HA := Lib.hid ha
        clear ha
        go_enter Try.func53, Try.ntmps53
        go_wp2_with fail
        refine HC.out.mono ?_
        rintro e w' ⟨rfl, rfl⟩
        go_wp2_with fail
        refine HA.out.mono ?_
        rintro e w' ⟨rfl, rfl⟩
        generalize allB r t = b at *
        go_wp2_with fail
        go_ret
        exact ⟨ret_b (by rw [HE.out]; rfl), rfl⟩
set_option maxRecDepth 100000 in
set_option maxHeartbeats 4000000 in
theorem headed_pe {w : World} {B B2 B3 c : Nat} {A : Option Addr} {L : List Int} {v u : Value} (t : Tst) (h : RowI w B A L) (hl : L.length ≤ 1000000) (hlc : L.length ≤ c) (hv1 : TsV w B2 .pe v) (hu : TsV w B3 t u) :
    Calls Try.prog 53 #[.slice A L.length c, v, u] w fun e w' => e = .returned (.bool (headB L .pe t)) ∧ w = w' := by
  obtain ⟨g1, rfl, _, h11⟩ := hv1
  rcases L with _ | ⟨x, r⟩
  · go_enter Try.func53, Try.ntmps53
    go_wp2
    go_ret
    exact ⟨rfl, rfl⟩
  · obtain ⟨g, o, rfl, _, hc⟩ := h.some_
    have HT := Lib.hid h.tail
    have HC := Lib.hid (pe_any x h11)
    have HE : Hid (headB (x :: r) .pe t = (Tst.ok .pe x && allB r t)) := rfl
    generalize hr : (x :: r).length = N at *
    have hr2 : N = r.length + 1 := by rw [← hr]; rfl
    have HR2 := Lib.hid hr2
    have hpos : 0 < N := by omega
    have hpz : (0 : Int) < (N : Int) := by omega
    have h1N : ¬ (N : Int) < 1 := by omega
    have h1N2 : (1 : Int) ≤ (N : Int) := by omega
    have HH := Lib.hid h
    have HU := Lib.hid hu
    have HL := Lib.hid hl
    clear hr hr2 h hu hl
    generalize Tst.ok .pe x = b at *
    cases b
    · go_enter Try.func53, Try.ntmps53
      go_wp2_with fail
      refine HC.out.mono ?_
      rintro e w' ⟨rfl, rfl⟩
      go_wp2_with fail
      go_ret
      exact ⟨ret_b HE.out.symm, rfl⟩
    · by_cases hc1 : c = 1
      · subst hc1
        have hr0 : r = [] := List.eq_nil_of_length_eq_zero (by have := HR2.out; omega)
        subst hr0
        have HA := Lib.hid (show Calls Try.prog 61 #[.slice (some ⟨g, o, none⟩) 0 0, u] w _ from all_any (L := []) (A := some ⟨g, o, none⟩) (B := B) (c := 0) t (Or.inl rfl) (by simp) HU.out)
        go_enter Try.func53, Try.ntmps53
        go_wp2_with fail
        refine HC.out.mono ?_
        rintro e w' ⟨rfl, rfl⟩
        go_wp2_with fail
        refine HA.out.mono ?_
        rintro e w' ⟨rfl, rfl⟩
        go_wp2_with fail
        go_ret
        exact ⟨ret_b (by rw [HE.out]; rfl), rfl⟩
      · have ha := all_any (c := c - 1) t HT.out (by have := HR2.out; have := HL.out; omega) HU.out
        rw [show r.length = N - 1 by have := HR2.out; omega] at ha
        have HA := Lib.hid ha
        clear ha
        go_enter Try.func53, Try.ntmps53
        go_wp2_with fail
        refine HC.out.mono ?_
        rintro e w' ⟨rfl, rfl⟩
        go_wp2_with fail
        refine HA.out.mono ?_
        rintro e w' ⟨rfl, rfl⟩
        generalize allB r t = b at *
        go_wp2_with fail
        go_ret
        exact ⟨ret_b (by rw [HE.out]; rfl), rfl⟩
end Go.Proofs.Ytaonojimpfhkfaa.As
