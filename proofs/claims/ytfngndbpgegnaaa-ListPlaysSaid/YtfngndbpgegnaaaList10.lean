/- slices.Reverse, list.Reverse: as many values as before, in the old row. -/
import Derived.Test.YtfngndbpgegnaaaList9
import Derived.BigRegion
namespace Go.Proofs.Ytfngndbpgegnaaa.Li
open Go.RowKit Go.ChangeShapes Go.WideShapes Go.ChangeAt Go.Proofs.Ytfngndbpgegnaaa.Va

theorem flat_set : ∀ (L : List (Int × Int × ByteArray)) (i : Nat) (e : Int × Int × ByteArray), flat (L.set i e) = (((flat L).set (i * 3) (.int .i64 e.1)).set (i * 3 + 1) (.int .i64 e.2.1)).set (i * 3 + 2) (.string e.2.2)
  | [], i, e => by simp [flat]
  | x :: L, 0, e => by simp [flat_cons, cel]
  | x :: L, i + 1, e => by
    have ih := flat_set L i e
    rw [List.set_cons_succ, flat_cons, ih, flat_cons]
    have h0 : (i + 1) * 3 = (cel x).length + i * 3 := by simp [cel]; omega
    rw [h0, List.set_append_right _ _ (by omega), List.set_append_right _ _ (by omega), List.set_append_right _ _ (by omega)]
    congr 1
    rw [show (cel x).length + i * 3 - (cel x).length = i * 3 by omega, show (cel x).length + i * 3 + 1 - (cel x).length = i * 3 + 1 by omega, show (cel x).length + i * 3 + 2 - (cel x).length = i * 3 + 2 by omega]
theorem own_set {B g cap : Nat} {w : World} {L : List (Int × Int × ByteArray)} (h : Own B (some ⟨g, 0, none⟩) cap w L) (i : Nat) (e : Int × Int × ByteArray) :
    Own B (some ⟨g, 0, none⟩) cap (((w.setCell ⟨g, i * 3, none⟩ (.int .i64 e.1)).setCell ⟨g, i * 3 + 1, none⟩ (.int .i64 e.2.1)).setCell ⟨g, i * 3 + 2, none⟩ (.string e.2.2)) (L.set i e) := by
  show World.ownsRow _ _ _ _ _ _ _
  rw [flat_set, List.length_set]
  have h1 := (World.ownsRow.stored h (i * 3) (.int .i64 e.1)).1
  have h2 := (World.ownsRow.stored h1 (i * 3 + 1) (.int .i64 e.2.1)).1
  exact (World.ownsRow.stored h2 (i * 3 + 2) (.string e.2.2)).1
theorem upd_set {b g : Nat} {w w' : World} (h : Upd b (some ⟨g, 0, none⟩) w w') (o : Nat) (v : Value) : Upd b (some ⟨g, 0, none⟩) w (w'.setCell ⟨g, o, none⟩ v) :=
  ⟨h.os, h.tape, h.output, by simpa [World.setCell] using h.size, fun k hk h1 h2 => by
    have : (w'.setCell ⟨g, o, none⟩ v).heap[k]? = w'.heap[k]? := by
      simp only [World.setCell, Array.getElem?_modify]
      rw [if_neg (fun e => h2 (congrArg some e))]
    rw [this]; exact h.block k hk h1 h2⟩

/-- A row has as many values as before; nothing else has turned. -/
def RowSame (B g cap : Nat) (w w' : World) (L : List (Int × Int × ByteArray)) : Prop := Own B (some ⟨g, 0, none⟩) cap w' L ∧ w.grownBy w' (some g)
theorem grown_set {g : Nat} {w w' : World} (h : w.grownBy w' (some g)) (o : Nat) (v : Value) : w.grownBy (w'.setCell ⟨g, o, none⟩ v) (some g) :=
  ⟨h.os, h.tape, h.output, by simpa [World.setCell] using h.size, fun k hk h2 => by
    have : (w'.setCell ⟨g, o, none⟩ v).heap[k]? = w'.heap[k]? := by
      simp only [World.setCell, Array.getElem?_modify]
      rw [if_neg (fun e => h2 (congrArg some (Eq.symm e)))]
    rw [this]; exact h.block k hk h2⟩
theorem rows_set {B g cap : Nat} {w w' : World} {L : List (Int × Int × ByteArray)} (h : RowSame B g cap w w' L) (i : Nat) (e : Int × Int × ByteArray) :
    RowSame B g cap w (((w'.setCell ⟨g, i * 3, none⟩ (.int .i64 e.1)).setCell ⟨g, i * 3 + 1, none⟩ (.int .i64 e.2.1)).setCell ⟨g, i * 3 + 2, none⟩ (.string e.2.2)) (L.set i e) :=
  ⟨own_set h.1 i e, grown_set (grown_set (grown_set h.2 _ _) _ _) _ _⟩

theorem rows_drew {B g cap : Nat} {w w' : World} {L : List (Int × Int × ByteArray)} (h : RowSame B g cap w w' L) : RowSame B g cap w w'.drew L := ⟨⟨h.1.1, h.1.2⟩, ⟨h.2.os, h.2.tape, h.2.output, h.2.size, h.2.block⟩⟩
set_option maxRecDepth 100000 in
set_option maxHeartbeats 4000000 in
theorem reverse_row (B g cap : Nat) (L : List (Int × Int × ByteArray)) (hl : L.length ≤ 2000000) (w : World) (h : Own B (some ⟨g, 0, none⟩) cap w L) :
    Calls Try.prog 71 #[.slice (some ⟨g, 0, none⟩) L.length cap] w fun e w' => e = .returned (.tuple #[]) ∧ ∃ L', L'.length = L.length ∧ RowSame B g cap w w' L' := by
  have HO := Lib.hid h
  clear h
  go_enter Try.func71, Try.ntmps71
  go_wp2_with fail
  go_loopw [2, 3] (fun i j wr => ∃ (a : Nat) (b : Int) (L' : List (Int × Int × ByteArray)), i = .int .i64 (a : Int) ∧ j = .int .i64 b ∧ a ≤ L.length ∧ -1 ≤ b ∧ b < L.length ∧ Hid (L'.length = L.length) ∧ Hid (RowSame B g cap w wr L')) (fun i _ _ => L.length - (intOf i).toNat)
  case atStart => exact ⟨0, (L.length : Int) - 1, L, rfl, by go_num, by omega, by omega, by omega, rfl, ⟨HO.out, ⟨rfl, rfl, rfl, Nat.le_refl _, fun _ _ _ => rfl⟩⟩⟩
  case round =>
    obtain ⟨a, b, L', rfl, rfl, ha, hb1, hb2, HL, HR⟩ := hrel
    by_cases hlt : (a : Int) < b
    · obtain ⟨c, rfl⟩ : ∃ c : Nat, b = (c : Int) := ⟨b.toNat, by omega⟩
      have hLl := HL.out
      have ha' : a < L'.length := by omega
      have hc' : c < L'.length := by omega
      obtain ⟨a0, a1, a2⟩ := own_at HR.out.1 a ha'
      obtain ⟨c0, c1, c2⟩ := own_at HR.out.1 c hc'
      have fz : ∀ j, wr.frozen? ⟨g, j, none⟩ = false := World.ownsRow.frozenAt HR.out.1
      have hk1 : (a : Int) < (L.length : Int) := by omega
      have hk2 : (c : Int) < (L.length : Int) := by omega
      have hk3 : (0 : Int) ≤ (a : Int) := by omega
      have hk4 : (0 : Int) ≤ (c : Int) := by omega
      have HS := Lib.hid (rows_set (rows_set HR.out a L'[c]) c L'[a])
      generalize L'[a] = x at *
      generalize L'[c] = y at *
      have n00 : ¬ c * 3 = a * 3 := by omega
      have n01 : ¬ c * 3 = a * 3 + 1 := by omega
      have n02 : ¬ c * 3 = a * 3 + 2 := by omega
      have n10 : ¬ c * 3 + 1 = a * 3 := by omega
      have n11 : ¬ c * 3 + 1 = a * 3 + 1 := by omega
      have n12 : ¬ c * 3 + 1 = a * 3 + 2 := by omega
      have n20 : ¬ c * 3 + 2 = a * 3 := by omega
      have n21 : ¬ c * 3 + 2 = a * 3 + 1 := by omega
      have n22 : ¬ c * 3 + 2 = a * 3 + 2 := by omega
      clear HR
      go_wp2_with fail
      go_region
      all_goals (try go_wp2)
      all_goals go_roundw
      case rel => exact ⟨a + 1, (c : Int) - 1, (L'.set a y).set c x, by go_num, rfl, by omega, by omega, by omega, by show _ = _; rw [List.length_set, List.length_set]; exact hLl, rows_drew HS.out⟩
      case measure => simp [intOf]; omega
    · go_wp2_with fail
      refine bodyPost_end (v := .tuple #[]) (results_none rfl _ _) rfl ?_
      exact ⟨rfl, L', HL.out, HR.out⟩
theorem reverse_none (cap : Nat) (w : World) : Calls Try.prog 71 #[.slice none 0 cap] w fun e w' => e = .returned (.tuple #[]) ∧ w = w' := by
  go_enter Try.func71, Try.ntmps71
  go_wp2_with fail
  refine wp_loop_rounds 1 ?_
  rw [rounds_succ]
  go_wp2_with fail
  refine bodyPost_end (v := .tuple #[]) (results_none rfl _ _) rfl ?_
  exact ⟨rfl, rfl⟩
theorem upd_row {b g : Nat} {w w' : World} (h : w.grownBy w' (some g)) : Upd b (some ⟨g, 0, none⟩) w w' := ⟨h.os, h.tape, h.output, h.size, fun k hk _ h2 => h.block k hk (fun e => h2 (by rw [e]; rfl))⟩
set_option maxRecDepth 100000 in
theorem reverse_some (B b : Nat) (ad : Option Addr) (cap : Nat) (L : List (Int × Int × ByteArray)) (hl : L.length ≤ 2000000) (w : World) (h : IsL B b ad cap w L) :
    Calls Try.prog 21 #[.pointer (some ⟨b, 0, none⟩)] w fun e w' => e = .returned (.tuple #[]) ∧ Upd b ad w w' := by
  obtain ⟨c0, z0⟩ := isL_cell h
  rcases h.own.2 with ⟨hv, hn⟩ | ⟨g, c, cur, hv, _⟩
  · simp only [Value.slice.injEq] at hv
    obtain ⟨rfl, _, rfl⟩ := hv
    rw [hn] at c0
    clear h
    go_enter Try.func21, Try.ntmps21
    go_wp2_with fail
    refine (reverse_none 0 w).mono ?_
    rintro e _ ⟨rfl, rfl⟩
    go_wp2_with fail
    refine bodyPost_end (v := .tuple #[]) (results_none rfl _ _) rfl ?_
    exact ⟨rfl, ⟨rfl, rfl, rfl, Nat.le_refl _, fun _ _ _ _ => rfl⟩⟩
  · simp only [Value.slice.injEq] at hv
    have had : ad = some ⟨g, 0, none⟩ := hv.1
    clear hv
    subst had
    have HR := Lib.hid (reverse_row B g cap L hl w h.own)
    clear h
    go_enter Try.func21, Try.ntmps21
    go_wp2_with fail
    refine HR.out.mono ?_
    intro e w1 hh
    have he := hh.1
    subst he
    obtain ⟨L', hL, hR⟩ := hh.2
    have HU := Lib.hid (upd_row (b := b) hR.2)
    clear hR hL hh HR
    go_wp2_with fail
    refine bodyPost_end (v := .tuple #[]) (results_none rfl _ _) rfl ?_
    exact ⟨rfl, HU.out⟩
end Go.Proofs.Ytfngndbpgegnaaa.Li
