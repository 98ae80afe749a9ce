/- exprKids, the other kinds. -/
import Derived.Test.YtaonojimpfhkfaaAst6
import Derived.Deep.RegionHeld3
namespace Go.Proofs.Ytaonojimpfhkfaa.As
open Go.RowKit Go.ChangeShapes Go.WideShapes Go.ChangeAt

def nvk (k loc : Int) (text : ByteArray) (num : Int) (ka : Option Addr) (nk kc : Nat) : Array Value := #[.int .i64 k, .int .i64 loc, .string text, .int .i64 num, .slice ka nk kc]
section
variable {w : World} {c : Nat} {A : Option Addr} {ks : List Int} (loc num : Int) (text : ByteArray) (ka : Option Addr) (nk kc : Nat)
set_option maxRecDepth 100000 in
set_option maxHeartbeats 4000000 in
theorem ex_17 (h : RowI w w.heap.size A ks) (hl : ks.length ≤ 1000000) (hlc : ks.length ≤ c) :
    Calls Try.prog 57 #[.agg #[.int .i64 17, .int .i64 loc, .string text, .int .i64 num, .slice ka nk kc], .slice A ks.length c] w fun e w' => e = .returned (.bool (headB ks .e .e)) ∧ Below w.heap.size w w' := by
  have HB := Lib.hid (bel1 w (.cells #[.int .i64 17, .int .i64 loc, .string text, .int .i64 num, .slice ka nk kc] 37))
  have HC := Lib.hid (headed_e (B2 := 0) (B3 := 0) (c := c) (v := .func (.func 21) #[] #[]) (u := .func (.func 21) #[] #[]) .e (h.below (B' := w.heap.size) HB.out (Nat.le_refl _) (Nat.le_refl _)) hl hlc rfl rfl)
  clear h hlc
  generalize headB ks .e .e = b at *
  go_enter Try.func57, Try.ntmps57
  go_wp2_with fail
  refine HC.out.mono ?_
  rintro e w' ⟨rfl, rfl⟩
  go_wp2_with fail
  go_ret
  exact ⟨rfl, HB.out⟩
set_option maxRecDepth 100000 in
set_option maxHeartbeats 4000000 in
theorem ex_18 (h : RowI w w.heap.size A ks) (hl : ks.length ≤ 1000000) :
    Calls Try.prog 57 #[.agg #[.int .i64 18, .int .i64 loc, .string text, .int .i64 num, .slice ka nk kc], .slice A ks.length c] w fun e w' => e = .returned (.bool (allB ks .e)) ∧ Below w.heap.size w w' := by
  have HB := Lib.hid (bel1 w (.cells #[.int .i64 18, .int .i64 loc, .string text, .int .i64 num, .slice ka nk kc] 37))
  have HC := Lib.hid (all_any (B2 := 0) (c := c) (v := .func (.func 21) #[] #[]) .e (h.below (B' := w.heap.size) HB.out (Nat.le_refl _) (Nat.le_refl _)) hl rfl)
  clear h
  generalize allB ks .e = b at *
  go_enter Try.func57, Try.ntmps57
  go_wp2_with fail
  refine HC.out.mono ?_
  rintro e w' ⟨rfl, rfl⟩
  go_wp2_with fail
  go_ret
  exact ⟨rfl, HB.out⟩
set_option maxRecDepth 100000 in
set_option maxHeartbeats 4000000 in
theorem ex_19 (h : RowI w w.heap.size A ks) (hl : ks.length ≤ 1000000) :
    Calls Try.prog 57 #[.agg #[.int .i64 19, .int .i64 loc, .string text, .int .i64 num, .slice ka nk kc], .slice A ks.length c] w fun e w' => e = .returned (.bool (decide (ks.length % 2 = 0) && allB ks .e)) ∧ Below w.heap.size w w' := by
  have HB := Lib.hid (bel1 w (.cells #[.int .i64 19, .int .i64 loc, .string text, .int .i64 num, .slice ka nk kc] 37))
  have HC := Lib.hid (all_any (B2 := 0) (c := c) (v := .func (.func 21) #[] #[]) .e (h.below (B' := w.heap.size) HB.out (Nat.le_refl _) (Nat.le_refl _)) hl rfl)
  clear h
  generalize allB ks .e = b at *
  by_cases h2 : ks.length % 2 = 0
  · have hx : ((ks.length : Int) % 2 == 0) = true := by simp; omega
    have HE : Hid ((decide (ks.length % 2 = 0) && b) = b) := by show _ = _; rw [decide_eq_true h2]; rfl
    clear h2
    go_enter Try.func57, Try.ntmps57
    go_wp2_with fail
    refine HC.out.mono ?_
    rintro e w' ⟨rfl, rfl⟩
    go_wp2_with fail
    go_ret
    exact ⟨ret_b HE.out.symm, HB.out⟩
  · have hx : ((ks.length : Int) % 2 == 0) = false := by simp; omega
    have HE : Hid ((decide (ks.length % 2 = 0) && b) = false) := by show _ = _; rw [decide_eq_false h2]; rfl
    clear h2
    go_enter Try.func57, Try.ntmps57
    go_wp2_with fail
    go_ret
    exact ⟨ret_b HE.out.symm, HB.out⟩
set_option maxRecDepth 100000 in
set_option maxHeartbeats 4000000 in
theorem ex_22 (h : RowI w w.heap.size A ks) (hl : ks.length ≤ 1000000) :
    Calls Try.prog 57 #[.agg #[.int .i64 22, .int .i64 loc, .string text, .int .i64 num, .slice ka nk kc], .slice A ks.length c] w fun e w' => e = .returned (.bool (rowB ks [.pe])) ∧ Below w.heap.size w w' := by
  generalize hR : rowB ks [.pe] = R
  have HR := Lib.hid hR
  clear hR
  have HB := Lib.hid (bel1 w (.cells #[.int .i64 22, .int .i64 loc, .string text, .int .i64 num, .slice ka nk kc] 37))
  have HH := Lib.hid h
  have HL := Lib.hid hl
  clear h hl
  go_enter Try.func57, Try.ntmps57
  go_wp2_with fail
  refine (mkpe_any _).mono ?_
  rintro e w2 ⟨v, rfl, hv, hb⟩
  have hv0 := hv
  obtain ⟨gv, rfl, _, _⟩ := hv0
  have hb2 := HB.out.trans (hb.mono HB.out.size)
  have hb3 := hb2.alloc hb2.size (.cells #[.func (.func 70) #[] #[.pointer (some ⟨gv, 0, none⟩)]] 50)
  have HC := Lib.hid (row_any (w := w2.alloc (.cells #[.func (.func 70) #[] #[.pointer (some ⟨gv, 0, none⟩)]] 50)) (c := c) (mc := 1) (ts := [.pe]) (HH.out.below (B' := w.heap.size) hb3 (Nat.le_refl _) (Nat.le_refl _)) HL.out (rowT1 (B := w2.heap.size) (new1 w2 _) (hv.keep (Nat.le_refl _) fun b hb => (bel1 w2 _).block b hb)) (by decide))
  have HB3 := Lib.hid hb3
  clear hv hb hb2 hb3
  go_wp2_with fail
  refine HC.out.mono ?_
  rintro e w' ⟨rfl, rfl⟩
  go_wp2_with fail
  go_ret
  exact ⟨ret_b HR.out, HB3.out⟩
set_option maxRecDepth 100000 in
set_option maxHeartbeats 4000000 in
theorem ex_24 (h : RowI w w.heap.size A ks) (hl : ks.length ≤ 1000000) (hlc : ks.length ≤ c) :
    Calls Try.prog 57 #[.agg #[.int .i64 24, .int .i64 loc, .string text, .int .i64 num, .slice ka nk kc], .slice A ks.length c] w fun e w' => e = .returned (.bool (headB ks .pe .s)) ∧ Below w.heap.size w w' := by
  generalize hR : headB ks .pe .s = R
  have HR := Lib.hid hR
  clear hR
  have HB := Lib.hid (bel1 w (.cells #[.int .i64 24, .int .i64 loc, .string text, .int .i64 num, .slice ka nk kc] 37))
  have HH := Lib.hid h
  have HL := Lib.hid hl
  have HLC := Lib.hid hlc
  clear h hl hlc
  go_enter Try.func57, Try.ntmps57
  go_wp2_with fail
  refine (mkpe_any _).mono ?_
  rintro e w2 ⟨v, rfl, hv, hb⟩
  have hb2 := HB.out.trans (hb.mono HB.out.size)
  have HC := Lib.hid (headed_pe (w := w2) (B2 := w2.heap.size) (B3 := 0) (c := c) (u := .func (.func 23) #[] #[]) .s (HH.out.below (B' := w.heap.size) hb2 (Nat.le_refl _) (Nat.le_refl _)) HL.out HLC.out hv rfl)
  have HB3 := Lib.hid hb2
  clear hv hb hb2
  go_wp2_with fail
  refine HC.out.mono ?_
  rintro e w' ⟨rfl, rfl⟩
  go_wp2_with fail
  go_ret
  exact ⟨ret_b HR.out, HB3.out⟩
set_option maxRecDepth 100000 in
set_option maxHeartbeats 4000000 in
theorem ex_21 (h : RowI w w.heap.size A ks) (hl : ks.length ≤ 1000000) (hlc : ks.length ≤ c) :
    Calls Try.prog 57 #[.agg #[.int .i64 21, .int .i64 loc, .string text, .int .i64 num, .slice ka nk kc], .slice A ks.length c] w fun e w' => e = .returned (.bool (headB ks .pe (.one [23]))) ∧ Below w.heap.size w w' := by
  generalize hR : headB ks .pe (.one [23]) = R
  have HR := Lib.hid hR
  clear hR
  have HB := Lib.hid (bel1 w (.cells #[.int .i64 21, .int .i64 loc, .string text, .int .i64 num, .slice ka nk kc] 37))
  have HH := Lib.hid h
  have HL := Lib.hid hl
  have HLC := Lib.hid hlc
  clear h hl hlc
  go_enter Try.func57, Try.ntmps57
  go_wp2_with fail
  refine (mkpe_any _).mono ?_
  rintro e w2 ⟨v, rfl, hv, hb⟩
  have hb2 := HB.out.trans (hb.mono HB.out.size)
  have hb3 := hb2.alloc hb2.size (.cells #[.int .i64 23] 3)
  have hv2 := hv.keep (Nat.le_refl _) fun b hb => (bel1 w2 (.cells #[.int .i64 23] 3)).block b hb
  have HB3 := Lib.hid hb3
  have HV2 := Lib.hid hv2
  clear hv hb hb2 hb3 hv2
  go_wp2_with fail
  refine (mkone_any (ks := [23]) (c := 1) (rowI_new (new1 w2 _) (by simp)) (by decide)).mono ?_
  rintro e w3 ⟨u, rfl, hu, hb⟩
  have hb4 := HB3.out.trans (hb.mono HB3.out.size)
  have hv3 := HV2.out.keep (w' := w3) (Nat.le_refl _) fun b hb' => hb.block b (by simp; omega)
  have HC := Lib.hid (headed_pe (w := w3) (B2 := w2.heap.size) (B3 := w3.heap.size) (c := c) (.one [23]) (HH.out.below (B' := w.heap.size) hb4 (Nat.le_refl _) (Nat.le_refl _)) HL.out HLC.out hv3 hu)
  have HB4 := Lib.hid hb4
  clear hv3 hu hb hb4
  go_wp2_with fail
  refine HC.out.mono ?_
  rintro e w' ⟨rfl, rfl⟩
  go_wp2_with fail
  go_ret
  exact ⟨ret_b HR.out, HB4.out⟩
end
end Go.Proofs.Ytaonojimpfhkfaa.As
