/- stmtKids. -/
import Derived.Test.YtaonojimpfhkfaaAst9
namespace Go.Proofs.Ytaonojimpfhkfaa.As
open Go.RowKit Go.ChangeShapes Go.WideShapes Go.ChangeAt

set_option maxRecDepth 100000 in
set_option maxHeartbeats 4000000 in
theorem st_26 {w : World} {c : Nat} {A : Option Addr} {ks : List Int} (h : RowI w w.heap.size A ks) (hl : ks.length ≤ 1000000) :
    Calls Try.prog 56 #[.int .i64 26, .slice A ks.length c] w fun e w' => e = .returned (.bool (allB ks .s)) ∧ Below w.heap.size w w' := by
  generalize hR : (allB ks .s) = R
  have HR := Lib.hid hR
  have HH := Lib.hid h
  have HL := Lib.hid hl
  clear hR h hl
  go_enter Try.func56, Try.ntmps56
  go_wp2_with fail
  refine (mkone_any (w := w.alloc (.cells #[.int .i64 26] 3)) (ks := [26]) (c := 1) (rowI_new (new1 w _) (by simp)) (by decide)).mono ?_
  rintro e w1 ⟨v1, rfl, hv1, hb1⟩
  have HN1 := Lib.hid hv1
  obtain ⟨g1, A1, c1, rfl, _, _, _, _⟩ := hv1
  have hq1 := (bel1 w (.cells #[.int .i64 26] 3)).trans (hb1.mono (by simp))
  have HQ1 := Lib.hid hq1
  have HB1 := Lib.hid (Below.trans (Below.refl w.heap.size w) (hq1.mono (Below.refl w.heap.size w).size))
  clear hq1 HQ1
  clear hb1
  have HC := Lib.hid (all_any (w := w1) (B2 := 0) (c := c) (v := .func (.func 23) #[] #[]) (.s) (HH.out.below (B' := w.heap.size) HB1.out (Nat.le_refl _) (Nat.le_refl _)) HL.out rfl)
  go_wp2_with fail
  refine HC.out.mono ?_
  rintro e w' ⟨rfl, rfl⟩
  go_wp2_with fail
  go_ret
  exact ⟨ret_b HR.out, HB1.out⟩
set_option maxRecDepth 100000 in
set_option maxHeartbeats 4000000 in
theorem st_27 {w : World} {c : Nat} {A : Option Addr} {ks : List Int} (h : RowI w w.heap.size A ks) (hl : ks.length ≤ 1000000) :
    Calls Try.prog 56 #[.int .i64 27, .slice A ks.length c] w fun e w' => e = .returned (.bool (rowB ks [.pe])) ∧ Below w.heap.size w w' := by
  generalize hR : (rowB ks [.pe]) = R
  have HR := Lib.hid hR
  have HH := Lib.hid h
  have HL := Lib.hid hl
  clear hR h hl
  go_enter Try.func56, Try.ntmps56
  go_wp2_with fail
  refine (mkone_any (w := w.alloc (.cells #[.int .i64 26] 3)) (ks := [26]) (c := 1) (rowI_new (new1 w _) (by simp)) (by decide)).mono ?_
  rintro e w1 ⟨v1, rfl, hv1, hb1⟩
  have HN1 := Lib.hid hv1
  obtain ⟨g1, A1, c1, rfl, _, _, _, _⟩ := hv1
  have hq1 := (bel1 w (.cells #[.int .i64 26] 3)).trans (hb1.mono (by simp))
  have HQ1 := Lib.hid hq1
  have HB1 := Lib.hid (Below.trans (Below.refl w.heap.size w) (hq1.mono (Below.refl w.heap.size w).size))
  clear hq1 HQ1
  clear hb1
  go_wp2_with fail
  refine (mkpe_any w1).mono ?_
  rintro e w2 ⟨v2, rfl, hv2, hb2⟩
  have HN2 := Lib.hid hv2
  obtain ⟨g2, rfl, _, _⟩ := hv2
  have hq2 := hb2
  have HQ2 := Lib.hid hq2
  have HB2 := Lib.hid (Below.trans HB1.out (hq2.mono HB1.out.size))
  have Hbl2 := Lib.hid (HN1.out.keep hq2.size fun b hb => hq2.block b hb)
  clear HN1
  clear hq2 HQ2
  clear hb2
  have hz := (HB2.out).alloc HB2.out.size (.cells #[.func (.func 70) #[] #[.pointer (some ⟨g2, 0, none⟩)]] 50)
  have HC := Lib.hid (row_any (w := w2.alloc (.cells #[.func (.func 70) #[] #[.pointer (some ⟨g2, 0, none⟩)]] 50)) (c := c) (mc := 1) (ts := [.pe]) (HH.out.below (B' := w.heap.size) hz (Nat.le_refl _) (Nat.le_refl _)) HL.out (rowT1 (B := w2.heap.size) (new1 w2 _) (TsV.keep (t := .pe) HN2.out (Nat.le_refl _) fun b hb => (bel1 w2 _).block b hb)) (by decide))
  have HZ := Lib.hid hz
  clear hz
  go_wp2_with fail
  refine HC.out.mono ?_
  rintro e w' ⟨rfl, rfl⟩
  go_wp2_with fail
  go_ret
  exact ⟨ret_b HR.out, HZ.out⟩
set_option maxRecDepth 100000 in
set_option maxHeartbeats 4000000 in
theorem st_37 {w : World} {c : Nat} {A : Option Addr} {ks : List Int} (h : RowI w w.heap.size A ks) (hl : ks.length ≤ 1000000) :
    Calls Try.prog 56 #[.int .i64 37, .slice A ks.length c] w fun e w' => e = .returned (.bool (rowB ks [.pe])) ∧ Below w.heap.size w w' := by
  generalize hR : (rowB ks [.pe]) = R
  have HR := Lib.hid hR
  have HH := Lib.hid h
  have HL := Lib.hid hl
  clear hR h hl
  go_enter Try.func56, Try.ntmps56
  go_wp2_with fail
  refine (mkone_any (w := w.alloc (.cells #[.int .i64 26] 3)) (ks := [26]) (c := 1) (rowI_new (new1 w _) (by simp)) (by decide)).mono ?_
  rintro e w1 ⟨v1, rfl, hv1, hb1⟩
  have HN1 := Lib.hid hv1
  obtain ⟨g1, A1, c1, rfl, _, _, _, _⟩ := hv1
  have hq1 := (bel1 w (.cells #[.int .i64 26] 3)).trans (hb1.mono (by simp))
  have HQ1 := Lib.hid hq1
  have HB1 := Lib.hid (Below.trans (Below.refl w.heap.size w) (hq1.mono (Below.refl w.heap.size w).size))
  clear hq1 HQ1
  clear hb1
  go_wp2_with fail
  refine (mkpe_any w1).mono ?_
  rintro e w2 ⟨v2, rfl, hv2, hb2⟩
  have HN2 := Lib.hid hv2
  obtain ⟨g2, rfl, _, _⟩ := hv2
  have hq2 := hb2
  have HQ2 := Lib.hid hq2
  have HB2 := Lib.hid (Below.trans HB1.out (hq2.mono HB1.out.size))
  have Hbl2 := Lib.hid (HN1.out.keep hq2.size fun b hb => hq2.block b hb)
  clear HN1
  clear hq2 HQ2
  clear hb2
  have hz := (HB2.out).alloc HB2.out.size (.cells #[.func (.func 70) #[] #[.pointer (some ⟨g2, 0, none⟩)]] 50)
  have HC := Lib.hid (row_any (w := w2.alloc (.cells #[.func (.func 70) #[] #[.pointer (some ⟨g2, 0, none⟩)]] 50)) (c := c) (mc := 1) (ts := [.pe]) (HH.out.below (B' := w.heap.size) hz (Nat.le_refl _) (Nat.le_refl _)) HL.out (rowT1 (B := w2.heap.size) (new1 w2 _) (TsV.keep (t := .pe) HN2.out (Nat.le_refl _) fun b hb => (bel1 w2 _).block b hb)) (by decide))
  have HZ := Lib.hid hz
  clear hz
  go_wp2_with fail
  refine HC.out.mono ?_
  rintro e w' ⟨rfl, rfl⟩
  go_wp2_with fail
  go_ret
  exact ⟨ret_b HR.out, HZ.out⟩
set_option maxRecDepth 100000 in
set_option maxHeartbeats 4000000 in
theorem st_38 {w : World} {c : Nat} {A : Option Addr} {ks : List Int} (h : RowI w w.heap.size A ks) (hl : ks.length ≤ 1000000) :
    Calls Try.prog 56 #[.int .i64 38, .slice A ks.length c] w fun e w' => e = .returned (.bool (rowB ks [.pe])) ∧ Below w.heap.size w w' := by
  generalize hR : (rowB ks [.pe]) = R
  have HR := Lib.hid hR
  have HH := Lib.hid h
  have HL := Lib.hid hl
  clear hR h hl
  go_enter Try.func56, Try.ntmps56
  go_wp2_with fail
  refine (mkone_any (w := w.alloc (.cells #[.int .i64 26] 3)) (ks := [26]) (c := 1) (rowI_new (new1 w _) (by simp)) (by decide)).mono ?_
  rintro e w1 ⟨v1, rfl, hv1, hb1⟩
  have HN1 := Lib.hid hv1
  obtain ⟨g1, A1, c1, rfl, _, _, _, _⟩ := hv1
  have hq1 := (bel1 w (.cells #[.int .i64 26] 3)).trans (hb1.mono (by simp))
  have HQ1 := Lib.hid hq1
  have HB1 := Lib.hid (Below.trans (Below.refl w.heap.size w) (hq1.mono (Below.refl w.heap.size w).size))
  clear hq1 HQ1
  clear hb1
  go_wp2_with fail
  refine (mkpe_any w1).mono ?_
  rintro e w2 ⟨v2, rfl, hv2, hb2⟩
  have HN2 := Lib.hid hv2
  obtain ⟨g2, rfl, _, _⟩ := hv2
  have hq2 := hb2
  have HQ2 := Lib.hid hq2
  have HB2 := Lib.hid (Below.trans HB1.out (hq2.mono HB1.out.size))
  have Hbl2 := Lib.hid (HN1.out.keep hq2.size fun b hb => hq2.block b hb)
  clear HN1
  clear hq2 HQ2
  clear hb2
  have hz := (HB2.out).alloc HB2.out.size (.cells #[.func (.func 70) #[] #[.pointer (some ⟨g2, 0, none⟩)]] 50)
  have HC := Lib.hid (row_any (w := w2.alloc (.cells #[.func (.func 70) #[] #[.pointer (some ⟨g2, 0, none⟩)]] 50)) (c := c) (mc := 1) (ts := [.pe]) (HH.out.below (B' := w.heap.size) hz (Nat.le_refl _) (Nat.le_refl _)) HL.out (rowT1 (B := w2.heap.size) (new1 w2 _) (TsV.keep (t := .pe) HN2.out (Nat.le_refl _) fun b hb => (bel1 w2 _).block b hb)) (by decide))
  have HZ := Lib.hid hz
  clear hz
  go_wp2_with fail
  refine HC.out.mono ?_
  rintro e w' ⟨rfl, rfl⟩
  go_wp2_with fail
  go_ret
  exact ⟨ret_b HR.out, HZ.out⟩
set_option maxRecDepth 100000 in
set_option maxHeartbeats 4000000 in
theorem st_28 {w : World} {c : Nat} {A : Option Addr} {ks : List Int} (h : RowI w w.heap.size A ks) (hl : ks.length ≤ 1000000) :
    Calls Try.prog 56 #[.int .i64 28, .slice A ks.length c] w fun e w' => e = .returned (.bool (rowB ks [.e])) ∧ Below w.heap.size w w' := by
  generalize hR : (rowB ks [.e]) = R
  have HR := Lib.hid hR
  have HH := Lib.hid h
  have HL := Lib.hid hl
  clear hR h hl
  go_enter Try.func56, Try.ntmps56
  go_wp2_with fail
  refine (mkone_any (w := w.alloc (.cells #[.int .i64 26] 3)) (ks := [26]) (c := 1) (rowI_new (new1 w _) (by simp)) (by decide)).mono ?_
  rintro e w1 ⟨v1, rfl, hv1, hb1⟩
  have HN1 := Lib.hid hv1
  obtain ⟨g1, A1, c1, rfl, _, _, _, _⟩ := hv1
  have hq1 := (bel1 w (.cells #[.int .i64 26] 3)).trans (hb1.mono (by simp))
  have HQ1 := Lib.hid hq1
  have HB1 := Lib.hid (Below.trans (Below.refl w.heap.size w) (hq1.mono (Below.refl w.heap.size w).size))
  clear hq1 HQ1
  clear hb1
  have hz := (HB1.out).alloc HB1.out.size (.cells #[.func (.func 21) #[] #[]] 50)
  have HC := Lib.hid (row_any (w := w1.alloc (.cells #[.func (.func 21) #[] #[]] 50)) (c := c) (mc := 1) (ts := [.e]) (HH.out.below (B' := w.heap.size) hz (Nat.le_refl _) (Nat.le_refl _)) HL.out (rowT1 (B := w1.heap.size) (new1 w1 _) rfl) (by decide))
  have HZ := Lib.hid hz
  clear hz
  go_wp2_with fail
  refine HC.out.mono ?_
  rintro e w' ⟨rfl, rfl⟩
  go_wp2_with fail
  go_ret
  exact ⟨ret_b HR.out, HZ.out⟩
set_option maxRecDepth 100000 in
set_option maxHeartbeats 4000000 in
theorem st_39 {w : World} {c : Nat} {A : Option Addr} {ks : List Int} (h : RowI w w.heap.size A ks) (hl : ks.length ≤ 1000000) :
    Calls Try.prog 56 #[.int .i64 39, .slice A ks.length c] w fun e w' => e = .returned (.bool (rowB ks [.e])) ∧ Below w.heap.size w w' := by
  generalize hR : (rowB ks [.e]) = R
  have HR := Lib.hid hR
  have HH := Lib.hid h
  have HL := Lib.hid hl
  clear hR h hl
  go_enter Try.func56, Try.ntmps56
  go_wp2_with fail
  refine (mkone_any (w := w.alloc (.cells #[.int .i64 26] 3)) (ks := [26]) (c := 1) (rowI_new (new1 w _) (by simp)) (by decide)).mono ?_
  rintro e w1 ⟨v1, rfl, hv1, hb1⟩
  have HN1 := Lib.hid hv1
  obtain ⟨g1, A1, c1, rfl, _, _, _, _⟩ := hv1
  have hq1 := (bel1 w (.cells #[.int .i64 26] 3)).trans (hb1.mono (by simp))
  have HQ1 := Lib.hid hq1
  have HB1 := Lib.hid (Below.trans (Below.refl w.heap.size w) (hq1.mono (Below.refl w.heap.size w).size))
  clear hq1 HQ1
  clear hb1
  have hz := (HB1.out).alloc HB1.out.size (.cells #[.func (.func 21) #[] #[]] 50)
  have HC := Lib.hid (row_any (w := w1.alloc (.cells #[.func (.func 21) #[] #[]] 50)) (c := c) (mc := 1) (ts := [.e]) (HH.out.below (B' := w.heap.size) hz (Nat.le_refl _) (Nat.le_refl _)) HL.out (rowT1 (B := w1.heap.size) (new1 w1 _) rfl) (by decide))
  have HZ := Lib.hid hz
  clear hz
  go_wp2_with fail
  refine HC.out.mono ?_
  rintro e w' ⟨rfl, rfl⟩
  go_wp2_with fail
  go_ret
  exact ⟨ret_b HR.out, HZ.out⟩
set_option maxRecDepth 100000 in
set_option maxHeartbeats 4000000 in
theorem st_29 {w : World} {c : Nat} {A : Option Addr} {ks : List Int} (h : RowI w w.heap.size A ks) (hl : ks.length ≤ 1000000) :
    Calls Try.prog 56 #[.int .i64 29, .slice A ks.length c] w fun e w' => e = .returned (.bool (rowB ks [.e, .one [26], .po [26, 29]])) ∧ Below w.heap.size w w' := by
  generalize hR : (rowB ks [.e, .one [26], .po [26, 29]]) = R
  have HR := Lib.hid hR
  have HH := Lib.hid h
  have HL := Lib.hid hl
  clear hR h hl
  go_enter Try.func56, Try.ntmps56
  go_wp2_with fail
  refine (mkone_any (w := w.alloc (.cells #[.int .i64 26] 3)) (ks := [26]) (c := 1) (rowI_new (new1 w _) (by simp)) (by decide)).mono ?_
  rintro e w1 ⟨v1, rfl, hv1, hb1⟩
  have HN1 := Lib.hid hv1
  obtain ⟨g1, A1, c1, rfl, _, _, _, _⟩ := hv1
  have hq1 := (bel1 w (.cells #[.int .i64 26] 3)).trans (hb1.mono (by simp))
  have HQ1 := Lib.hid hq1
  have HB1 := Lib.hid (Below.trans (Below.refl w.heap.size w) (hq1.mono (Below.refl w.heap.size w).size))
  clear hq1 HQ1
  clear hb1
  go_wp2_with fail
  refine (mkone_any (w := w1.alloc (.cells #[.int .i64 26, .int .i64 29] 3)) (ks := [26, 29]) (c := 2) (rowI_new (new1 w1 _) (by simp)) (by decide)).mono ?_
  rintro e w2 ⟨v2, rfl, hv2, hb2⟩
  have HN2 := Lib.hid hv2
  obtain ⟨g2, A2, c2, rfl, _, _, _, _⟩ := hv2
  have hq2 := (bel1 w1 (.cells #[.int .i64 26, .int .i64 29] 3)).trans (hb2.mono (by simp))
  have HQ2 := Lib.hid hq2
  have HB2 := Lib.hid (Below.trans HB1.out (hq2.mono HB1.out.size))
  have Hbl2 := Lib.hid (HN1.out.keep hq2.size fun b hb => hq2.block b hb)
  clear HN1
  clear hq2 HQ2
  clear hb2
  go_wp2_with fail
  refine (mkpo_any HN2.out).mono ?_
  rintro e w3 ⟨v3, rfl, hv3, hb3⟩
  have HN3 := Lib.hid hv3
  obtain ⟨g3, u3, rfl, _, _, _⟩ := hv3
  clear HN2
  have hq3 := hb3
  have HQ3 := Lib.hid hq3
  have HB3 := Lib.hid (Below.trans HB2.out (hq3.mono HB2.out.size))
  have Hbl3 := Lib.hid (Hbl2.out.keep hq3.size fun b hb => hq3.block b hb)
  clear Hbl2
  clear hq3 HQ3
  clear hb3
  have hz := (HB3.out).alloc HB3.out.size (.cells #[.func (.func 21) #[] #[], .func (.func 62) #[] #[.pointer (some ⟨g1, 0, none⟩)], .func (.func 70) #[] #[.pointer (some ⟨g3, 0, none⟩)]] 50)
  have HC := Lib.hid (row_any (w := w3.alloc (.cells #[.func (.func 21) #[] #[], .func (.func 62) #[] #[.pointer (some ⟨g1, 0, none⟩)], .func (.func 70) #[] #[.pointer (some ⟨g3, 0, none⟩)]] 50)) (c := c) (mc := 3) (ts := [.e, .one [26], .po [26, 29]]) (HH.out.below (B' := w.heap.size) hz (Nat.le_refl _) (Nat.le_refl _)) HL.out (rowT3 (B := w3.heap.size) (new1 w3 _) rfl (TsV.keep (t := .one [26]) Hbl3.out (Nat.le_refl _) fun b hb => (bel1 w3 _).block b hb) (TsV.keep (t := .po [26, 29]) HN3.out (Nat.le_refl _) fun b hb => (bel1 w3 _).block b hb)) (by decide))
  have HZ := Lib.hid hz
  clear hz
  go_wp2_with fail
  refine HC.out.mono ?_
  rintro e w' ⟨rfl, rfl⟩
  go_wp2_with fail
  go_ret
  exact ⟨ret_b HR.out, HZ.out⟩
set_option maxRecDepth 100000 in
set_option maxHeartbeats 4000000 in
theorem st_30 {w : World} {c : Nat} {A : Option Addr} {ks : List Int} (h : RowI w w.heap.size A ks) (hl : ks.length ≤ 1000000) :
    Calls Try.prog 56 #[.int .i64 30, .slice A ks.length c] w fun e w' => e = .returned (.bool (rowB ks [.e, .one [26]])) ∧ Below w.heap.size w w' := by
  generalize hR : (rowB ks [.e, .one [26]]) = R
  have HR := Lib.hid hR
  have HH := Lib.hid h
  have HL := Lib.hid hl
  clear hR h hl
  go_enter Try.func56, Try.ntmps56
  go_wp2_with fail
  refine (mkone_any (w := w.alloc (.cells #[.int .i64 26] 3)) (ks := [26]) (c := 1) (rowI_new (new1 w _) (by simp)) (by decide)).mono ?_
  rintro e w1 ⟨v1, rfl, hv1, hb1⟩
  have HN1 := Lib.hid hv1
  obtain ⟨g1, A1, c1, rfl, _, _, _, _⟩ := hv1
  have hq1 := (bel1 w (.cells #[.int .i64 26] 3)).trans (hb1.mono (by simp))
  have HQ1 := Lib.hid hq1
  have HB1 := Lib.hid (Below.trans (Below.refl w.heap.size w) (hq1.mono (Below.refl w.heap.size w).size))
  clear hq1 HQ1
  clear hb1
  have hz := (HB1.out).alloc HB1.out.size (.cells #[.func (.func 21) #[] #[], .func (.func 62) #[] #[.pointer (some ⟨g1, 0, none⟩)]] 50)
  have HC := Lib.hid (row_any (w := w1.alloc (.cells #[.func (.func 21) #[] #[], .func (.func 62) #[] #[.pointer (some ⟨g1, 0, none⟩)]] 50)) (c := c) (mc := 2) (ts := [.e, .one [26]]) (HH.out.below (B' := w.heap.size) hz (Nat.le_refl _) (Nat.le_refl _)) HL.out (rowT2 (B := w1.heap.size) (new1 w1 _) rfl (TsV.keep (t := .one [26]) HN1.out (Nat.le_refl _) fun b hb => (bel1 w1 _).block b hb)) (by decide))
  have HZ := Lib.hid hz
  clear hz
  go_wp2_with fail
  refine HC.out.mono ?_
  rintro e w' ⟨rfl, rfl⟩
  go_wp2_with fail
  go_ret
  exact ⟨ret_b HR.out, HZ.out⟩
set_option maxRecDepth 100000 in
set_option maxHeartbeats 4000000 in
theorem st_33 {w : World} {c : Nat} {A : Option Addr} {ks : List Int} (h : RowI w w.heap.size A ks) (hl : ks.length ≤ 1000000) :
    Calls Try.prog 56 #[.int .i64 33, .slice A ks.length c] w fun e w' => e = .returned (.bool (rowB ks [.e, .one [26]])) ∧ Below w.heap.size w w' := by
  generalize hR : (rowB ks [.e, .one [26]]) = R
  have HR := Lib.hid hR
  have HH := Lib.hid h
  have HL := Lib.hid hl
  clear hR h hl
  go_enter Try.func56, Try.ntmps56
  go_wp2_with fail
  refine (mkone_any (w := w.alloc (.cells #[.int .i64 26] 3)) (ks := [26]) (c := 1) (rowI_new (new1 w _) (by simp)) (by decide)).mono ?_
  rintro e w1 ⟨v1, rfl, hv1, hb1⟩
  have HN1 := Lib.hid hv1
  obtain ⟨g1, A1, c1, rfl, _, _, _, _⟩ := hv1
  have hq1 := (bel1 w (.cells #[.int .i64 26] 3)).trans (hb1.mono (by simp))
  have HQ1 := Lib.hid hq1
  have HB1 := Lib.hid (Below.trans (Below.refl w.heap.size w) (hq1.mono (Below.refl w.heap.size w).size))
  clear hq1 HQ1
  clear hb1
  have hz := (HB1.out).alloc HB1.out.size (.cells #[.func (.func 21) #[] #[], .func (.func 62) #[] #[.pointer (some ⟨g1, 0, none⟩)]] 50)
  have HC := Lib.hid (row_any (w := w1.alloc (.cells #[.func (.func 21) #[] #[], .func (.func 62) #[] #[.pointer (some ⟨g1, 0, none⟩)]] 50)) (c := c) (mc := 2) (ts := [.e, .one [26]]) (HH.out.below (B' := w.heap.size) hz (Nat.le_refl _) (Nat.le_refl _)) HL.out (rowT2 (B := w1.heap.size) (new1 w1 _) rfl (TsV.keep (t := .one [26]) HN1.out (Nat.le_refl _) fun b hb => (bel1 w1 _).block b hb)) (by decide))
  have HZ := Lib.hid hz
  clear hz
  go_wp2_with fail
  refine HC.out.mono ?_
  rintro e w' ⟨rfl, rfl⟩
  go_wp2_with fail
  go_ret
  exact ⟨ret_b HR.out, HZ.out⟩
set_option maxRecDepth 100000 in
set_option maxHeartbeats 4000000 in
theorem st_31 {w : World} {c : Nat} {A : Option Addr} {ks : List Int} (h : RowI w w.heap.size A ks) (hl : ks.length ≤ 1000000) :
    Calls Try.prog 56 #[.int .i64 31, .slice A ks.length c] w fun e w' => e = .returned (.bool (rowB ks [.one [26], .e])) ∧ Below w.heap.size w w' := by
  generalize hR : (rowB ks [.one [26], .e]) = R
  have HR := Lib.hid hR
  have HH := Lib.hid h
  have HL := Lib.hid hl
  clear hR h hl
  go_enter Try.func56, Try.ntmps56
  go_wp2_with fail
  refine (mkone_any (w := w.alloc (.cells #[.int .i64 26] 3)) (ks := [26]) (c := 1) (rowI_new (new1 w _) (by simp)) (by decide)).mono ?_
  rintro e w1 ⟨v1, rfl, hv1, hb1⟩
  have HN1 := Lib.hid hv1
  obtain ⟨g1, A1, c1, rfl, _, _, _, _⟩ := hv1
  have hq1 := (bel1 w (.cells #[.int .i64 26] 3)).trans (hb1.mono (by simp))
  have HQ1 := Lib.hid hq1
  have HB1 := Lib.hid (Below.trans (Below.refl w.heap.size w) (hq1.mono (Below.refl w.heap.size w).size))
  clear hq1 HQ1
  clear hb1
  have hz := (HB1.out).alloc HB1.out.size (.cells #[.func (.func 62) #[] #[.pointer (some ⟨g1, 0, none⟩)], .func (.func 21) #[] #[]] 50)
  have HC := Lib.hid (row_any (w := w1.alloc (.cells #[.func (.func 62) #[] #[.pointer (some ⟨g1, 0, none⟩)], .func (.func 21) #[] #[]] 50)) (c := c) (mc := 2) (ts := [.one [26], .e]) (HH.out.below (B' := w.heap.size) hz (Nat.le_refl _) (Nat.le_refl _)) HL.out (rowT2 (B := w1.heap.size) (new1 w1 _) (TsV.keep (t := .one [26]) HN1.out (Nat.le_refl _) fun b hb => (bel1 w1 _).block b hb) rfl) (by decide))
  have HZ := Lib.hid hz
  clear hz
  go_wp2_with fail
  refine HC.out.mono ?_
  rintro e w' ⟨rfl, rfl⟩
  go_wp2_with fail
  go_ret
  exact ⟨ret_b HR.out, HZ.out⟩
set_option maxRecDepth 100000 in
set_option maxHeartbeats 4000000 in
theorem st_32 {w : World} {c : Nat} {A : Option Addr} {ks : List Int} (h : RowI w w.heap.size A ks) (hl : ks.length ≤ 1000000) :
    Calls Try.prog 56 #[.int .i64 32, .slice A ks.length c] w fun e w' => e = .returned (.bool (rowB ks [.po [27, 28], .pe, .pe, .one [26]])) ∧ Below w.heap.size w w' := by
  generalize hR : (rowB ks [.po [27, 28], .pe, .pe, .one [26]]) = R
  have HR := Lib.hid hR
  have HH := Lib.hid h
  have HL := Lib.hid hl
  clear hR h hl
  go_enter Try.func56, Try.ntmps56
  go_wp2_with fail
  refine (mkone_any (w := w.alloc (.cells #[.int .i64 26] 3)) (ks := [26]) (c := 1) (rowI_new (new1 w _) (by simp)) (by decide)).mono ?_
  rintro e w1 ⟨v1, rfl, hv1, hb1⟩
  have HN1 := Lib.hid hv1
  obtain ⟨g1, A1, c1, rfl, _, _, _, _⟩ := hv1
  have hq1 := (bel1 w (.cells #[.int .i64 26] 3)).trans (hb1.mono (by simp))
  have HQ1 := Lib.hid hq1
  have HB1 := Lib.hid (Below.trans (Below.refl w.heap.size w) (hq1.mono (Below.refl w.heap.size w).size))
  clear hq1 HQ1
  clear hb1
  go_wp2_with fail
  refine (mkone_any (w := w1.alloc (.cells #[.int .i64 27, .int .i64 28] 3)) (ks := [27, 28]) (c := 2) (rowI_new (new1 w1 _) (by simp)) (by decide)).mono ?_
  rintro e w2 ⟨v2, rfl, hv2, hb2⟩
  have HN2 := Lib.hid hv2
  obtain ⟨g2, A2, c2, rfl, _, _, _, _⟩ := hv2
  have hq2 := (bel1 w1 (.cells #[.int .i64 27, .int .i64 28] 3)).trans (hb2.mono (by simp))
  have HQ2 := Lib.hid hq2
  have HB2 := Lib.hid (Below.trans HB1.out (hq2.mono HB1.out.size))
  have Hbl2 := Lib.hid (HN1.out.keep hq2.size fun b hb => hq2.block b hb)
  clear HN1
  clear hq2 HQ2
  clear hb2
  go_wp2_with fail
  refine (mkpo_any HN2.out).mono ?_
  rintro e w3 ⟨v3, rfl, hv3, hb3⟩
  have HN3 := Lib.hid hv3
  obtain ⟨g3, u3, rfl, _, _, _⟩ := hv3
  clear HN2
  have hq3 := hb3
  have HQ3 := Lib.hid hq3
  have HB3 := Lib.hid (Below.trans HB2.out (hq3.mono HB2.out.size))
  have Hbl3 := Lib.hid (Hbl2.out.keep hq3.size fun b hb => hq3.block b hb)
  clear Hbl2
  clear hq3 HQ3
  clear hb3
  go_wp2_with fail
  refine (mkpe_any w3).mono ?_
  rintro e w4 ⟨v4, rfl, hv4, hb4⟩
  have HN4 := Lib.hid hv4
  obtain ⟨g4, rfl, _, _⟩ := hv4
  have hq4 := hb4
  have HQ4 := Lib.hid hq4
  have HB4 := Lib.hid (Below.trans HB3.out (hq4.mono HB3.out.size))
  have Hbl4 := Lib.hid (Hbl3.out.keep hq4.size fun b hb => hq4.block b hb)
  clear Hbl3
  have Hq4 := Lib.hid (HN3.out.keep hq4.size fun b hb => hq4.block b hb)
  clear HN3
  clear hq4 HQ4
  clear hb4
  go_wp2_with fail
  refine (mkpe_any w4).mono ?_
  rintro e w5 ⟨v5, rfl, hv5, hb5⟩
  have HN5 := Lib.hid hv5
  obtain ⟨g5, rfl, _, _⟩ := hv5
  have hq5 := hb5
  have HQ5 := Lib.hid hq5
  have HB5 := Lib.hid (Below.trans HB4.out (hq5.mono HB4.out.size))
  have Hbl5 := Lib.hid (Hbl4.out.keep hq5.size fun b hb => hq5.block b hb)
  clear Hbl4
  have Hq5 := Lib.hid (Hq4.out.keep hq5.size fun b hb => hq5.block b hb)
  clear Hq4
  have Hp5 := Lib.hid (HN4.out.keep hq5.size fun b hb => hq5.block b hb)
  clear HN4
  clear hq5 HQ5
  clear hb5
  have hz := (HB5.out).alloc HB5.out.size (.cells #[.func (.func 70) #[] #[.pointer (some ⟨g3, 0, none⟩)], .func (.func 70) #[] #[.pointer (some ⟨g4, 0, none⟩)], .func (.func 70) #[] #[.pointer (some ⟨g5, 0, none⟩)], .func (.func 62) #[] #[.pointer (some ⟨g1, 0, none⟩)]] 50)
  have HC := Lib.hid (row_any (w := w5.alloc (.cells #[.func (.func 70) #[] #[.pointer (some ⟨g3, 0, none⟩)], .func (.func 70) #[] #[.pointer (some ⟨g4, 0, none⟩)], .func (.func 70) #[] #[.pointer (some ⟨g5, 0, none⟩)], .func (.func 62) #[] #[.pointer (some ⟨g1, 0, none⟩)]] 50)) (c := c) (mc := 4) (ts := [.po [27, 28], .pe, .pe, .one [26]]) (HH.out.below (B' := w.heap.size) hz (Nat.le_refl _) (Nat.le_refl _)) HL.out (rowT4 (B := w5.heap.size) (new1 w5 _) (TsV.keep (t := .po [27, 28]) Hq5.out (Nat.le_refl _) fun b hb => (bel1 w5 _).block b hb) (TsV.keep (t := .pe) Hp5.out (Nat.le_refl _) fun b hb => (bel1 w5 _).block b hb) (TsV.keep (t := .pe) HN5.out (Nat.le_refl _) fun b hb => (bel1 w5 _).block b hb) (TsV.keep (t := .one [26]) Hbl5.out (Nat.le_refl _) fun b hb => (bel1 w5 _).block b hb)) (by decide))
  have HZ := Lib.hid hz
  clear hz
  go_wp2_with fail
  refine HC.out.mono ?_
  rintro e w' ⟨rfl, rfl⟩
  go_wp2_with fail
  go_ret
  exact ⟨ret_b HR.out, HZ.out⟩
set_option maxRecDepth 100000 in
set_option maxHeartbeats 4000000 in
theorem st_40 {w : World} {c : Nat} {A : Option Addr} {ks : List Int} (h : RowI w w.heap.size A ks) (hl : ks.length ≤ 1000000) :
    Calls Try.prog 56 #[.int .i64 40, .slice A ks.length c] w fun e w' => e = .returned (.bool (rowB ks [.one [26], .one [26]])) ∧ Below w.heap.size w w' := by
  generalize hR : (rowB ks [.one [26], .one [26]]) = R
  have HR := Lib.hid hR
  have HH := Lib.hid h
  have HL := Lib.hid hl
  clear hR h hl
  go_enter Try.func56, Try.ntmps56
  go_wp2_with fail
  refine (mkone_any (w := w.alloc (.cells #[.int .i64 26] 3)) (ks := [26]) (c := 1) (rowI_new (new1 w _) (by simp)) (by decide)).mono ?_
  rintro e w1 ⟨v1, rfl, hv1, hb1⟩
  have HN1 := Lib.hid hv1
  obtain ⟨g1, A1, c1, rfl, _, _, _, _⟩ := hv1
  have hq1 := (bel1 w (.cells #[.int .i64 26] 3)).trans (hb1.mono (by simp))
  have HQ1 := Lib.hid hq1
  have HB1 := Lib.hid (Below.trans (Below.refl w.heap.size w) (hq1.mono (Below.refl w.heap.size w).size))
  clear hq1 HQ1
  clear hb1
  have hz := (HB1.out).alloc HB1.out.size (.cells #[.func (.func 62) #[] #[.pointer (some ⟨g1, 0, none⟩)], .func (.func 62) #[] #[.pointer (some ⟨g1, 0, none⟩)]] 50)
  have HC := Lib.hid (row_any (w := w1.alloc (.cells #[.func (.func 62) #[] #[.pointer (some ⟨g1, 0, none⟩)], .func (.func 62) #[] #[.pointer (some ⟨g1, 0, none⟩)]] 50)) (c := c) (mc := 2) (ts := [.one [26], .one [26]]) (HH.out.below (B' := w.heap.size) hz (Nat.le_refl _) (Nat.le_refl _)) HL.out (rowT2 (B := w1.heap.size) (new1 w1 _) (TsV.keep (t := .one [26]) HN1.out (Nat.le_refl _) fun b hb => (bel1 w1 _).block b hb) (TsV.keep (t := .one [26]) HN1.out (Nat.le_refl _) fun b hb => (bel1 w1 _).block b hb)) (by decide))
  have HZ := Lib.hid hz
  clear hz
  go_wp2_with fail
  refine HC.out.mono ?_
  rintro e w' ⟨rfl, rfl⟩
  go_wp2_with fail
  go_ret
  exact ⟨ret_b HR.out, HZ.out⟩
set_option maxRecDepth 100000 in
set_option maxHeartbeats 4000000 in
theorem st_41 {w : World} {c : Nat} {A : Option Addr} {ks : List Int} (h : RowI w w.heap.size A ks) (hl : ks.length ≤ 1000000) :
    Calls Try.prog 56 #[.int .i64 41, .slice A ks.length c] w fun e w' => e = .returned (.bool (rowB ks [.lt])) ∧ Below w.heap.size w w' := by
  generalize hR : (rowB ks [.lt]) = R
  have HR := Lib.hid hR
  have HH := Lib.hid h
  have HL := Lib.hid hl
  clear hR h hl
  go_enter Try.func56, Try.ntmps56
  go_wp2_with fail
  refine (mkone_any (w := w.alloc (.cells #[.int .i64 26] 3)) (ks := [26]) (c := 1) (rowI_new (new1 w _) (by simp)) (by decide)).mono ?_
  rintro e w1 ⟨v1, rfl, hv1, hb1⟩
  have HN1 := Lib.hid hv1
  obtain ⟨g1, A1, c1, rfl, _, _, _, _⟩ := hv1
  have hq1 := (bel1 w (.cells #[.int .i64 26] 3)).trans (hb1.mono (by simp))
  have HQ1 := Lib.hid hq1
  have HB1 := Lib.hid (Below.trans (Below.refl w.heap.size w) (hq1.mono (Below.refl w.heap.size w).size))
  clear hq1 HQ1
  clear hb1
  have hz := (HB1.out).alloc HB1.out.size (.cells #[.func (.func 25) #[] #[]] 50)
  have HC := Lib.hid (row_any (w := w1.alloc (.cells #[.func (.func 25) #[] #[]] 50)) (c := c) (mc := 1) (ts := [.lt]) (HH.out.below (B' := w.heap.size) hz (Nat.le_refl _) (Nat.le_refl _)) HL.out (rowT1 (B := w1.heap.size) (new1 w1 _) rfl) (by decide))
  have HZ := Lib.hid hz
  clear hz
  go_wp2_with fail
  refine HC.out.mono ?_
  rintro e w' ⟨rfl, rfl⟩
  go_wp2_with fail
  go_ret
  exact ⟨ret_b HR.out, HZ.out⟩
set_option maxRecDepth 100000 in
set_option maxHeartbeats 4000000 in
theorem st_42 {w : World} {c : Nat} {A : Option Addr} {ks : List Int} (h : RowI w w.heap.size A ks) (hl : ks.length ≤ 1000000) :
    Calls Try.prog 56 #[.int .i64 42, .slice A ks.length c] w fun e w' => e = .returned (.bool (allB ks (.one [25]))) ∧ Below w.heap.size w w' := by
  generalize hR : (allB ks (.one [25])) = R
  have HR := Lib.hid hR
  have HH := Lib.hid h
  have HL := Lib.hid hl
  clear hR h hl
  go_enter Try.func56, Try.ntmps56
  go_wp2_with fail
  refine (mkone_any (w := w.alloc (.cells #[.int .i64 26] 3)) (ks := [26]) (c := 1) (rowI_new (new1 w _) (by simp)) (by decide)).mono ?_
  rintro e w1 ⟨v1, rfl, hv1, hb1⟩
  have HN1 := Lib.hid hv1
  obtain ⟨g1, A1, c1, rfl, _, _, _, _⟩ := hv1
  have hq1 := (bel1 w (.cells #[.int .i64 26] 3)).trans (hb1.mono (by simp))
  have HQ1 := Lib.hid hq1
  have HB1 := Lib.hid (Below.trans (Below.refl w.heap.size w) (hq1.mono (Below.refl w.heap.size w).size))
  clear hq1 HQ1
  clear hb1
  go_wp2_with fail
  refine (mkone_any (w := w1.alloc (.cells #[.int .i64 25] 3)) (ks := [25]) (c := 1) (rowI_new (new1 w1 _) (by simp)) (by decide)).mono ?_
  rintro e w2 ⟨v2, rfl, hv2, hb2⟩
  have HN2 := Lib.hid hv2
  obtain ⟨g2, A2, c2, rfl, _, _, _, _⟩ := hv2
  have hq2 := (bel1 w1 (.cells #[.int .i64 25] 3)).trans (hb2.mono (by simp))
  have HQ2 := Lib.hid hq2
  have HB2 := Lib.hid (Below.trans HB1.out (hq2.mono HB1.out.size))
  have Hbl2 := Lib.hid (HN1.out.keep hq2.size fun b hb => hq2.block b hb)
  clear HN1
  clear hq2 HQ2
  clear hb2
  have HC := Lib.hid (all_any (w := w2) (B2 := w2.heap.size) (c := c) (v := .func (.func 62) #[] #[.pointer (some ⟨g2, 0, none⟩)]) (.one [25]) (HH.out.below (B' := w.heap.size) HB2.out (Nat.le_refl _) (Nat.le_refl _)) HL.out HN2.out)
  go_wp2_with fail
  refine HC.out.mono ?_
  rintro e w' ⟨rfl, rfl⟩
  go_wp2_with fail
  go_ret
  exact ⟨ret_b HR.out, HB2.out⟩
set_option maxRecDepth 100000 in
set_option maxHeartbeats 4000000 in
theorem st_def {w : World} {c : Nat} {A : Option Addr} {ks : List Int} (k : Int) (hk : ∀ x ∈ [26, 27, 37, 38, 28, 39, 29, 30, 33, 31, 32, 40, 41, 42], ¬ k = (x : Int)) :
    Calls Try.prog 56 #[.int .i64 k, .slice A ks.length c] w fun e w' => e = .returned (.bool (decide (ks.length = 0))) ∧ Below w.heap.size w w' := by
  have b26 : (k == 26) = false := by simpa using hk 26 (by simp)
  have b27 : (k == 27) = false := by simpa using hk 27 (by simp)
  have b37 : (k == 37) = false := by simpa using hk 37 (by simp)
  have b38 : (k == 38) = false := by simpa using hk 38 (by simp)
  have b28 : (k == 28) = false := by simpa using hk 28 (by simp)
  have b39 : (k == 39) = false := by simpa using hk 39 (by simp)
  have b29 : (k == 29) = false := by simpa using hk 29 (by simp)
  have b30 : (k == 30) = false := by simpa using hk 30 (by simp)
  have b33 : (k == 33) = false := by simpa using hk 33 (by simp)
  have b31 : (k == 31) = false := by simpa using hk 31 (by simp)
  have b32 : (k == 32) = false := by simpa using hk 32 (by simp)
  have b40 : (k == 40) = false := by simpa using hk 40 (by simp)
  have b41 : (k == 41) = false := by simpa using hk 41 (by simp)
  have b42 : (k == 42) = false := by simpa using hk 42 (by simp)
  clear hk
  by_cases h0 : ks.length = 0
  · have hz : ((ks.length : Int) == 0) = true := by simp [h0]
    have HE : Hid (decide (ks.length = 0) = true) := by show _ = _; rw [decide_eq_true h0]
    clear h0
    go_enter Try.func56, Try.ntmps56
    go_wp2_with fail
    refine (mkone_any (w := w.alloc (.cells #[.int .i64 26] 3)) (ks := [26]) (c := 1) (rowI_new (new1 w _) (by simp)) (by decide)).mono ?_
    rintro e w1 ⟨v1, rfl, hv1, hb1⟩
    have HN1 := Lib.hid hv1
    obtain ⟨g1, A1, c1, rfl, _, _, _, _⟩ := hv1
    have hq1 := (bel1 w (.cells #[.int .i64 26] 3)).trans (hb1.mono (by simp))
    have HQ1 := Lib.hid hq1
    have HB1 := Lib.hid (Below.trans (Below.refl w.heap.size w) (hq1.mono (Below.refl w.heap.size w).size))
    clear hq1 HQ1
    clear hb1
    go_wp2_with fail
    go_ret
    exact ⟨ret_b HE.out.symm, HB1.out⟩
  · have hz : ((ks.length : Int) == 0) = false := by simp; exact fun e => h0 (by rw [e]; rfl)
    have HE : Hid (decide (ks.length = 0) = false) := by show _ = _; rw [decide_eq_false h0]
    clear h0
    go_enter Try.func56, Try.ntmps56
    go_wp2_with fail
    refine (mkone_any (w := w.alloc (.cells #[.int .i64 26] 3)) (ks := [26]) (c := 1) (rowI_new (new1 w _) (by simp)) (by decide)).mono ?_
    rintro e w1 ⟨v1, rfl, hv1, hb1⟩
    have HN1 := Lib.hid hv1
    obtain ⟨g1, A1, c1, rfl, _, _, _, _⟩ := hv1
    have hq1 := (bel1 w (.cells #[.int .i64 26] 3)).trans (hb1.mono (by simp))
    have HQ1 := Lib.hid hq1
    have HB1 := Lib.hid (Below.trans (Below.refl w.heap.size w) (hq1.mono (Below.refl w.heap.size w).size))
    clear hq1 HQ1
    clear hb1
    go_wp2_with fail
    go_ret
    exact ⟨ret_b HE.out.symm, HB1.out⟩
theorem stB_def {k : Int} {ks : List Int} (hk : ∀ x ∈ [26, 27, 37, 38, 28, 39, 29, 30, 33, 31, 32, 40, 41, 42], ¬ k = (x : Int)) : stB k ks = decide (ks.length = 0) := by
  have a : ∀ x : Int, x ∈ [26, 27, 37, 38, 28, 39, 29, 30, 33, 31, 32, 40, 41, 42] → ¬ k = x := hk
  unfold stB
  rw [if_neg (a 26 (by simp)), if_neg (fun h => by rcases h with h | h | h; exact a 27 (by simp) h; exact a 37 (by simp) h; exact a 38 (by simp) h), if_neg (fun h => by rcases h with h | h; exact a 28 (by simp) h; exact a 39 (by simp) h), if_neg (a 29 (by simp)), if_neg (fun h => by rcases h with h | h; exact a 30 (by simp) h; exact a 33 (by simp) h), if_neg (a 31 (by simp)), if_neg (a 32 (by simp)), if_neg (a 40 (by simp)), if_neg (a 41 (by simp)), if_neg (a 42 (by simp))]
theorem stmtKids_any {w : World} {c : Nat} {A : Option Addr} {ks : List Int} (k : Int) (h : RowI w w.heap.size A ks) (hl : ks.length ≤ 1000000) :
    Calls Try.prog 56 #[.int .i64 k, .slice A ks.length c] w fun e w' => e = .returned (.bool (stB k ks)) ∧ Below w.heap.size w w' := by
  by_cases h26 : k = 26
  · subst h26
    have e : stB 26 ks = (allB ks .s) := rfl
    rw [e]
    exact st_26 h hl
  by_cases h27 : k = 27
  · subst h27
    have e : stB 27 ks = (rowB ks [.pe]) := rfl
    rw [e]
    exact st_27 h hl
  by_cases h37 : k = 37
  · subst h37
    have e : stB 37 ks = (rowB ks [.pe]) := rfl
    rw [e]
    exact st_37 h hl
  by_cases h38 : k = 38
  · subst h38
    have e : stB 38 ks = (rowB ks [.pe]) := rfl
    rw [e]
    exact st_38 h hl
  by_cases h28 : k = 28
  · subst h28
    have e : stB 28 ks = (rowB ks [.e]) := rfl
    rw [e]
    exact st_28 h hl
  by_cases h39 : k = 39
  · subst h39
    have e : stB 39 ks = (rowB ks [.e]) := rfl
    rw [e]
    exact st_39 h hl
  by_cases h29 : k = 29
  · subst h29
    have e : stB 29 ks = (rowB ks [.e, .one [26], .po [26, 29]]) := rfl
    rw [e]
    exact st_29 h hl
  by_cases h30 : k = 30
  · subst h30
    have e : stB 30 ks = (rowB ks [.e, .one [26]]) := rfl
    rw [e]
    exact st_30 h hl
  by_cases h33 : k = 33
  · subst h33
    have e : stB 33 ks = (rowB ks [.e, .one [26]]) := rfl
    rw [e]
    exact st_33 h hl
  by_cases h31 : k = 31
  · subst h31
    have e : stB 31 ks = (rowB ks [.one [26], .e]) := rfl
    rw [e]
    exact st_31 h hl
  by_cases h32 : k = 32
  · subst h32
    have e : stB 32 ks = (rowB ks [.po [27, 28], .pe, .pe, .one [26]]) := rfl
    rw [e]
    exact st_32 h hl
  by_cases h40 : k = 40
  · subst h40
    have e : stB 40 ks = (rowB ks [.one [26], .one [26]]) := rfl
    rw [e]
    exact st_40 h hl
  by_cases h41 : k = 41
  · subst h41
    have e : stB 41 ks = (rowB ks [.lt]) := rfl
    rw [e]
    exact st_41 h hl
  by_cases h42 : k = 42
  · subst h42
    have e : stB 42 ks = (allB ks (.one [25])) := rfl
    rw [e]
    exact st_42 h hl
  have hk : ∀ x ∈ [26, 27, 37, 38, 28, 39, 29, 30, 33, 31, 32, 40, 41, 42], ¬ k = (x : Int) := by
    intro x hx
    simp only [List.mem_cons, List.not_mem_nil, or_false] at hx
    rcases hx with rfl | rfl | rfl | rfl | rfl | rfl | rfl | rfl | rfl | rfl | rfl | rfl | rfl | rfl <;> assumption
  rw [stB_def hk]
  exact st_def k hk
end Go.Proofs.Ytaonojimpfhkfaa.As
