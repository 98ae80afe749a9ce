/- Contracts of sink.Print, Line. -/
import Derived.Test.YtmlhknkeacpnhaaSink1
set_option linter.unusedVariables false
namespace Go.Proofs.Ytmlhknkeacpnhaa.Sk
open Go.RowKit Go.ChangeShapes Go.WideShapes Go.ChangeAt

theorem A.info5 : (Try.prog.info? 5).map (fun i => (i.zero, i.size, i.bytes)) = some (some (.int .u8 0), 1, 1) := by kernel_rfl
/-- What a text makes of what was printed. -/
def pr1 (lim : Nat) (s : List UInt8 × Bool) (x : List UInt8) : List UInt8 × Bool := if lim - s.1.length < x.length then (s.1 ++ x.take (lim - s.1.length), true) else (s.1 ++ x, s.2)
def prun (lim : Nat) : List ByteArray → List UInt8 × Bool → List UInt8 × Bool
  | [], s => s
  | x :: l, s => prun lim l (pr1 lim s x.data.toList)
def cod (f : Bool) : Int := if f = true then 40 else 0
/-- How many bytes texts have. -/
def total : List ByteArray → Nat
  | [] => 0
  | x :: l => x.size + total l
theorem pr1_yes {lim : Nat} {s : List UInt8 × Bool} {x : List UInt8} (h : lim - s.1.length < x.length) : pr1 lim s x = (s.1 ++ x.take (lim - s.1.length), true) := by unfold pr1; rw [if_pos h]
theorem pr1_no {lim : Nat} {s : List UInt8 × Bool} {x : List UInt8} (h : ¬ lim - s.1.length < x.length) : pr1 lim s x = (s.1 ++ x, s.2) := by unfold pr1; rw [if_neg h]
theorem total_drop (L : List ByteArray) (k : Nat) (h : k < L.length) : total (L.drop k) = L[k].size + total (L.drop (k + 1)) := by
  rw [List.drop_eq_getElem_cons h]; rfl
theorem take_data (x : ByteArray) (n : Nat) : (x.extract 0 n).data.toList = x.data.toList.take n := by simp

/-- An append to a sink's row and the store of it. -/
theorem isS_put {B b : Nat} {W : World} {t t' : List UInt8} {lim : Int} {full : Bool} {ad ad' : Option Addr} {cap cap' n : Nat} (hb : B ≤ b) (hw : W.heap[b]? = some (.cells #[.slice ad t.length cap, .int .i64 lim, .bool full] 51 (0, 0))) (hn : n = t'.length)
    (ho : W.ownsRow B 5 1 (.slice ad' n cap') n (Lib.byteCells t')) : IsS B b (W.setCell ⟨b, 0, none⟩ (.slice ad' n cap')) t' lim full := by
  subst hn
  refine ⟨⟨ad', cap', ?_, ?_⟩, hb⟩
  · simp [World.setCell, Array.getElem?_modify, hw]
  · refine World.ownsRow.kept (row := some b) ho ⟨rfl, rfl, rfl, by simp [World.setCell], fun k _ hk => set_heap (fun e => hk (by rw [e]))⟩ ?_
    right
    intro e
    obtain ⟨_, cur, hc⟩ := row_of ho b e
    rw [hw] at hc
    simp only [Option.some.injEq, Obj.cells.injEq] at hc
    exact absurd hc.2.1 (by decide)

theorem isS_full {B b : Nat} {w : World} {t : List UInt8} {lim : Int} {full f' : Bool} {ad : Option Addr} {cap : Nat} (h1 : w.heap[b]? = some (.cells #[.slice ad t.length cap, .int .i64 lim, .bool full] 51 (0, 0))) (h2 : w.ownsRow B 5 1 (.slice ad t.length cap) t.length (Lib.byteCells t)) :
    (w.setCell ⟨b, 2, none⟩ (.bool f')).heap[b]? = some (.cells #[.slice ad t.length cap, .int .i64 lim, .bool f'] 51 (0, 0)) ∧ (w.setCell ⟨b, 2, none⟩ (.bool f')).ownsRow B 5 1 (.slice ad t.length cap) t.length (Lib.byteCells t) := by
  refine ⟨by simp [World.setCell, Array.getElem?_modify, h1], World.ownsRow.kept (row := some b) h2 ⟨rfl, rfl, rfl, by simp [World.setCell], fun k _ hk => set_heap (fun e => hk (by rw [e]))⟩ (.inr fun e => ?_)⟩
  obtain ⟨_, cur, hc⟩ := row_of h2 b e
  rw [h1] at hc
  simp only [Option.some.injEq, Obj.cells.injEq] at hc
  exact absurd hc.2.1 (by decide)

set_option maxRecDepth 100000 in
set_option maxHeartbeats 2000000 in
theorem print_any {B b : Nat} {lim : Nat} {ad : Option Addr} {cap : Nat} {L : List ByteArray} {t : List UInt8} {full : Bool} (w : World) (ht : t.length ≤ lim) (hl : lim ≤ 9223372036854775807) (hT : t.length + total L ≤ 1000000000) (hL : L.length ≤ 1000000000) (hB : B ≤ w.heap.size) (hs : StrS B ad w L) (h : IsS B b w t lim full) :
    Calls Try.prog 11 #[.pointer (some ⟨b, 0, none⟩), .slice ad L.length cap] w fun e w' => e = .returned (.int .i64 (cod (prun lim L (t, full)).2)) ∧ IsS B b w' (prun lim L (t, full)).1 lim (prun lim L (t, full)).2 ∧ Fr TS B w w' := by
  obtain ⟨i0, hi, hz0, hz1, hz2⟩ := info_parts A.info5
  obtain ⟨R, hR⟩ : ∃ R, R = prun lim L (t, full) := ⟨_, rfl⟩
  rw [← hR]
  have HR := Lib.hid hR
  have HS := Lib.hid hs
  have H0 := Lib.hid h
  have HT := Lib.hid hT
  clear hR hs h hT
  go_enter Try.func11, Try.ntmps11
  go_wp2_with fail
  go_loopw [10] (fun i wr => ∃ (k : Nat) (t1 : List UInt8) (f1 : Bool), k ≤ L.length ∧ i = .int .i64 (k : Int) ∧ t1.length ≤ lim ∧ Hid (t1.length + total (L.drop k) ≤ 1000000000) ∧ Hid (R = prun lim (L.drop k) (t1, f1)) ∧ Hid (IsS B b wr t1 lim f1) ∧ Fr TS B w wr) (fun i _ => L.length - (intOf i).toNat)
  case atStart => exact ⟨0, t, full, by omega, rfl, ht, HT.out, HR.out, H0.out, fr_refl _ _ _⟩
  case round =>
    obtain ⟨k, t1, f1, hk, rfl, ht1, HT1, HU, HI, hf⟩ := hrel
    have hsz := hf.b.size
    by_cases hlt : k < L.length
    · obtain ⟨g, o, rfl, hc⟩ := strS_at (strS_fr HS.out hf ts_str) hlt
      have hd : L.drop k = L[k] :: L.drop (k + 1) := List.drop_eq_getElem_cons hlt
      have hU := HU.out
      have hT1 := HT1.out
      rw [hd] at hU hT1
      generalize L[k] = x at *
      rw [prun] at hU
      rw [total] at hT1
      clear hd HU HT1
      by_cases hroom : lim - t1.length < x.size
      · rw [pr1_yes (by rw [size_list]; exact hroom)] at hU
        have HU := Lib.hid hU
        have HT1 := Lib.hid hT1
        clear hU
        go_wp2_with fail
        refine (left_any ht1 hl HI.out).mono ?_
        rintro e w1 ⟨rfl, hb1⟩
        have hI1 := isS_below HI.out hb1
        obtain ⟨⟨ad1, cap1, h1, h2⟩, h3⟩ := hI1
        obtain ⟨c0, c1, c2, z0, z1, z2⟩ := three h1
        have hfl := isS_full (f' := true) h1 h2
        have h1' : (w1.setCell ⟨b, 2, none⟩ (.bool true)).heap[b]? = some (.cells #[.slice ad1 t1.length cap1, .int .i64 lim, .bool true] 51 (0, 0)) := hfl.1
        have h2' := hfl.2
        have hxs := Lib.hid (take_data x (lim - t1.length))
        have hxz := Lib.hid (show (x.extract 0 (lim - t1.length)).size = lim - t1.length by simp; omega)
        have hf1 := fr_trans (fr_trans hf (fr_below hb1 (by omega))) (fr_set (o := 2) (v := .bool true) h1 (Or.inl rfl) h3)
        have hbz : B ≤ (w1.setCell ⟨b, 2, none⟩ (.bool true)).heap.size := by have := hf1.b.size; omega
        have H1 := Lib.hid h1'
        have H2 := Lib.hid h2'
        have HF1 := Lib.hid hf1
        have HR1 := Lib.hid (row_of h2')
        generalize hW : w1.setCell ⟨b, 2, none⟩ (.bool true) = W at *
        have HW := Lib.hid hW
        clear hW h1 h2 h1' h2' hfl hf1 hf
        go_wp2_with (at_builtin; refine Lib.wpList_append_own_string _ rfl _ _ 42 9 rfl B 5 i0 Try.underlying42 Try.underlying9 hi hz0 hz1 hz2 (.slice ad1 t1.length cap1) t1.length (Lib.byteCells t1) rfl (by rw [HW.out]; exact H2.out) (x.extract 0 (lim - t1.length)) rfl ?c3 ?c4 ?c5 ?_)
        case c3 => have := HT1.out; rw [hxz.out]; unfold maxLen; omega
        case c4 => have := HT1.out; rw [hxz.out]; omega
        case c5 => rw [HW.out]; exact hbz
        intro v' w2 hown' hgrow _
        have hcat : Lib.byteCells t1 ++ Lib.strCells (x.extract 0 (lim - t1.length)) = Lib.byteCells (t1 ++ x.data.toList.take (lim - t1.length)) := by rw [Lib.byteCells_append, Lib.strCells_eq, hxs.out]
        have hgb := fr_grown hgrow (B := B) (T := TS) (by rw [HW.out]; exact hbz) (fun k hk => by obtain ⟨q1, cur, q2⟩ := HR1.out k hk; exact ⟨q1, cur, _, _, by rw [HW.out]; exact q2, Or.inr rfl⟩)
        have hne : (Value.slice ad1 t1.length cap1).ownBlock ≠ some b := fun e => by
          obtain ⟨_, cur, hc'⟩ := HR1.out b e
          rw [H1.out] at hc'; simp only [Option.some.injEq, Obj.cells.injEq] at hc'; exact absurd hc'.2.1 (by decide)
        have hw2 : w2.heap[b]? = some (.cells #[.slice ad1 t1.length cap1, .int .i64 lim, .bool true] 51 (0, 0)) := by
          rw [hgrow.block b (by rw [HW.out]; exact lt_of_block H1.out) (fun e => hne e.symm), HW.out]; exact H1.out
        obtain ⟨ad2, cap2, rfl⟩ := row_shape hown'
        rw [hcat] at hown'
        have hI2 := isS_put (t' := (t1 ++ x.data.toList.take (lim - t1.length))) h3 hw2 (by rw [List.length_append, List.length_take, size_list]) hown'
        have hf2 := fr_trans hgb (fr_set (o := 0) (v := .slice ad2 (t1.length + min (lim - t1.length) x.size) cap2) hw2 (Or.inl rfl) h3)
        obtain ⟨d0, d1, d2, y0, y1, y2⟩ := three hw2
        have HI2 := Lib.hid hI2
        have HF2 := Lib.hid hf2
        clear hI2 hf2 hw2 hgb hown' hgrow hne
        go_wp2_with fail
        go_roundw
        case rel => exact ⟨k + 1, (t1 ++ x.data.toList.take (lim - t1.length)), true, by omega, by go_num, by rw [List.length_append, List.length_take, size_list]; omega, by show _ ≤ _; have := HT1.out; rw [List.length_append, List.length_take, size_list]; omega, HU.out, HI2.out, fr_trans HF1.out (by rw [← HW.out]; exact HF2.out)⟩
        case measure => simp [intOf]; omega
      · rw [pr1_no (by rw [size_list]; exact hroom)] at hU
        have HU := Lib.hid hU
        have HT1 := Lib.hid hT1
        clear hU
        go_wp2_with fail
        refine (left_any ht1 hl HI.out).mono ?_
        rintro e w1 ⟨rfl, hb1⟩
        have hI1 := isS_below HI.out hb1
        obtain ⟨⟨ad1, cap1, h1, h2⟩, h3⟩ := hI1
        obtain ⟨c0, c1, c2, z0, z1, z2⟩ := three h1
        have hf1 := fr_trans hf (fr_below hb1 (by omega))
        have hbz : B ≤ w1.heap.size := by have := hf1.b.size; omega
        have H1 := Lib.hid h1
        have H2 := Lib.hid h2
        have HF1 := Lib.hid hf1
        have HR1 := Lib.hid (row_of h2)
        clear h1 h2 hf1 hf
        go_wp2_with (at_builtin; refine Lib.wpList_append_own_string _ rfl _ _ 42 9 rfl B 5 i0 Try.underlying42 Try.underlying9 hi hz0 hz1 hz2 (.slice ad1 t1.length cap1) t1.length (Lib.byteCells t1) rfl H2.out x rfl ?c3 ?c4 ?c5 ?_)
        case c3 => have := HT1.out; unfold maxLen; omega
        case c4 => have := HT1.out; omega
        case c5 => exact hbz
        intro v' w2 hown' hgrow _
        have hcat : Lib.byteCells t1 ++ Lib.strCells x = Lib.byteCells (t1 ++ x.data.toList) := by rw [Lib.byteCells_append, Lib.strCells_eq]
        have hgb := fr_grown hgrow (B := B) (T := TS) hbz (fun k hk => by obtain ⟨q1, cur, q2⟩ := HR1.out k hk; exact ⟨q1, cur, _, _, q2, Or.inr rfl⟩)
        have hne : (Value.slice ad1 t1.length cap1).ownBlock ≠ some b := fun e => by
          obtain ⟨_, cur, hc'⟩ := HR1.out b e
          rw [H1.out] at hc'; simp only [Option.some.injEq, Obj.cells.injEq] at hc'; exact absurd hc'.2.1 (by decide)
        have hw2 : w2.heap[b]? = some (.cells #[.slice ad1 t1.length cap1, .int .i64 lim, .bool f1] 51 (0, 0)) := by
          rw [hgrow.block b (lt_of_block H1.out) (fun e => hne e.symm)]; exact H1.out
        obtain ⟨ad2, cap2, rfl⟩ := row_shape hown'
        rw [hcat] at hown'
        have hI2 := isS_put (t' := (t1 ++ x.data.toList)) h3 hw2 (by rw [List.length_append, size_list]) hown'
        have hf2 := fr_trans hgb (fr_set (o := 0) (v := .slice ad2 (t1.length + x.size) cap2) hw2 (Or.inl rfl) h3)
        obtain ⟨d0, d1, d2, y0, y1, y2⟩ := three hw2
        have HI2 := Lib.hid hI2
        have HF2 := Lib.hid hf2
        clear hI2 hf2 hw2 hgb hown' hgrow hne
        go_wp2_with fail
        go_roundw
        case rel => exact ⟨k + 1, (t1 ++ x.data.toList), f1, by omega, by go_num, by rw [List.length_append, size_list]; omega, by show _ ≤ _; have := HT1.out; rw [List.length_append, size_list]; omega, HU.out, HI2.out, fr_trans HF1.out HF2.out⟩
        case measure => simp [intOf]; omega
    · have hR1 : R = (t1, f1) := by rw [HU.out, List.drop_of_length_le (by omega)]; rfl
      subst hR1
      obtain ⟨⟨ad1, cap1, h1, h2⟩, h3⟩ := HI.out
      obtain ⟨c0, c1, c2, z0, z1, z2⟩ := three h1
      clear h1 h2
      cases f1
      · go_wp2_with fail
        go_ret
        exact ⟨rfl, HI.out, hf⟩
      · go_wp2_with fail
        go_ret
        exact ⟨rfl, HI.out, hf⟩

theorem pr1_len {lim : Nat} {s : List UInt8 × Bool} {x : List UInt8} (h : s.1.length ≤ lim) : (pr1 lim s x).1.length ≤ lim ∧ (pr1 lim s x).1.length ≤ s.1.length + x.length := by
  unfold pr1
  split
  · simp only [List.length_append, List.length_take]; omega
  · simp only [List.length_append]; omega
theorem prun_len {lim : Nat} : ∀ (L : List ByteArray) (s : List UInt8 × Bool), s.1.length ≤ lim → (prun lim L s).1.length ≤ lim ∧ (prun lim L s).1.length ≤ s.1.length + total L
  | [], s, h => ⟨h, Nat.le_refl _⟩
  | x :: L, s, h => by
    have h1 := pr1_len (x := x.data.toList) h
    have h2 := prun_len L (pr1 lim s x.data.toList) h1.1
    rw [size_list] at h1
    rw [prun, total]
    exact ⟨h2.1, by omega⟩
/-- What a line makes of what was printed. -/
def line (lim : Nat) (L : List ByteArray) (s : List UInt8 × Bool) : List UInt8 × Bool := if (prun lim L s).2 = true then prun lim L s else prun lim [⟨#[10]⟩] (prun lim L s)
set_option maxRecDepth 100000 in
set_option maxHeartbeats 1000000 in
theorem line_any {B b : Nat} {lim : Nat} {ad : Option Addr} {cap : Nat} {L : List ByteArray} {t : List UInt8} {full : Bool} (w : World) (ht : t.length ≤ lim) (hl : lim ≤ 9223372036854775807) (hT : t.length + total L ≤ 900000000) (hL : L.length ≤ 1000000000) (hB : B ≤ w.heap.size) (hs : StrS B ad w L) (h : IsS B b w t lim full) :
    Calls Try.prog 17 #[.pointer (some ⟨b, 0, none⟩), .slice ad L.length cap] w fun e w' => e = .returned (.int .i64 (cod (line lim L (t, full)).2)) ∧ IsS B b w' (line lim L (t, full)).1 lim (line lim L (t, full)).2 ∧ Fr TS B w w' := by
  obtain ⟨R, hR⟩ : ∃ R, R = line lim L (t, full) := ⟨_, rfl⟩
  obtain ⟨Q, hQ⟩ : ∃ Q, Q = prun lim L (t, full) := ⟨_, rfl⟩
  have hql := prun_len L (t, full) ht
  have HP := Lib.hid (print_any (cap := cap) w ht hl (by omega) hL hB hs h)
  rw [← hR]
  unfold line at hR
  rw [← hQ] at HP hql hR
  simp only at hql
  obtain ⟨t1, f1⟩ := Q
  have HR := Lib.hid hR
  clear hQ hR hs h
  cases f1
  · have hR : R = prun lim [⟨#[10]⟩] (t1, false) := by rw [HR.out, if_neg (by simp)]
    have HR2 := Lib.hid hR
    clear hR HR
    go_enter Try.func17, Try.ntmps17
    go_wp2_with fail
    refine HP.out.mono ?_
    rintro e w1 ⟨rfl, hI, hf⟩
    have hz := hf.b.size
    have HI := Lib.hid (isS_below hI ((Below.refl _ _).alloc (Nat.le_refl _) (.cells #[.string ⟨#[10]⟩] 9)))
    have HS : Hid (StrS B (some ⟨w1.heap.size, 0, none⟩) (w1.alloc (.cells #[.string ⟨#[10]⟩] 9)) [⟨#[10]⟩]) := Or.inr ⟨w1.heap.size, 0, rfl, by simp, Or.inr ⟨_, _, heap_alloc_new w1 _⟩, fun j hj => by
      obtain rfl : j = 0 := by simpa using hj
      rw [cell_of_row' (heap_alloc_new w1 _)]; rfl⟩
    have HF := Lib.hid (fr_alloc hf (by omega) (.cells #[.string ⟨#[10]⟩] 9))
    clear hI hf
    go_wp2_with fail
    refine (print_any (L := [⟨#[10]⟩]) _ hql.1 hl (by have : total [(⟨#[10]⟩ : ByteArray)] = 1 := rfl; omega) (by simp) (by simp; omega) HS.out HI.out).mono ?_
    rintro e w2 ⟨rfl, hI2, hf2⟩
    rw [← HR2.out] at hI2
    rw [← HR2.out]
    have HI2 := Lib.hid hI2
    have HF2 := Lib.hid (fr_trans HF.out hf2)
    clear hI2 hf2
    go_wp2_with fail
    go_ret
    exact ⟨rfl, HI2.out, HF2.out⟩
  · have hR : R = (t1, true) := by rw [HR.out, if_pos rfl]
    subst hR
    go_enter Try.func17, Try.ntmps17
    go_wp2_with fail
    refine HP.out.mono ?_
    rintro e w1 ⟨rfl, hI, hf⟩
    have HI := Lib.hid hI
    have HF := Lib.hid hf
    clear hI hf
    go_wp2_with fail
    go_ret
    exact ⟨rfl, HI.out, HF.out⟩
end Go.Proofs.Ytmlhknkeacpnhaa.Sk
