/- What a builder is in memory; contracts of sink.Builder's state, Add, Text. -/
import Derived.Test.YtmlhknkeacpnhaaSink3
set_option linter.unusedVariables false
namespace Go.Proofs.Ytmlhknkeacpnhaa.Sk
open Go.RowKit Go.ChangeShapes Go.WideShapes Go.ChangeAt

def TB (t : TypeId) : Prop := t = 44 ∨ t = 5
theorem tb_str : ¬ TB 9 := by unfold TB; decide
/-- A builder: what was added, whether it is too long. -/
structure IsB (B b : Nat) (w : World) (t : List UInt8) (long : Bool) : Prop where
  ex : ∃ (ad : Option Addr) (cap : Nat), w.heap[b]? = some (.cells #[.slice ad t.length cap, .bool long] 44 (0, 0)) ∧ w.ownsRow B 5 1 (.slice ad t.length cap) t.length (Lib.byteCells t)
  low : B ≤ b
theorem isB_below {B b : Nat} {w w' : World} {t : List UInt8} {long : Bool} (h : IsB B b w t long) (hb : Below w.heap.size w w') : IsB B b w' t long := by
  obtain ⟨⟨ad, cap, h1, h2⟩, h3⟩ := h
  exact ⟨⟨ad, cap, keep h1 hb, row_below h2 hb⟩, h3⟩
def codB (f : Bool) : Int := if f = true then 2 else 0
/-- What a text makes of what was added. -/
def b1 (s : List UInt8 × Bool) (x : List UInt8) : List UInt8 × Bool := if s.2 = true ∨ 1048576 - s.1.length < x.length then ([], true) else (s.1 ++ x, false)
def brun : List ByteArray → List UInt8 × Bool → List UInt8 × Bool
  | [], s => s
  | x :: l, s => brun l (b1 s x.data.toList)
theorem b1_yes {s : List UInt8 × Bool} {x : List UInt8} (h : s.2 = true ∨ 1048576 - s.1.length < x.length) : b1 s x = ([], true) := by unfold b1; rw [if_pos h]
theorem b1_no {s : List UInt8 × Bool} {x : List UInt8} (h : ¬ (s.2 = true ∨ 1048576 - s.1.length < x.length)) : b1 s x = (s.1 ++ x, false) := by unfold b1; rw [if_neg h]
theorem brun_long : ∀ L : List ByteArray, brun L ([], true) = ([], true)
  | [] => rfl
  | x :: L => by rw [brun, b1_yes (Or.inl rfl)]; exact brun_long L

set_option maxRecDepth 100000 in
theorem state_any {B b : Nat} {t : List UInt8} {long : Bool} (w : World) (h : IsB B b w t long) : Calls Try.prog 32 #[.pointer (some ⟨b, 0, none⟩)] w fun e w' => e = .returned (.int .i64 (codB long)) ∧ w = w' := by
  obtain ⟨⟨ad, cap, h1, h2⟩, h3⟩ := h
  obtain ⟨c0, c1, z0, z1⟩ := two h1
  clear h1 h2
  cases long
  all_goals
    go_enter Try.func32, Try.ntmps32
    go_wp2_with fail
    go_ret
    exact ⟨rfl, rfl⟩
theorem isB_put {B b : Nat} {W : World} {t t' : List UInt8} {full : Bool} {ad ad' : Option Addr} {cap cap' n : Nat} (hb : B ≤ b) (hw : W.heap[b]? = some (.cells #[.slice ad t.length cap, .bool full] 44 (0, 0))) (hn : n = t'.length)
    (ho : W.ownsRow B 5 1 (.slice ad' n cap') n (Lib.byteCells t')) : IsB B b (W.setCell ⟨b, 0, none⟩ (.slice ad' n cap')) t' full := by
  subst hn
  refine ⟨⟨ad', cap', ?_, ?_⟩, hb⟩
  · simp [World.setCell, Array.getElem?_modify, hw]
  · refine World.ownsRow.kept (row := some b) ho ⟨rfl, rfl, rfl, by simp [World.setCell], fun k _ hk => set_heap (fun e => hk (by rw [e]))⟩ ?_
    right
    intro e
    obtain ⟨_, cur, hc⟩ := row_of ho b e
    rw [hw] at hc
    simp only [Option.some.injEq, Obj.cells.injEq] at hc
    exact absurd hc.2.1 (by decide)
theorem isB_zero {B b : Nat} {W : World} {t : List UInt8} {full : Bool} {ad : Option Addr} {cap : Nat} (hb : B ≤ b) (hw : W.heap[b]? = some (.cells #[.slice ad t.length cap, .bool full] 44 (0, 0))) :
    IsB B b ((W.setCell ⟨b, 0, none⟩ (.slice none 0 0)).setCell ⟨b, 1, none⟩ (.bool true)) [] true ∧ Fr TB B W ((W.setCell ⟨b, 0, none⟩ (.slice none 0 0)).setCell ⟨b, 1, none⟩ (.bool true)) := by
  have h1 : (W.setCell ⟨b, 0, none⟩ (.slice none 0 0)).heap[b]? = some (.cells #[.slice none 0 0, .bool full] 44 (0, 0)) := by simp [World.setCell, Array.getElem?_modify, hw]
  refine ⟨⟨⟨none, 0, ?_, World.ownsRow_nil _ _ _ _⟩, hb⟩, fr_trans (fr_set hw (Or.inl rfl) hb) (fr_set h1 (Or.inl rfl) hb)⟩
  rw [World.setCell]
  simp [Array.getElem?_modify, h1]

set_option maxRecDepth 100000 in
set_option maxHeartbeats 2000000 in
theorem add_any {B b : Nat} {ad : Option Addr} {cap : Nat} {L : List ByteArray} {t : List UInt8} {long : Bool} (w : World) (ht : t.length ≤ 1048576) (hT : t.length + total L ≤ 1000000000) (hL : L.length ≤ 1000000000) (hB : B ≤ w.heap.size) (hs : StrS B ad w L) (h : IsB B b w t long) :
    Calls Try.prog 23 #[.pointer (some ⟨b, 0, none⟩), .slice ad L.length cap] w fun e w' => e = .returned (.int .i64 (codB (brun L (t, long)).2)) ∧ IsB B b w' (brun L (t, long)).1 (brun L (t, long)).2 ∧ Fr TB B w w' := by
  obtain ⟨i0, hi, hz0, hz1, hz2⟩ := info_parts A.info5
  obtain ⟨R, hR⟩ : ∃ R, R = brun L (t, long) := ⟨_, rfl⟩
  rw [← hR]
  have HR := Lib.hid hR
  have HS := Lib.hid hs
  have H0 := Lib.hid h
  have HT := Lib.hid hT
  clear hR hs h hT
  go_enter Try.func23, Try.ntmps23
  go_wp2_with fail
  go_loopw [9] (fun i wr => ∃ (k : Nat) (t1 : List UInt8) (f1 : Bool), k ≤ L.length ∧ i = .int .i64 (k : Int) ∧ t1.length ≤ 1048576 ∧ Hid (t1.length + total (L.drop k) ≤ 1000000000) ∧ Hid (R = brun (L.drop k) (t1, f1)) ∧ Hid (IsB B b wr t1 f1) ∧ Fr TB B w wr) (fun i _ => L.length - (intOf i).toNat)
  case atStart => exact ⟨0, t, long, by omega, rfl, ht, HT.out, HR.out, H0.out, fr_refl _ _ _⟩
  case round =>
    obtain ⟨k, t1, f1, hk, rfl, ht1, HT1, HU, HI, hf⟩ := hrel
    have hsz := hf.b.size
    by_cases hlt : k < L.length
    · obtain ⟨g, o, rfl, hc⟩ := strS_at (strS_fr HS.out hf tb_str) hlt
      have hd : L.drop k = L[k] :: L.drop (k + 1) := List.drop_eq_getElem_cons hlt
      have hU := HU.out
      have hT1 := HT1.out
      rw [hd] at hU hT1
      generalize L[k] = x at *
      rw [brun] at hU
      rw [total] at hT1
      obtain ⟨⟨ad1, cap1, h1, h2⟩, h3⟩ := HI.out
      obtain ⟨c0, c1, z0, z1⟩ := two h1
      clear hd HU HT1
      have hcs : (f1 = true) ∨ (f1 = false ∧ (1048576 : Int) - (t1.length : Int) < (x.size : Int)) ∨ (f1 = false ∧ ¬ (1048576 : Int) - (t1.length : Int) < (x.size : Int)) := by cases f1 <;> simp <;> omega
      rcases hcs with hcs | ⟨hcs, hroom⟩ | ⟨hcs, hroom⟩
      · subst hcs
        rw [b1_yes (Or.inl rfl), brun_long] at hU
        have HU := Lib.hid hU
        obtain ⟨hz1', hz2'⟩ := isB_zero h3 h1
        have HZ1 := Lib.hid hz1'
        have HZ2 := Lib.hid (fr_trans hf hz2')
        clear hU h1 h2 hz1' hz2' hf
        go_wp2_with fail
        refine (state_any _ HZ1.out).mono ?_
        rintro e w2 ⟨rfl, rfl⟩
        go_wp2_with fail
        go_ret
        exact ⟨ret_i64 (by rw [HU.out]), by rw [HU.out]; exact HZ1.out, HZ2.out⟩
      · subst hcs
        rw [b1_yes (Or.inr (by show 1048576 - t1.length < _; rw [size_list]; omega)), brun_long] at hU
        have HU := Lib.hid hU
        obtain ⟨hz1', hz2'⟩ := isB_zero h3 h1
        have HZ1 := Lib.hid hz1'
        have HZ2 := Lib.hid (fr_trans hf hz2')
        clear hU h1 h2 hz1' hz2' hf
        go_wp2_with fail
        refine (state_any _ HZ1.out).mono ?_
        rintro e w2 ⟨rfl, rfl⟩
        go_wp2_with fail
        go_ret
        exact ⟨ret_i64 (by rw [HU.out]), by rw [HU.out]; exact HZ1.out, HZ2.out⟩
      · subst hcs
        rw [b1_no (by rw [size_list]; rintro (h | h); cases h; have h' : 1048576 - t1.length < x.size := h; omega)] at hU
        have HU := Lib.hid hU
        have HT1 := Lib.hid hT1
        have hbz : B ≤ wr.heap.size := by omega
        have H1 := Lib.hid h1
        have H2 := Lib.hid h2
        have HF1 := Lib.hid hf
        have HR1 := Lib.hid (row_of h2)
        clear hU h1 h2 hf
        go_wp2_with (at_builtin; refine Lib.wpList_append_own_string _ rfl _ _ 42 9 rfl B 5 i0 Try.underlying42 Try.underlying9 hi hz0 hz1 hz2 (.slice ad1 t1.length cap1) t1.length (Lib.byteCells t1) rfl H2.out x rfl ?c3 ?c4 hbz ?_)
        case c3 => unfold maxLen; omega
        case c4 => omega
        intro v' w2 hown' hgrow _
        have hcat : Lib.byteCells t1 ++ Lib.strCells x = Lib.byteCells (t1 ++ x.data.toList) := by rw [Lib.byteCells_append, Lib.strCells_eq]
        have hgb := fr_grown hgrow (B := B) (T := TB) hbz (fun k hk => by obtain ⟨q1, cur, q2⟩ := HR1.out k hk; exact ⟨q1, cur, _, _, q2, Or.inr rfl⟩)
        have hne : (Value.slice ad1 t1.length cap1).ownBlock ≠ some b := fun e => by
          obtain ⟨_, cur, hc'⟩ := HR1.out b e
          rw [H1.out] at hc'; simp only [Option.some.injEq, Obj.cells.injEq] at hc'; exact absurd hc'.2.1 (by decide)
        have hw2 : w2.heap[b]? = some (.cells #[.slice ad1 t1.length cap1, .bool false] 44 (0, 0)) := by
          rw [hgrow.block b (lt_of_block H1.out) (fun e => hne e.symm)]; exact H1.out
        obtain ⟨ad2, cap2, rfl⟩ := row_shape hown'
        rw [hcat] at hown'
        have hI2 := isB_put (t' := (t1 ++ x.data.toList)) h3 hw2 (by rw [List.length_append, size_list]) hown'
        have hf2 := fr_trans hgb (fr_set (o := 0) (v := .slice ad2 (t1.length + x.size) cap2) hw2 (Or.inl rfl) h3)
        obtain ⟨d0, d1, y0, y1⟩ := two hw2
        have HI2 := Lib.hid hI2
        have HF2 := Lib.hid hf2
        clear hI2 hf2 hw2 hgb hown' hgrow hne
        go_wp2_with fail
        go_roundw
        case rel => exact ⟨k + 1, (t1 ++ x.data.toList), false, by omega, by go_num, by rw [List.length_append, size_list]; omega, by show _ ≤ _; have := HT1.out; rw [List.length_append, size_list]; omega, HU.out, HI2.out, fr_trans HF1.out HF2.out⟩
        case measure => simp [intOf]; omega
    · have hR1 : R = (t1, f1) := by rw [HU.out, List.drop_of_length_le (by omega)]; rfl
      subst hR1
      go_wp2_with fail
      refine (state_any _ HI.out).mono ?_
      rintro e w2 ⟨rfl, rfl⟩
      go_wp2_with fail
      go_ret
      exact ⟨rfl, HI.out, hf⟩
set_option maxRecDepth 100000 in
theorem btext_any {B b : Nat} {t : List UInt8} {long : Bool} (w : World) (h : IsB B b w t long) : Calls Try.prog 25 #[.pointer (some ⟨b, 0, none⟩)] w fun e w' => e = .returned (.tuple #[.string ⟨t.toArray⟩, .int .i64 (codB long)]) ∧ Below w.heap.size w w' := by
  have H0 := Lib.hid h
  obtain ⟨⟨ad, cap, h1, h2⟩, h3⟩ := h
  obtain ⟨c0, c1, z0, z1⟩ := two h1
  have hd := (Below.refl w.heap.size w).drew
  have hcv := conv_own rfl (row_below h2 hd)
  have H1 := Lib.hid (isB_below H0.out hd)
  clear h1 h2 hd
  go_enter Try.func25, Try.ntmps25
  go_wp2_with fail
  go_region_with (go_at_call 32; refine (state_any _ H1.out).mono ?_; rintro e w2 ⟨rfl, rfl⟩)
  all_goals go_wp2_with fail
  all_goals go_ret2
  all_goals exact ⟨rfl, (Below.refl _ _).drew⟩
end Go.Proofs.Ytmlhknkeacpnhaa.Sk
