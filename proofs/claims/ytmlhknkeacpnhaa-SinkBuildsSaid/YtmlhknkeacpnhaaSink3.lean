/- What a source is in memory; contracts of sink.Read, Next, Taken. -/
import Derived.Test.YtmlhknkeacpnhaaSink2
import Derived.Laws.MakeOwn
set_option linter.unusedVariables false
namespace Go.Proofs.Ytmlhknkeacpnhaa.Sk
open Go.RowKit Go.ChangeShapes Go.WideShapes Go.ChangeAt

theorem A.info9 : (Try.prog.info? 9).map (fun i => (i.zero, i.size, i.bytes)) = some (some (.string ⟨#[]⟩), 1, 16) := by kernel_rfl
theorem clone_any (s : ByteArray) (hs : s.size ≤ 281474976710656) (w : World) : Calls Try.prog 31 #[.string s] w fun e w' => e = .returned (.string s) ∧ Below w.heap.size w w' := by
  go_enter Try.func31, Try.ntmps31
  go_wp2_with fail
  refine (Try.stringslite_Clone s _ hs).mono ?_
  rintro e w' ⟨rfl, hb⟩
  go_wp2_with fail
  go_ret
  exact ⟨rfl, hb⟩
def TR (t : TypeId) : Prop := t = 57 ∨ t = 9
/-- A source: its lines, of which so many were read. -/
structure IsR (B b : Nat) (w : World) (L : List ByteArray) (k : Nat) : Prop where
  ex : ∃ (ad : Option Addr) (cap : Nat) (M : List ByteArray), w.heap[b]? = some (.cells #[.slice ad L.length cap, .int .i64 (k : Int)] 57 (0, 0)) ∧ w.ownsRow B 9 1 (.slice ad L.length cap) L.length (M.map Value.string) ∧ ∀ j (h : j < L.length), k ≤ j → M[j]? = some L[j]
  low : B ≤ b
  le : k ≤ L.length
theorem isR_below {B b : Nat} {w w' : World} {L : List ByteArray} {k : Nat} (h : IsR B b w L k) (hb : Below w.heap.size w w') : IsR B b w' L k := by
  obtain ⟨⟨ad, cap, M, h1, h2, h3⟩, h4, h5⟩ := h
  exact ⟨⟨ad, cap, M, keep h1 hb, row_below h2 hb, h3⟩, h4, h5⟩
theorem isR_fr {T : TypeId → Prop} {B B2 b : Nat} {w w' : World} {L : List ByteArray} {k : Nat} (h : IsR B b w L k) (hf : Fr T B2 w w') (h1 : ¬ T 57) (h2 : ¬ T 9) : IsR B b w' L k := by
  obtain ⟨⟨ad, cap, M, q1, q2, q3⟩, q4, q5⟩ := h
  refine ⟨⟨ad, cap, M, hf.block b _ q1 (fun cur' t fr e' => by simp only [Obj.cells.injEq] at e'; obtain ⟨_, rfl, _⟩ := e'; exact h1), own_fr q2 hf h2, q3⟩, q4, q5⟩
theorem two {w : World} {g : Nat} {x0 x1 : Value} {t : TypeId} (h : w.heap[g]? = some (.cells #[x0, x1] t (0, 0))) :
    w.cell? ⟨g, 0, none⟩ = some x0 ∧ w.cell? ⟨g, 1, none⟩ = some x1 ∧ w.frozen? ⟨g, 0, none⟩ = false ∧ w.frozen? ⟨g, 1, none⟩ = false :=
  ⟨cell_of_row' h, cell_of_row' h, free_of h, free_of h⟩
/-- The row of a source, so many lines of which are copied. -/
def rowS (L : List ByteArray) (k : Nat) : Array Value := ((L.take k ++ List.replicate (L.length - k) (⟨#[]⟩ : ByteArray)).map Value.string).toArray
theorem rowS_zero (L : List ByteArray) : madeCells (Value.string ⟨#[]⟩).cells (L.length * 1) = rowS L 0 := by
  apply Array.ext'
  rw [Nat.mul_one]
  show (madeCells #[Value.string ⟨#[]⟩] L.length).toList = _
  rw [toList_madeCells_one]
  simp [rowS]
theorem rowS_size (L : List ByteArray) (k : Nat) (h : k ≤ L.length) : (rowS L k).size = L.length := by simp [rowS]; omega
theorem rowS_set (L : List ByteArray) (k : Nat) (h : k < L.length) : (rowS L k).setIfInBounds k (.string L[k]) = rowS L (k + 1) := by
  apply Array.ext'
  simp only [rowS, Array.toList_setIfInBounds, List.map_append, List.toList_toArray]
  rw [List.set_append_right _ _ (by simp; omega)]
  have h1 : L.length - k = (L.length - (k + 1)) + 1 := by omega
  rw [h1, List.replicate_succ, List.take_succ_eq_append_getElem h]
  have : k - (List.map Value.string (List.take k L)).length = 0 := by simp; omega
  rw [this, List.map_cons, List.set_cons_zero, List.map_append, List.map_singleton, List.append_assoc, List.singleton_append]
set_option maxRecDepth 100000 in
set_option maxHeartbeats 2000000 in
theorem read_any {B : Nat} {ad : Option Addr} {cap : Nat} {L : List ByteArray} (w : World) (hL : L.length ≤ 1000000) (hz : ∀ x ∈ L, x.size ≤ 281474976710656) (hs : StrS B ad w L) :
    Calls Try.prog 20 #[.slice ad L.length cap] w fun e w' => ∃ b, e = .returned (.pointer (some ⟨b, 0, none⟩)) ∧ IsR w.heap.size b w' L 0 ∧ Below w.heap.size w w' := by
  obtain ⟨i0, hi, hz0, hz1, hz2⟩ := info_parts A.info9
  have mk : ∀ W, (Instr.makeSlice 27 (.int .i64 (L.length : Int)) (.int .i64 (L.length : Int))).run Try.prog W = .ok (.slice (some ⟨W.heap.size, 0, none⟩) L.length L.length) (W.alloc (.cells (rowS L 0) 9)) := fun W => by
    have := run_make (P := Try.prog) W 27 9 i0 _ Try.underlying27 hi hz0 .i64 .i64 (L.length : Int) (L.length : Int) (by omega) (by omega) (by rw [hz2]; omega) (by omega)
    rw [this, Int.toNat_natCast, hz1, rowS_zero]
  have hA := heap_alloc_new w (.cells (rowS L 0) 9)
  have HE := Lib.hid ((Below.refl w.heap.size w).alloc (Nat.le_refl _) (.cells (rowS L 0) 9))
  have HA := Lib.hid hA
  have HS := Lib.hid hs
  have HZ := Lib.hid hz
  clear hA hs hz
  go_enter Try.func20, Try.ntmps20
  go_wp2_with fail
  clear mk
  go_loopw [11] (fun i wr => ∃ k : Nat, k ≤ L.length ∧ i = .int .i64 (k : Int) ∧ Hid (wr.heap[w.heap.size]? = some (.cells (rowS L k) 9 (0, 0))) ∧ Below w.heap.size w wr) (fun i _ => L.length - (intOf i).toNat)
  case atStart => exact ⟨0, by omega, rfl, HA.out, HE.out⟩
  case round =>
    obtain ⟨k, hk, rfl, HR, hb⟩ := hrel
    have hsz := hb.size
    by_cases hlt : k < L.length
    · obtain ⟨g, o, rfl, hc0⟩ := strS_at HS.out hlt
      have hg : g < w.heap.size := by
        rcases HS.out with h | ⟨g', o', e, h, _⟩
        · subst h; simp at hlt
        · simp at e; rw [e.1]; exact h
      have hc := cell_below hb hg hc0
      have hcs := HZ.out L[k] (List.getElem_mem hlt)
      have HSET := Lib.hid (rowS_set L k hlt)
      clear hc0
      generalize L[k] = x at *
      go_wp2_with fail
      refine (clone_any x hcs _).mono ?_
      rintro e w1 ⟨rfl, hb1⟩
      have hrow := keep HR.out hb1
      have hf : w1.frozen? ⟨w.heap.size, k, none⟩ = false := free_of hrow
      have hcc : w1.cell? ⟨w.heap.size, k, none⟩ = (rowS L k)[k]? := cell_of_row' hrow
      rw [Array.getElem?_eq_getElem (by rw [rowS_size L k hk]; exact hlt)] at hcc
      have HR1 := Lib.hid hrow
      clear hrow
      generalize (rowS L k)[k]'_ = old at hcc
      go_wp2_with fail
      go_roundw
      case rel =>
        refine ⟨k + 1, by omega, by go_num, ?_, (hb.trans (hb1.mono hsz)).setCell (by simp) _⟩
        show _ = _
        rw [heap_setCell_same _ _ _ _ _ _ HR1.out, HSET.out]
      case measure => simp [intOf]; omega
    · have hk2 : k = L.length := by omega
      subst hk2
      have hO : Hid (wr.ownsRow w.heap.size 9 1 (.slice (some ⟨w.heap.size, 0, none⟩) L.length L.length) L.length (L.map Value.string)) := by
        refine ⟨by simp, .inr ⟨w.heap.size, L.length, _, rfl, Nat.le_refl _, HR.out, Nat.le_refl _, by unfold maxLen; omega, by rw [rowS_size L _ hk]; omega, ?_⟩⟩
        rw [List.take_of_length_le (by rw [Array.length_toList, rowS_size L _ hk]; omega)]
        simp [rowS]
      go_wp2_with fail
      go_ret
      exact ⟨wr.heap.size, rfl, ⟨⟨_, _, L, heap_alloc_new wr _, hO.out.alloc _, fun j hj _ => List.getElem?_eq_getElem hj⟩, hsz, Nat.zero_le _⟩, hb.alloc hsz _⟩
set_option maxRecDepth 100000 in
theorem taken_any {B b : Nat} {w : World} {L : List ByteArray} {k : Nat} (h : IsR B b w L k) : Calls Try.prog 22 #[.pointer (some ⟨b, 0, none⟩)] w fun e w' => e = .returned (.int .i64 (k : Int)) ∧ w = w' := by
  obtain ⟨⟨ad, cap, M, h1, h2, h3⟩, h4, h5⟩ := h
  obtain ⟨c0, c1, z0, z1⟩ := two h1
  clear h1 h2
  go_enter Try.func22, Try.ntmps22
  go_wp2_with fail
  go_ret
  exact ⟨rfl, rfl⟩
set_option maxRecDepth 100000 in
theorem next_no {B b : Nat} {w : World} {L : List ByteArray} (h : IsR B b w L L.length) : Calls Try.prog 21 #[.pointer (some ⟨b, 0, none⟩)] w fun e w' => e = .returned (.tuple #[.string ⟨#[]⟩, .bool false]) ∧ Below w.heap.size w w' := by
  obtain ⟨⟨ad, cap, M, h1, h2, h3⟩, h4, h5⟩ := h
  obtain ⟨c0, c1, z0, z1⟩ := two h1
  clear h1 h2
  go_enter Try.func21, Try.ntmps21
  go_wp2_with fail
  go_quiet (fail)
  go_wp2_with fail
  go_ret2
  exact ⟨rfl, below_drewN (Below.refl _ _) _⟩
/-- What Next leaves. -/
theorem next_mem {B b g cap k : Nat} {W : World} {L M : List ByteArray} (hk : k < L.length) (h4 : B ≤ b) (hne : ¬ g = b) (h1 : W.heap[b]? = some (.cells #[.slice (some ⟨g, 0, none⟩) L.length cap, .int .i64 (k : Int)] 57 (0, 0)))
    (h2 : W.ownsRow B 9 1 (.slice (some ⟨g, 0, none⟩) L.length cap) L.length (M.map Value.string)) (h3 : ∀ j (h : j < L.length), k ≤ j → M[j]? = some L[j]) :
    IsR B b ((W.setCell ⟨g, k, none⟩ (.string ⟨#[]⟩)).setCell ⟨b, 1, none⟩ (.int .i64 ((k : Int) + 1))) L (k + 1) ∧ Fr TR B W ((W.setCell ⟨g, k, none⟩ (.string ⟨#[]⟩)).setCell ⟨b, 1, none⟩ (.int .i64 ((k : Int) + 1))) := by
  obtain ⟨hBg, cur, hg⟩ := row_of h2 g rfl
  have hst := (World.ownsRow.stored h2 k (.string ⟨#[]⟩)).1
  have hb1 : (W.setCell ⟨g, k, none⟩ (.string ⟨#[]⟩)).heap[b]? = some (.cells #[.slice (some ⟨g, 0, none⟩) L.length cap, .int .i64 (k : Int)] 57 (0, 0)) := by
    rw [set_heap (fun e => hne e.symm)]; exact h1
  refine ⟨⟨⟨some ⟨g, 0, none⟩, cap, M.set k ⟨#[]⟩, ?_, ?_, fun j hj hkj => ?_⟩, h4, hk⟩, fr_trans (fr_set hg (Or.inr rfl) hBg) (fr_set hb1 (Or.inl rfl) h4)⟩
  · rw [World.setCell]
    simp [Array.getElem?_modify, hb1]
  · rw [List.map_set]
    exact World.ownsRow.kept (row := some b) hst ⟨rfl, rfl, rfl, by simp [World.setCell], fun j _ hj => set_heap (fun e => hj (by rw [e]))⟩ (.inr fun e => hne (by simpa [Value.ownBlock] using e))
  · rw [List.getElem?_set_ne (by omega)]
    exact h3 j hj (by omega)
set_option maxRecDepth 100000 in
set_option maxHeartbeats 2000000 in
theorem next_yes {B b : Nat} {w : World} {L : List ByteArray} {k : Nat} (hk : k < L.length) (hL : L.length ≤ 1000000) (hB : B ≤ w.heap.size) (h : IsR B b w L k) : Calls Try.prog 21 #[.pointer (some ⟨b, 0, none⟩)] w fun e w' => e = .returned (.tuple #[.string L[k], .bool true]) ∧ IsR B b w' L (k + 1) ∧ Fr TR B w w' := by
  obtain ⟨⟨ad, cap, M, h1, h2, h3⟩, h4, h5⟩ := h
  obtain ⟨c0, c1, z0, z1⟩ := two h1
  obtain ⟨g, cap', hv⟩ : ∃ g cap', Value.slice ad L.length cap = .slice (some ⟨g, 0, none⟩) L.length cap' := by
    rcases h2.2 with ⟨_, e⟩ | ⟨g, c, cur, hv, _⟩
    · omega
    · exact ⟨g, c, hv⟩
  simp only [Value.slice.injEq] at hv
  obtain ⟨rfl, _, rfl⟩ := hv
  have hx := h3 k hk (Nat.le_refl _)
  have hc : w.cell? ⟨g, k, none⟩ = some (.string L[k]) := by rw [World.ownsRow.cellAt h2 k (by omega), List.getElem?_map, hx]; rfl
  have hf : w.frozen? ⟨g, k, none⟩ = false := World.ownsRow.frozenAt h2 k
  obtain ⟨hBg, cur, hg⟩ := row_of h2 g rfl
  have hst := (World.ownsRow.stored h2 k (.string ⟨#[]⟩)).1
  have hne : ¬ g = b := by rintro rfl; rw [h1] at hg; simp only [Option.some.injEq, Obj.cells.injEq] at hg; exact absurd hg.2.1 (by decide)
  have hne2 : ¬ b = g := fun e => hne e.symm
  have HL := Lib.hid h3
  have H1 := Lib.hid h1
  have H2 := Lib.hid h2
  have HG := Lib.hid hg
  have HX := Lib.hid hx
  have hkl : (k : Int) < (L.length : Int) := by omega
  have hkk : ((k : Int) == (L.length : Int)) = false := by rw [beq_eq_false_iff_ne]; omega
  clear h1 h2 hg hx h3 hst
  generalize L[k] = x at *
  go_enter Try.func21, Try.ntmps21
  go_wp2_with fail
  go_quiet (fail)
  go_wp2_with fail
  go_quiet (fail)
  go_wp2_with fail
  go_region
  go_wp2_with fail
  go_ret2
  have hd := fun n => below_drewN (Below.refl w.heap.size w) n
  have hm := fun n => next_mem hk h4 hne (keep H1.out (hd n)) (row_below H2.out (hd n)) HL.out
  exact ⟨rfl, (hm _).1, fr_trans (fr_below (hd _) hB) (hm _).2⟩
end Go.Proofs.Ytmlhknkeacpnhaa.Sk
