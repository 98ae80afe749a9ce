/- list.Set. -/
import Derived.Test.YtfngndbpgegnaaaList14
import Derived.BigRegion
namespace Go.Proofs.Ytfngndbpgegnaaa.Li
open Go.RowKit Go.ChangeShapes Go.WideShapes Go.ChangeAt Go.Proofs.Ytfngndbpgegnaaa.Va

set_option maxRecDepth 100000 in
theorem set_no (B b : Nat) (ad : Option Addr) (cap : Nat) (L : List (Int × Int × ByteArray)) (k n : Int) (s : ByteArray) (i : Int) (hi : i < 0 ∨ (L.length : Int) ≤ i) (w : World) (h : IsL B b ad cap w L) :
    Calls Try.prog 17 #[.pointer (some ⟨b, 0, none⟩), .int .i64 i, .agg #[.int .i64 k, .int .i64 n, .string s]] w fun e w' => e = .returned (.int .i64 1) ∧ Below w.heap.size w w' := by
  have hb1 : Below w.heap.size w (w.alloc (.cells #[.int .i64 k, .int .i64 n, .string s] 30)) := (Below.refl _ _).alloc (Nat.le_refl _) _
  have HN := Lib.hid (fun w h => has_no B b ad cap L i hi w h)
  have HL := Lib.hid h
  have HL1 := Lib.hid (isL_below h hb1)
  have HB := Lib.hid hb1
  clear hb1 h
  go_enter Try.func17, Try.ntmps17
  go_wp2_with fail
  first
  | (refine (HN.out _ HL.out).mono ?_
     rintro e _ ⟨rfl, rfl⟩
     go_wp2_with fail
     go_ret
     exact ⟨rfl, Below.refl _ _⟩)
  | (refine (HN.out _ HL1.out).mono ?_
     rintro e _ ⟨rfl, rfl⟩
     go_wp2_with fail
     go_ret
     exact ⟨rfl, HB.out⟩)
theorem set_off {w : World} {g o : Nat} {v : Value} {b : Nat} {A : Obj} (hne : ¬ b = g) (h : w.heap[b]? = some A) : (w.setCell ⟨g, o, none⟩ v).heap[b]? = some A := by
  rw [← h]
  simp only [World.setCell, Array.getElem?_modify]
  rw [if_neg (fun e => hne e.symm)]
theorem same_three {B b g cap : Nat} {w : World} {L : List (Int × Int × ByteArray)} (h : IsL B b (some ⟨g, 0, none⟩) cap w L) (i : Nat) (e : Int × Int × ByteArray) :
    Same B b (some ⟨g, 0, none⟩) cap w (((w.setCell ⟨g, i * 3, none⟩ (.int .i64 e.1)).setCell ⟨g, i * 3 + 1, none⟩ (.int .i64 e.2.1)).setCell ⟨g, i * 3 + 2, none⟩ (.string e.2.2)) (L.set i e) := by
  have hne : ¬ b = g := fun x => own_apart h.own h.blk (by rw [x]; rfl)
  refine ⟨⟨?_, h.low, own_set h.own i e⟩, upd_set (upd_set (upd_set ⟨rfl, rfl, rfl, Nat.le_refl _, fun _ _ _ _ => rfl⟩ _ _) _ _) _ _⟩
  rw [List.length_set]
  exact set_off hne (set_off hne (set_off hne h.blk))
theorem same_after {B b cap : Nat} {ad : Option Addr} {w W W' : World} {L : List (Int × Int × ByteArray)} (h : Same B b ad cap w W L) (hb : Below W.heap.size W W') : Same B b ad cap w W' L :=
  ⟨isL_below h.1 hb, ⟨hb.os.trans h.2.os, hb.tape.trans h.2.tape, hb.output.trans h.2.output, Nat.le_trans h.2.size hb.size, fun k hk h1 h2 => (hb.block k (Nat.lt_of_lt_of_le hk h.2.size)).trans (h.2.block k hk h1 h2)⟩⟩
set_option maxRecDepth 100000 in
set_option maxHeartbeats 1000000 in
theorem set_yes (B b : Nat) (ad : Option Addr) (cap : Nat) (L : List (Int × Int × ByteArray)) (k n : Int) (s : ByteArray) (i : Nat) (hi : i < L.length) (hl : L.length ≤ 2000000) (w : World) (h : IsL B b ad cap w L) :
    Calls Try.prog 17 #[.pointer (some ⟨b, 0, none⟩), .int .i64 (i : Int), .agg #[.int .i64 k, .int .i64 n, .string s]] w fun e w' => e = .returned (.int .i64 0) ∧ Same B b ad cap w w' (L.set i (k, n, s)) := by
  have hb1 : Below w.heap.size w (w.alloc (.cells #[.int .i64 k, .int .i64 n, .string s] 30)) := (Below.refl _ _).alloc (Nat.le_refl _) _
  have hb2 : Below w.heap.size w (w.alloc (.cells #[.int .i64 k, .int .i64 n, .string s] 30)).drew := hb1.drew
  have h1 := isL_below h hb1
  have h2 := isL_below h hb2
  have HH := Lib.hid (has_yes B b ad cap L i hi _ h1)
  have hx : (w.alloc (.cells #[.int .i64 k, .int .i64 n, .string s] 30)).drew.heap[w.heap.size]? = some (.cells #[.int .i64 k, .int .i64 n, .string s] 30) := heap_alloc_new w _
  obtain ⟨b0, b1, b2, _, _, _⟩ := three_facts hx
  obtain ⟨c0, z0⟩ := isL_cell h1
  obtain ⟨d0, y0⟩ := isL_cell h2
  obtain ⟨g, rfl, _, _⟩ := own_some h.own (by omega)
  obtain ⟨e0, e1, e2⟩ := own_at h.own i hi
  have fz : ∀ j, w.frozen? ⟨g, j, none⟩ = false := World.ownsRow.frozenAt h.own
  have hgw : g < w.heap.size := by obtain ⟨_, hc⟩ := own_block h.own g rfl; exact lt_of_block hc
  have hne : ¬ g = w.heap.size := by omega
  have HS := Lib.hid (same_after (same_three h i (k, n, s)) (((Below.refl _ _).alloc (Nat.le_refl _) (.cells #[.int .i64 k, .int .i64 n, .string s] 30)).drew))
  have hi1 : (i : Int) < (L.length : Int) := by omega
  have hi0 : (0 : Int) ≤ (i : Int) := by omega
  clear h h1 h2 hb1 hb2 hx
  go_enter Try.func17, Try.ntmps17
  go_wp2_with fail
  refine HH.out.mono ?_
  rintro e _ ⟨rfl, rfl⟩
  go_wp2_with fail
  go_region
  all_goals (try go_wp2)
  all_goals go_ret
  all_goals exact ⟨rfl, HS.out⟩
set_option maxRecDepth 100000 in
theorem resize_neg (ad : Option Addr) (k n : Int) (s : ByteArray) (m : Int) (hm : m < 0) (w : World) :
    Calls Try.prog 20 #[.pointer ad, .int .i64 m, .agg #[.int .i64 k, .int .i64 n, .string s]] w fun e w' => e = .returned (.int .i64 1) ∧ Below w.heap.size w w' := by
  go_enter Try.func20, Try.ntmps20
  go_wp2_with fail
  go_ret
  exact ⟨rfl, (Below.refl _ _).alloc (Nat.le_refl _) _⟩
set_option maxRecDepth 100000 in
theorem resize_down (B b : Nat) (ad : Option Addr) (cap : Nat) (L : List (Int × Int × ByteArray)) (k n : Int) (s : ByteArray) (m : Nat) (hm : m ≤ L.length) (hl : L.length ≤ 1048576) (w : World) (h : IsL B b ad cap w L) :
    Calls Try.prog 20 #[.pointer (some ⟨b, 0, none⟩), .int .i64 (m : Int), .agg #[.int .i64 k, .int .i64 n, .string s]] w fun e w' => e = .returned (.int .i64 0) ∧ Same B b ad cap w w' (L.take m) := by
  have hb1 : Below w.heap.size w (w.alloc (.cells #[.int .i64 k, .int .i64 n, .string s] 30)) := (Below.refl _ _).alloc (Nat.le_refl _) _
  have h1 := isL_below h hb1
  have HC := Lib.hid (cut_any B b ad cap L m hm (by omega) _ h1)
  have HB := Lib.hid hb1
  obtain ⟨c0, z0⟩ := isL_cell h1
  have k1 : ¬ (m : Int) < 0 := by omega
  have k2 : ¬ (1048576 : Int) < (m : Int) := by omega
  have k3 : (m : Int) ≤ (L.length : Int) := by omega
  have hwm : IntKind.i64.wrap (m : Int) = (m : Int) := by rw [IntKind.wrap_i64]; omega
  clear h h1 hb1
  go_enter Try.func20, Try.ntmps20
  go_wp2_with fail
  refine HC.out.mono ?_
  intro e w1 hh
  have he := hh.1
  subst he
  have HS := Lib.hid (same_below HB.out hh.2)
  clear hh HC
  go_wp2_with fail
  go_ret
  exact ⟨rfl, HS.out⟩
end Go.Proofs.Ytfngndbpgegnaaa.Li
