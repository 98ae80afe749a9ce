/- Contracts of str.add and str.Join. -/
import Derived.Test.YthmeehmobcaadaaQuote
namespace Go.Proofs.Ythmeehmobcaadaa
open Go.RowKit Go.ChangeShapes Go.WideShapes Go.ChangeAt

set_option maxRecDepth 100000 in
theorem add_any (B b : Nat) (bs : List Value) (s : ByteArray) (w : World) (h : Lib.IsBuilder 67 5 B b bs w) (hlen : bs.length + s.size ≤ 1048576) (hBw : B ≤ w.heap.size) :
    Calls Try.prog 66 #[.pointer (some ⟨b, 0, none⟩), .string s] w fun e w' => e = .returned (.bool true) ∧ (Lib.IsBuilder 67 5 B b (bs ++ Lib.strCells s) w' ∧ Below B w w') := by
  have HB := Lib.hid h
  go_enter Try.func66, Try.ntmps66
  go_wp2_with fail
  refine (Try.Builder_Len B b bs _ HB.out).mono ?_
  rintro e w1 ⟨rfl, rfl⟩
  go_wp2_with fail
  refine (putString B b bs s _ HB.out (by omega) hBw).mono ?_
  rintro e w2 ⟨rfl, hi2, hb2⟩
  have HI := Lib.hid hi2
  clear hi2
  go_wp2_with fail
  go_ret
  exact ⟨rfl, HI.out, hb2⟩

/-- Pieces behind what is there, with a text ahead of each but the first one. -/
def jrun (by_ : List UInt8) : List ByteArray → Bool → List UInt8 → List UInt8
  | [], _, acc => acc
  | s :: l, first, acc => jrun by_ l false ((if first then acc else acc ++ by_) ++ s.data.toList)
theorem jrun_len (by_ : List UInt8) : ∀ (l : List ByteArray) (f : Bool) (acc : List UInt8), acc.length ≤ (jrun by_ l f acc).length
  | [], f, acc => by simp [jrun]
  | s :: l, f, acc => by
    have := jrun_len by_ l false ((if f then acc else acc ++ by_) ++ s.data.toList)
    simp only [jrun]
    rw [List.length_append] at this
    cases f
    · rw [if_neg (by simp), List.length_append] at this; rw [if_neg (by simp)]; omega
    · rw [if_pos rfl] at this; rw [if_pos rfl]; omega
theorem jrun_first (by_ : List UInt8) (s : ByteArray) (l : List ByteArray) (acc : List UInt8) : jrun by_ (s :: l) true acc = jrun by_ l false (acc ++ s.data.toList) := by simp [jrun]
theorem jrun_later (by_ : List UInt8) (s : ByteArray) (l : List ByteArray) (acc : List UInt8) : jrun by_ (s :: l) false acc = jrun by_ l false (acc ++ by_ ++ s.data.toList) := by simp [jrun]
theorem cell_below {B b i : Nat} {v : Value} {W W' : World} (h : Below B W W') (hb : b < B) (hc : W.cell? ⟨b, i, none⟩ = some v) : W'.cell? ⟨b, i, none⟩ = some v := by
  rw [← hc]
  exact World.cell?_of_block (h.block b hb)

set_option maxRecDepth 100000 in
set_option maxHeartbeats 1000000 in
theorem join_any (by_ : ByteArray) (l : List ByteArray) (g cap : Nat) (w : World) (hg : g < w.heap.size) (hl : l.length ≤ 1048576)
    (hcell : ∀ (k : Nat) (h : k < l.length), w.cell? ⟨g, k, none⟩ = some (.string l[k])) (hsum : (jrun by_.data.toList l true []).length ≤ 1048576) :
    Calls Try.prog 62 #[.string by_, .slice (some ⟨g, 0, none⟩) l.length cap] w fun e w' => e = .returned (.tuple #[.string ⟨(jrun by_.data.toList l true []).toArray⟩, .int .i64 0]) ∧ Below w.heap.size w w' := by
  have hf := Lib.fresh_isBuilder 67 5 w
  have HF := Lib.hid hf
  have HC := Lib.hid hcell
  clear hf hcell
  generalize hJ : jrun by_.data.toList l true [] = J at *
  have HJ := Lib.hid hJ
  clear hJ
  go_enter Try.func62, Try.ntmps62
  go_wp2_with fail
  go_loopw [11] (fun i wr => ∃ (k : Nat) (acc : List UInt8), k ≤ l.length ∧ i = .int .i64 (k : Int) ∧ Hid (Lib.IsBuilder 67 5 w.heap.size w.heap.size (Lib.byteCells acc) wr) ∧ Hid (jrun by_.data.toList (l.drop k) (decide (k = 0)) acc = J) ∧ Below w.heap.size w wr) (fun i _ => l.length - (intOf i).toNat)
  case atStart => exact ⟨0, [], by omega, rfl, HF, HJ.out, (Below.refl _ _).alloc (Nat.le_refl _) _⟩
  case round =>
    obtain ⟨k, acc, hk, rfl, HB, HU, hb⟩ := hrel
    have hsz := hb.size
    by_cases hlt : k < l.length
    · have hc := cell_below hb hg (HC.out k hlt)
      have hd : l.drop k = l[k] :: l.drop (k + 1) := List.drop_eq_getElem_cons hlt
      by_cases k0 : k = 0
      · subst k0
        have HU2 : Hid (jrun by_.data.toList (l.drop 1) false (acc ++ l[0].data.toList) = J) := by
          show _ = _
          rw [← HU.out, hd, show decide (0 = 0) = true from rfl, jrun_first]
        have hn := jrun_len by_.data.toList (l.drop 1) false (acc ++ l[0].data.toList)
        rw [HU2.out, List.length_append, size_list] at hn
        clear hd HU
        go_wp2_with fail
        refine (add_any w.heap.size w.heap.size _ _ _ HB.out (by rw [Lib.byteCells_length]; omega) (by omega)).mono ?_
        rintro e w2 ⟨rfl, hi2, hb2⟩
        have HI2 := Lib.hid hi2
        clear hi2
        go_wp2_with fail
        go_roundw
        case rel =>
          refine ⟨1, acc ++ l[0].data.toList, by omega, by go_num, ?_, HU2, hb.trans hb2⟩
          rw [Lib.byteCells_append]
          exact HI2
        case measure => simp [intOf]; omega
      · have HU2 : Hid (jrun by_.data.toList (l.drop (k + 1)) false (acc ++ by_.data.toList ++ l[k].data.toList) = J) := by
          show _ = _
          rw [← HU.out, hd, show decide (k = 0) = false by simp [k0], jrun_later]
        have hn := jrun_len by_.data.toList (l.drop (k + 1)) false (acc ++ by_.data.toList ++ l[k].data.toList)
        rw [HU2.out, List.length_append, List.length_append, size_list, size_list] at hn
        have hk0 : 0 < k := by omega
        clear hd HU
        go_wp2_with fail
        refine (add_any w.heap.size w.heap.size _ _ _ HB.out (by rw [Lib.byteCells_length]; omega) (by omega)).mono ?_
        rintro e w2 ⟨rfl, hi2, hb2⟩
        have HI2 := Lib.hid hi2
        have hsz2 := hb2.size
        clear hi2
        go_wp2_with fail
        refine (add_any w.heap.size w.heap.size _ _ _ HI2.out (by rw [List.length_append, Lib.byteCells_length, Lib.strCells_length]; omega) (by omega)).mono ?_
        rintro e w3 ⟨rfl, hi3, hb3⟩
        have HI3 := Lib.hid hi3
        clear hi3
        go_wp2_with fail
        go_roundw
        case rel =>
          refine ⟨k + 1, acc ++ by_.data.toList ++ l[k].data.toList, by omega, by go_num, ?_, ?_, (hb.trans hb2).trans hb3⟩
          · rw [Lib.byteCells_append, Lib.byteCells_append]
            exact HI3
          · rw [show decide (k + 1 = 0) = false by simp]
            exact HU2
        case measure => simp [intOf]; omega
    · have HR : Hid (J = acc) := by show _ = _; rw [← HU.out, List.drop_eq_nil_of_le (by omega)]; rfl
      clear HU
      go_wp2_with fail
      refine (Try.Builder_String_any w.heap.size w.heap.size _ _ HB.out (by omega)).mono ?_
      rintro e w3 ⟨rfl, hb3⟩
      go_wp2_with fail
      go_ret2
      exact ⟨by rw [HR.out]; rfl, hb.trans hb3⟩
end Go.Proofs.Ythmeehmobcaadaa
