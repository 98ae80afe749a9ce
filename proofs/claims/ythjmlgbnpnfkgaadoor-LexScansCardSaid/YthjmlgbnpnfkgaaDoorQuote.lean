/- Contract of str.Quote. -/
import Derived.Test.YthjmlgbnpnfkgaaDoorBuild
import Derived.Test.YthjmlgbnpnfkgaaDoorEsc
import Derived.Lib.UnsafeStr
import Derived.Lib.VarintMem
import Derived.Lib.AppendIntMem
namespace Go.Proofs.YthjmlgbnpnfkgaaDoor
open Go.RowKit Go.ChangeShapes Go.WideShapes Go.ChangeAt

/-- What lies there stays a builder while new blocks come. -/
theorem builder_below {T e : TypeId} {B b : Nat} {bs : List Value} {W W' : World} (h : Lib.IsBuilder T e B b bs W) (hb : Below W.heap.size W W') : Lib.IsBuilder T e B b bs W' := by
  have one : ∀ p, Lib.BuilderAt T e B b p bs W → Lib.BuilderAt T e B b p bs W' := fun p h1 => by
    have hlt := h1.lt
    obtain ⟨hB, v, hbk, hown, hne⟩ := h1
    exact ⟨hB, v, (hb.block b hlt).trans hbk, hown.kept (row := none) ⟨hb.os, hb.tape, hb.output, hb.size, fun k hk _ => hb.block k hk⟩ (Classical.em _), hne⟩
  rcases h with h | h
  · exact .inl (one _ h)
  · exact .inr (one _ h)
theorem esc_le (c : Nat) : (esc c).length ≤ 4 := by unfold esc; repeat' split
                                                    all_goals simp
/-- Each byte as it stands between quotes. -/
def escs : List UInt8 → List UInt8
  | [] => []
  | c :: l => esc c.toNat ++ escs l
theorem escs_le : ∀ l : List UInt8, (escs l).length ≤ 4 * l.length
  | [] => by simp [escs]
  | c :: l => by have := escs_le l; have := esc_le c.toNat; simp [escs]; omega
theorem escs_append : ∀ a b : List UInt8, escs (a ++ b) = escs a ++ escs b
  | [], b => by simp [escs]
  | c :: l, b => by simp [escs, escs_append l b]
theorem take_byte (s : ByteArray) (k : Nat) (h : k < s.size) : s.data.toList.take (k + 1) = s.data.toList.take k ++ [s[k]] := by
  rw [List.take_succ_eq_append_getElem (by simpa using h)]; rfl

set_option maxRecDepth 100000 in
set_option maxHeartbeats 1000000 in
theorem quote_any (s : ByteArray) (hs : s.size ≤ 1048576) (w : World) : Calls Tryd.prog 35 #[.string s] w fun e w' => e = .returned (.string ⟨(34 :: (escs s.data.toList ++ [34])).toArray⟩) ∧ Below w.heap.size w w' := by
  have hf := Lib.fresh_isBuilder 55 5 w
  have HF := Lib.hid hf
  clear hf
  go_enter Tryd.func35, Tryd.ntmps35
  go_wp2_with (go_at_call 22; refine (putByte w.heap.size w.heap.size [] 34 _ HF.out (by simp) (by simp)).mono ?_)
  rintro e w1 ⟨rfl, hi1, hb1⟩
  have hi1' : Lib.IsBuilder 55 5 w.heap.size w.heap.size (Lib.byteCells (34 :: escs (s.data.toList.take 0))) w1 := hi1
  have hbw1 : Below w.heap.size w w1 := ((Below.refl _ _).alloc (Nat.le_refl _) _).trans hb1
  clear hi1 hb1
  have HI1 := Lib.hid hi1'
  clear hi1'
  go_wp2_with fail
  go_loopw [8] (fun i wr => ∃ k : Nat, k ≤ s.size ∧ i = .int .i64 (k : Int) ∧ Hid (Lib.IsBuilder 55 5 w.heap.size w.heap.size (Lib.byteCells (34 :: escs (s.data.toList.take k))) wr) ∧ Below w.heap.size w wr) (fun i _ => s.size - (intOf i).toNat)
  case atStart => exact ⟨0, by omega, rfl, HI1, hbw1⟩
  case round =>
    obtain ⟨k, hk, rfl, HB, hb⟩ := hrel
    have hl := escs_le (s.data.toList.take k)
    have hl2 : (s.data.toList.take k).length ≤ k := List.length_take_le _ _
    have hsz := hb.size
    by_cases hlt : k < s.size
    · have hc := byte_lt s k hlt
      have ht := Lib.hid (take_byte s k hlt)
      have he4 := esc_le (s[k]).toNat
      go_wp2_with fail
      refine (escape_any _ hc _).mono ?_
      rintro e w2 ⟨rfl, hb2⟩
      have hsz2 := hb2.size
      go_wp2_with fail
      refine (putString w.heap.size w.heap.size _ _ _ (builder_below HB.out hb2) (by rw [Lib.byteCells_length, size_mk, List.length_cons]; omega) (by omega)).mono ?_
      rintro e w3 ⟨rfl, hi3, hb3⟩
      go_wp2_with fail
      go_roundw
      case rel =>
        refine ⟨k + 1, by omega, by go_num, ?_, (hb.trans (hb2.mono hsz)).trans hb3⟩
        rw [ht.out, escs_append]
        simp only [escs, List.append_nil]
        rw [Lib.strCells_toArray, ← Lib.byteCells_append] at hi3
        exact hi3
      case measure => simp [intOf]; omega
    · go_wp2_with fail
      refine (putByte w.heap.size w.heap.size _ 34 _ HB.out (by rw [Lib.byteCells_length, List.length_cons]; omega) (by omega)).mono ?_
      rintro e w2 ⟨rfl, hi2, hb2⟩
      have hi2' : Lib.IsBuilder 55 5 w.heap.size w.heap.size (Lib.byteCells (34 :: (escs s.data.toList ++ [34]))) w2 := by
        have e : s.data.toList.take k = s.data.toList := List.take_of_length_le (by rw [size_list]; omega)
        rw [e] at hi2
        simpa [Lib.byteCells] using hi2
      have hsz2 := hb2.size
      have HI2 := Lib.hid hi2'
      clear hi2 hi2'
      go_wp2_with fail
      refine (Tryd.Builder_String_any w.heap.size w.heap.size _ _ HI2.out (by omega)).mono ?_
      rintro e w3 ⟨rfl, hb3⟩
      go_wp2_with fail
      go_ret
      exact ⟨rfl, (hb.trans hb2).trans hb3⟩
end Go.Proofs.YthjmlgbnpnfkgaaDoor
