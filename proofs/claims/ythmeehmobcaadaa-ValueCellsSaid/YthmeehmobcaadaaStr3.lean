/- Contracts of str.Lower, Upper, Hash, Find. -/
import Derived.Test.YthmeehmobcaadaaStr2
import Derived.Lib.ConvBytes
import Derived.Lib.IndexMore
namespace Go.Proofs.Ythmeehmobcaadaa
open Go.RowKit Go.ChangeShapes Go.WideShapes Go.ChangeAt

theorem cell_set_other (w : World) (B i j : Nat) (v : Value) (h : ¬ j = i) : (w.setCell ⟨B, i, none⟩ v).cell? ⟨B, j, none⟩ = w.cell? ⟨B, j, none⟩ := by
  have hne : (⟨B, i, none⟩ : Addr) ≠ ⟨B, j, none⟩ := by intro e; injection e with e1 e2 e3; exact h e2.symm
  exact World.cell?_setCell_other (h := hne) ..
/-- Byte j, as a number. -/
def bt (s : ByteArray) (j : Nat) : Nat := (s.data.toList.getD j 0).toNat
theorem getD_list (l : List UInt8) (j : Nat) (h : j < l.length) : l.getD j 0 = l[j] := by simp [List.getD, h]
theorem bt_eq (s : ByteArray) (j : Nat) (h : j < s.size) : bt s j = (s[j]).toNat := by
  have h' : j < s.data.toList.length := by rw [size_list]; exact h
  unfold bt
  rw [getD_list _ _ h']; rfl
theorem bt_le (s : ByteArray) (j : Nat) : bt s j ≤ 255 := by unfold bt; have := (s.data.toList.getD j 0).toNat_lt; omega
def lowN (c : Nat) : Nat := if upB c = true then c + 32 else c
def highN (c : Nat) : Nat := if loB c = true then c - 32 else c
theorem lowN_le (c : Nat) (h : c ≤ 255) : lowN c ≤ 255 := by unfold lowN upB; split; simp_all; omega; omega
theorem highN_le (c : Nat) (h : c ≤ 255) : highN c ≤ 255 := by unfold highN; split <;> omega
/-- The first k turned. -/
def part (f : Nat → Nat) (s : ByteArray) (k j : Nat) : Nat := if j < k then f (bt s j) else bt s j
def mapped (f : Nat → Nat) (s : ByteArray) : List UInt8 := s.data.toList.map fun c => UInt8.ofNat (f c.toNat)
theorem mapped_get (f : Nat → Nat) (hf : ∀ c, c ≤ 255 → f c ≤ 255) (s : ByteArray) (j : Nat) (h : j < (mapped f s).length) : ((mapped f s)[j]).toNat = part f s s.size j := by
  have h' : j < s.data.toList.length := by simpa [mapped] using h
  have hs : j < s.size := by rw [← size_list]; exact h'
  unfold part
  rw [if_pos hs]
  simp only [mapped, List.getElem_map]
  rw [bt, getD_list _ _ h', UInt8.toNat_ofNat']
  have := hf (s.data.toList[j]).toNat (by have := (s.data.toList[j]).toNat_lt; omega)
  omega
theorem part_next (f : Nat → Nat) (s : ByteArray) (k j : Nat) (h : ¬ j = k) : part f s (k + 1) j = part f s k j := by
  unfold part
  by_cases h1 : j < k
  · rw [if_pos h1, if_pos (by omega)]
  · rw [if_neg h1, if_neg (by omega)]
theorem part_here (f : Nat → Nat) (s : ByteArray) (k : Nat) : part f s (k + 1) k = f (bt s k) := by unfold part; rw [if_pos (by omega)]
theorem part_old (f : Nat → Nat) (s : ByteArray) (k : Nat) : part f s k k = bt s k := by unfold part; rw [if_neg (by omega)]
theorem bytesWorld_below (w : World) (e : TypeId) (s : ByteArray) : Below w.heap.size w (Lib.bytesWorld w e s) :=
  ⟨rfl, rfl, rfl, by rw [Lib.bytesWorld_size]; omega, fun k hk => Lib.bytesWorld_at_old w e s k hk⟩
theorem bytesWorld_free (w : World) (e : TypeId) (s : ByteArray) (j : Nat) (hj : j < s.size) : (Lib.bytesWorld w e s).frozen? ⟨w.heap.size, j, none⟩ = false := by
  simp only [World.frozen?, Lib.bytesWorld_at_new]
  simp [Lib.bytesCells]
  omega

/-- The hash of what is to come. -/
def mixed : List UInt8 → Int → Int
  | [], z => z
  | c :: l, z => mixed l (IntKind.u64.wrap (bits .xor .u64 z (c.toNat : Int) * 1099511628211))
set_option maxHeartbeats 1000000 in
/-- Of the same text it is the same. -/
theorem hash_same (s : ByteArray) (hs : s.size ≤ 1048576) : ∃ h : Int, ∀ w, Calls Try.prog 46 #[.string s] w fun e w' => e = .returned (.int .u64 h) ∧ w = w' := by
  refine ⟨mixed s.data.toList 14695981039346656037, fun w => ?_⟩
  go_enter Try.func46, Try.ntmps46
  go_wp2
  go_loop [3, 7] (fun h i => ∃ (k : Nat) (z : Int), k ≤ s.size ∧ i = .int .i64 (k : Int) ∧ h = .int .u64 z ∧ Hid (mixed s.data.toList 14695981039346656037 = mixed (s.data.toList.drop k) z)) (fun _ i => s.size - (intOf i).toNat)
  case atStart => exact ⟨0, _, by omega, rfl, rfl, rfl⟩
  case round =>
    obtain ⟨k, z, hk, rfl, rfl, HR⟩ := hrel
    by_cases hlt : k < s.size
    · have hc := byte_lt s k hlt
      have hdr := Lib.hid (drop_byte s k hlt)
      go_wp2
      go_round
      case rel => exact ⟨k + 1, _, by omega, by go_num, rfl, by show _ = _; rw [HR.out, hdr.out]; rfl⟩
      case measure => simp [intOf]; omega
    · have hd := Lib.hid (drop_end s k (by omega))
      go_wp2
      go_ret
      exact ⟨ret_u64 (by rw [HR.out, hd.out]; rfl), rfl⟩

/-- Find's answer. -/
def found (s what : ByteArray) (f : Int) : Int :=
  if f < 0 ∨ (s.size : Int) < f then -1 else
    if Lib.index (s.data.toList.drop f.toNat) what.data.toList < 0 then -1 else f + Lib.index (s.data.toList.drop f.toNat) what.data.toList
end Go.Proofs.Ythmeehmobcaadaa
