/- Contracts of str.Lower, Upper, Hash, Find. -/
import Derived.Test.YtkpdjpplcejjiaaStr2
import Derived.Lib.ConvBytes
import Derived.Lib.IndexMore
namespace Go.Proofs.Ytkpdjpplcejjiaa
open Go.RowKit Go.ChangeShapes Go.WideShapes Go.ChangeAt

theorem cell_set_other (w : World) (B i j : Nat) (v : Value) (h : ¬ j = i) : (w.setCell ⟨B, i, none⟩ v).cell? ⟨B, j, none⟩ = w.cell? ⟨B, j, none⟩ := by
  have hne : (⟨B, i, none⟩ : Addr) ≠ ⟨B, j, none⟩ := by intro e; injection e with e1 e2 e3; exact h e2.symm
  exact World.cell?_setCell_other (h := hne) ..
/-- Byte j, as a number. -/
def bt (s : ByteArray) (j : Nat) : Nat := (s.data.toList.getD j 0).toNat
theorem getD_list (l : List UInt8) (j : Nat) (h : j < l.length) : l.getD j 0 = l[j] := by simp [List.getD, h]
theorem bt_eq (s : ByteArray) (j : Nat) (h : j < s.size) : bt s j = (s[j]).toNat := by
  have h' : j < s.data.toList.length := by rw [size_list]; exact h
  unfold bt
  rw [getD_list _ _ h']; rfl
theorem bt_le (s : ByteArray) (j : Nat) : bt s j ≤ 255 := by unfold bt; have := (s.data.toList.getD j 0).toNat_lt; omega
def lowN (c : Nat) : Nat := if upB c = true then c + 32 else c
def highN (c : Nat) : Nat := if loB c = true then c - 32 else c
theorem lowN_le (c : Nat) (h : c ≤ 255) : lowN c ≤ 255 := by unfold lowN upB; split; simp_all; omega; omega
theorem highN_le (c : Nat) (h : c ≤ 255) : highN c ≤ 255 := by unfold highN; split <;> omega
/-- The first k turned. -/
def part (f : Nat → Nat) (s : ByteArray) (k j : Nat) : Nat := if j < k then f (bt s j) else bt s j
def mapped (f : Nat → Nat) (s : ByteArray) : List UInt8 := s.data.toList.map fun c => UInt8.ofNat (f c.toNat)
theorem mapped_get (f : Nat → Nat) (hf : ∀ c, c ≤ 255 → f c ≤ 255) (s : ByteArray) (j : Nat) (h : j < (mapped f s).length) : ((mapped f s)[j]).toNat = part f s s.size j := by
  have h' : j < s.data.toList.length := by simpa [mapped] using h
  have hs : j < s.size := by rw [← size_list]; exact h'
  unfold part
  rw [if_pos hs]
  simp only [mapped, List.getElem_map]
  rw [bt, getD_list _ _ h', UInt8.toNat_ofNat']
  have := hf (s.data.toList[j]).toNat (by have := (s.data.toList[j]).toNat_lt; omega)
  omega
theorem part_next (f : Nat → Nat) (s : ByteArray) (k j : Nat) (h : ¬ j = k) : part f s (k + 1) j = part f s k j := by
  unfold part
  by_cases h1 : j < k
  · rw [if_pos h1, if_pos (by omega)]
  · rw [if_neg h1, if_neg (by omega)]
theorem part_here (f : Nat → Nat) (s : ByteArray) (k : Nat) : part f s (k + 1) k = f (bt s k) := by unfold part; rw [if_pos (by omega)]
theorem part_old (f : Nat → Nat) (s : ByteArray) (k : Nat) : part f s k k = bt s k := by unfold part; rw [if_neg (by omega)]
theorem bytesWorld_below (w : World) (e : TypeId) (s : ByteArray) : Below w.heap.size w (Lib.bytesWorld w e s) :=
  ⟨rfl, rfl, rfl, by rw [Lib.bytesWorld_size]; omega, fun k hk => Lib.bytesWorld_at_old w e s k hk⟩
theorem bytesWorld_free (w : World) (e : TypeId) (s : ByteArray) (j : Nat) (hj : j < s.size) : (Lib.bytesWorld w e s).frozen? ⟨w.heap.size, j, none⟩ = false := by
  simp only [World.frozen?, Lib.bytesWorld_at_new]
  simp [Lib.bytesCells]
  omega

set_option maxRecDepth 100000 in
set_option maxHeartbeats 1000000 in
theorem lower_any (s : ByteArray) (hs : s.size ≤ 1048576) (w : World) : Calls Try.prog 22 #[.string s] w fun e w' => e = .returned (.string ⟨(mapped lowN s).toArray⟩) ∧ Below w.heap.size w w' := by
  have hcv := Lib.run_convert_string_bytes (P := Try.prog) w 9 46 5 s Try.underlying9 Try.underlying46 Try.underlying5
  have hb0 := bytesWorld_below w 5 s
  have hz0 := Lib.bytesWorld_size w 5 s
  have hc0 : Hid (∀ j, j < s.size → (Lib.bytesWorld w 5 s).cell? ⟨w.heap.size, j, none⟩ = some (.int .u8 ((part lowN s 0 j : Nat) : Int))) := fun j hj => by
    rw [Lib.bytesWorld_cell w _ s j hj]; rfl
  have hf0 : Hid (∀ j, j < s.size → (Lib.bytesWorld w 5 s).frozen? ⟨w.heap.size, j, none⟩ = false) := fun j hj => bytesWorld_free w _ s j hj
  generalize Lib.bytesWorld w 5 s = w0 at *
  generalize grownCap w s.size 0 5 = cap at *
  have HCV := Lib.hid hcv
  have HZ := Lib.hid hz0
  clear hcv hz0
  go_enter Try.func22, Try.ntmps22
  go_wp2_with (refine wpList_convert_to rfl 9 46 (.tmp 5) rfl (.string s) rfl HCV.out ?_)
  go_loopw [9] (fun i wr => ∃ k : Nat, k ≤ s.size ∧ i = .int .i64 (k : Int) ∧ Hid (∀ j, j < s.size → wr.cell? ⟨w.heap.size, j, none⟩ = some (.int .u8 ((part lowN s k j : Nat) : Int))) ∧ Hid (∀ j, j < s.size → wr.frozen? ⟨w.heap.size, j, none⟩ = false) ∧ Below w.heap.size w wr) (fun i _ => s.size - (intOf i).toNat)
  case atStart => exact ⟨0, by omega, rfl, hc0, hf0, hb0⟩
  case round =>
    obtain ⟨k, hk, rfl, HC, HF, hb⟩ := hrel
    by_cases hlt : k < s.size
    · have hbt := bt_le s k
      have hc : wr.cell? ⟨w.heap.size, k, none⟩ = some (.int .u8 ((bt s k : Nat) : Int)) := by rw [HC.out k hlt, part_old]
      have hf := HF.out k hlt
      cases hu : upB (bt s k)
      · have HE : Hid (lowN (bt s k) = bt s k) := by show _ = _; unfold lowN; rw [if_neg (by rw [hu]; simp)]
        go_wp2_with (go_at_call 40; refine (isGreat_any _ hbt _).mono ?_; rintro e w' ⟨rfl, rfl⟩)
        go_roundw
        case rel =>
          refine ⟨k + 1, by omega, by go_num, fun j hj => ?_, HF, hb⟩
          rw [HC.out j hj]
          by_cases hjk : j = k
          · subst hjk; rw [part_here, part_old, HE.out]
          · rw [part_next _ _ _ _ hjk]
        case measure => simp [intOf]; omega
      · have HE : Hid (lowN (bt s k) = bt s k + 32) := by show _ = _; unfold lowN; rw [if_pos hu]
        have hr : 65 ≤ bt s k ∧ bt s k ≤ 90 := by unfold upB at hu; simp at hu; exact hu
        obtain ⟨hr1, hr2⟩ := hr
        go_wp2_with (go_at_call 40; refine (isGreat_any _ hbt _).mono ?_; rintro e w' ⟨rfl, rfl⟩)
        go_roundw
        case rel =>
          refine ⟨k + 1, by omega, by go_num, fun j hj => ?_, fun j hj => ?_, hb.setCell (by simp) _⟩
          · by_cases hjk : j = k
            · subst hjk
              rw [World.cell?_setCell_same' _ _ _ (by rw [hc]; rfl), part_here, HE.out]
              first | rfl | (congr 2; omega)
            · rw [cell_set_other _ _ _ _ _ hjk, HC.out j hj, part_next _ _ _ _ hjk]
          · rw [World.frozen?_setCell]; exact HF.out j hj
        case measure => simp [intOf]; omega
    · have hk2 : k = s.size := by omega
      have hcv2 := run_convert_bytes_back (P := Try.prog) wr 46 9 5 ⟨w.heap.size, 0, none⟩ cap (mapped lowN s) Try.underlying46 Try.underlying5 Try.underlying9 (fun j hj => by
        have hadd : (⟨w.heap.size, 0, none⟩ : Addr).add j = ⟨w.heap.size, j, none⟩ := by unfold Addr.add; split <;> simp_all
        have hj' : j < s.size := by simpa [mapped] using hj
        rw [hadd, HC.out j hj', mapped_get lowN lowN_le s j hj, hk2])
      have hml : (mapped lowN s).length = s.size := by simp [mapped]
      rw [hml] at hcv2
      have HCV2 := Lib.hid hcv2
      clear hcv2 hml hk2
      go_wp2_with (refine wpList_convert_to rfl 46 9 (.tmp 24) rfl (.slice (some ⟨w.heap.size, 0, none⟩) s.size cap) rfl HCV2.out ?_)
      go_ret
      exact ⟨rfl, hb⟩

set_option maxRecDepth 100000 in
set_option maxHeartbeats 1000000 in
theorem upper_any (s : ByteArray) (hs : s.size ≤ 1048576) (w : World) : Calls Try.prog 23 #[.string s] w fun e w' => e = .returned (.string ⟨(mapped highN s).toArray⟩) ∧ Below w.heap.size w w' := by
  have hcv := Lib.run_convert_string_bytes (P := Try.prog) w 9 46 5 s Try.underlying9 Try.underlying46 Try.underlying5
  have hb0 := bytesWorld_below w 5 s
  have hz0 := Lib.bytesWorld_size w 5 s
  have hc0 : Hid (∀ j, j < s.size → (Lib.bytesWorld w 5 s).cell? ⟨w.heap.size, j, none⟩ = some (.int .u8 ((part highN s 0 j : Nat) : Int))) := fun j hj => by
    rw [Lib.bytesWorld_cell w _ s j hj]; rfl
  have hf0 : Hid (∀ j, j < s.size → (Lib.bytesWorld w 5 s).frozen? ⟨w.heap.size, j, none⟩ = false) := fun j hj => bytesWorld_free w _ s j hj
  generalize Lib.bytesWorld w 5 s = w0 at *
  generalize grownCap w s.size 0 5 = cap at *
  have HCV := Lib.hid hcv
  have HZ := Lib.hid hz0
  clear hcv hz0
  go_enter Try.func23, Try.ntmps23
  go_wp2_with (refine wpList_convert_to rfl 9 46 (.tmp 5) rfl (.string s) rfl HCV.out ?_)
  go_loopw [9] (fun i wr => ∃ k : Nat, k ≤ s.size ∧ i = .int .i64 (k : Int) ∧ Hid (∀ j, j < s.size → wr.cell? ⟨w.heap.size, j, none⟩ = some (.int .u8 ((part highN s k j : Nat) : Int))) ∧ Hid (∀ j, j < s.size → wr.frozen? ⟨w.heap.size, j, none⟩ = false) ∧ Below w.heap.size w wr) (fun i _ => s.size - (intOf i).toNat)
  case atStart => exact ⟨0, by omega, rfl, hc0, hf0, hb0⟩
  case round =>
    obtain ⟨k, hk, rfl, HC, HF, hb⟩ := hrel
    by_cases hlt : k < s.size
    · have hbt := bt_le s k
      have hc : wr.cell? ⟨w.heap.size, k, none⟩ = some (.int .u8 ((bt s k : Nat) : Int)) := by rw [HC.out k hlt, part_old]
      have hf := HF.out k hlt
      cases hu : loB (bt s k)
      · have HE : Hid (highN (bt s k) = bt s k) := by show _ = _; unfold highN; rw [if_neg (by rw [hu]; simp)]
        go_wp2_with (go_at_call 41; refine (isSmall_any _ hbt _).mono ?_; rintro e w' ⟨rfl, rfl⟩)
        go_roundw
        case rel =>
          refine ⟨k + 1, by omega, by go_num, fun j hj => ?_, HF, hb⟩
          rw [HC.out j hj]
          by_cases hjk : j = k
          · subst hjk; rw [part_here, part_old, HE.out]
          · rw [part_next _ _ _ _ hjk]
        case measure => simp [intOf]; omega
      · have HE : Hid (highN (bt s k) = bt s k - 32) := by show _ = _; unfold highN; rw [if_pos hu]
        have hr : 97 ≤ bt s k ∧ bt s k ≤ 122 := by unfold loB at hu; simp at hu; exact hu
        obtain ⟨hr1, hr2⟩ := hr
        go_wp2_with (go_at_call 41; refine (isSmall_any _ hbt _).mono ?_; rintro e w' ⟨rfl, rfl⟩)
        go_roundw
        case rel =>
          refine ⟨k + 1, by omega, by go_num, fun j hj => ?_, fun j hj => ?_, hb.setCell (by simp) _⟩
          · by_cases hjk : j = k
            · subst hjk
              rw [World.cell?_setCell_same' _ _ _ (by rw [hc]; rfl), part_here, HE.out]
              first | rfl | (congr 2; omega)
            · rw [cell_set_other _ _ _ _ _ hjk, HC.out j hj, part_next _ _ _ _ hjk]
          · rw [World.frozen?_setCell]; exact HF.out j hj
        case measure => simp [intOf]; omega
    · have hk2 : k = s.size := by omega
      have hcv2 := run_convert_bytes_back (P := Try.prog) wr 46 9 5 ⟨w.heap.size, 0, none⟩ cap (mapped highN s) Try.underlying46 Try.underlying5 Try.underlying9 (fun j hj => by
        have hadd : (⟨w.heap.size, 0, none⟩ : Addr).add j = ⟨w.heap.size, j, none⟩ := by unfold Addr.add; split <;> simp_all
        have hj' : j < s.size := by simpa [mapped] using hj
        rw [hadd, HC.out j hj', mapped_get highN highN_le s j hj, hk2])
      have hml : (mapped highN s).length = s.size := by simp [mapped]
      rw [hml] at hcv2
      have HCV2 := Lib.hid hcv2
      clear hcv2 hml hk2
      go_wp2_with (refine wpList_convert_to rfl 46 9 (.tmp 24) rfl (.slice (some ⟨w.heap.size, 0, none⟩) s.size cap) rfl HCV2.out ?_)
      go_ret
      exact ⟨rfl, hb⟩

/-- The hash of what is to come. -/
def mixed : List UInt8 → Int → Int
  | [], z => z
  | c :: l, z => mixed l (IntKind.u64.wrap (bits .xor .u64 z (c.toNat : Int) * 1099511628211))
set_option maxHeartbeats 1000000 in
/-- Of the same text it is the same. -/
theorem hash_same (s : ByteArray) (hs : s.size ≤ 1048576) : ∃ h : Int, ∀ w, Calls Try.prog 21 #[.string s] w fun e w' => e = .returned (.int .u64 h) ∧ w = w' := by
  refine ⟨mixed s.data.toList 14695981039346656037, fun w => ?_⟩
  go_enter Try.func21, Try.ntmps21
  go_wp2
  go_loop [3, 7] (fun h i => ∃ (k : Nat) (z : Int), k ≤ s.size ∧ i = .int .i64 (k : Int) ∧ h = .int .u64 z ∧ Hid (mixed s.data.toList 14695981039346656037 = mixed (s.data.toList.drop k) z)) (fun _ i => s.size - (intOf i).toNat)
  case atStart => exact ⟨0, _, by omega, rfl, rfl, rfl⟩
  case round =>
    obtain ⟨k, z, hk, rfl, rfl, HR⟩ := hrel
    by_cases hlt : k < s.size
    · have hc := byte_lt s k hlt
      have hdr := Lib.hid (drop_byte s k hlt)
      go_wp2
      go_round
      case rel => exact ⟨k + 1, _, by omega, by go_num, rfl, by show _ = _; rw [HR.out, hdr.out]; rfl⟩
      case measure => simp [intOf]; omega
    · have hd := Lib.hid (drop_end s k (by omega))
      go_wp2
      go_ret
      exact ⟨ret_u64 (by rw [HR.out, hd.out]; rfl), rfl⟩

/-- Find's answer. -/
def found (s what : ByteArray) (f : Int) : Int :=
  if f < 0 ∨ (s.size : Int) < f then -1 else
    if Lib.index (s.data.toList.drop f.toNat) what.data.toList < 0 then -1 else f + Lib.index (s.data.toList.drop f.toNat) what.data.toList
theorem find_any (s what : ByteArray) (hs : s.size ≤ 1048576) (f : Int) (m : Int) (w : World) (hm : w.cell? ⟨0, 0, none⟩ = some (.int .i64 m)) :
    Calls Try.prog 17 #[.string s, .string what, .int .i64 f] w fun e w' => e = .returned (.int .i64 (found s what f)) ∧ w = w' := by
  by_cases h1 : f < 0
  · have HE : Hid (found s what f = -1) := by show _ = _; unfold found; rw [if_pos (Or.inl h1)]
    clear hm
    go_enter Try.func17, Try.ntmps17
    go_wp2_with fail
    go_ret
    exact ⟨ret_i64 HE.out.symm, rfl⟩
  · by_cases h2 : (s.size : Int) < f
    · have HE : Hid (found s what f = -1) := by show _ = _; unfold found; rw [if_pos (Or.inr h2)]
      clear hm
      go_enter Try.func17, Try.ntmps17
      go_wp2_with fail
      go_ret
      exact ⟨ret_i64 HE.out.symm, rfl⟩
    · obtain ⟨n, rfl⟩ := Int.eq_ofNat_of_zero_le (a := f) (by omega)
      have hn : n ≤ s.size := by omega
      have hx : (s.extract n s.size).size < 4294967281 := by simp; omega
      have HI := Lib.hid (Try.strings_Index (s.extract n s.size) what m w hx hm)
      rw [Lib.extract_to_end] at HI
      have hi1 := Lib.index_ge (s.data.toList.drop n) what.data.toList
      have hi2 := Lib.index_le (s.data.toList.drop n) what.data.toList
      rw [List.length_drop, size_list] at hi2
      by_cases h3 : Lib.index (s.data.toList.drop n) what.data.toList < 0
      · have HE : Hid (found s what (n : Int) = -1) := by show _ = _; unfold found; rw [if_neg (by omega)]; exact if_pos h3
        generalize Lib.index (s.data.toList.drop n) what.data.toList = r at *
        clear hm hx h1 h2
        go_enter Try.func17, Try.ntmps17
        go_wp2_with fail
        refine HI.out.mono ?_
        rintro e w' ⟨rfl, rfl⟩
        go_wp2_with fail
        go_ret
        exact ⟨ret_i64 HE.out.symm, rfl⟩
      · have HE : Hid (found s what (n : Int) = (n : Int) + Lib.index (s.data.toList.drop n) what.data.toList) := by show _ = _; unfold found; rw [if_neg (by omega)]; exact if_neg h3
        generalize Lib.index (s.data.toList.drop n) what.data.toList = r at *
        clear hm hx h1 h2
        go_enter Try.func17, Try.ntmps17
        go_wp2_with fail
        refine HI.out.mono ?_
        rintro e w' ⟨rfl, rfl⟩
        go_wp2_with fail
        go_ret
        exact ⟨ret_i64 HE.out.symm, rfl⟩
end Go.Proofs.Ytkpdjpplcejjiaa
