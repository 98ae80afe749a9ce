/- Contract of str.Split. -/
import Derived.Test.YtkpdjpplcejjiaaJoin
import Derived.Test.YtkpdjpplcejjiaaStr3
import Derived.Laws.Tables
namespace Go.Proofs.Ytkpdjpplcejjiaa
open Go.RowKit Go.ChangeShapes Go.WideShapes Go.ChangeAt

/-- 256 cells, each a bool. -/
def rowB (f : Nat → Bool) : Array Value := Array.ofFn (n := 256) fun i => .bool (f i.val)
theorem rowB_size (f : Nat → Bool) : (rowB f).size = 256 := by simp [rowB]
theorem rowB_get (f : Nat → Bool) (i : Nat) (h : i < 256) : (rowB f)[i]? = some (.bool (f i)) := by simp [rowB, h]
theorem rowB_set (f : Nat → Bool) (i : Nat) (b : Bool) : (rowB f).setIfInBounds i (.bool b) = rowB (fun j => if j = i then b else f j) := by
  apply Array.ext
  · simp [rowB]
  · intro j h1 h2
    rw [Array.getElem_setIfInBounds (by simpa [rowB] using h1)]
    simp only [rowB, Array.getElem_ofFn]
    by_cases e : i = j
    · simp [e]
    · rw [if_neg e, if_neg (fun h => e h.symm)]
theorem rowB_congr {f g : Nat → Bool} (h : ∀ j, j < 256 → f j = g j) : rowB f = rowB g := by
  apply Array.ext
  · simp [rowB]
  · intro j h1 h2
    have hj : j < 256 := by simpa [rowB] using h1
    simp [rowB, h j hj]
/-- Is a byte among some? -/
def among (l : List UInt8) (c : Nat) : Bool := l.any fun x => x.toNat == c
theorem rowB_among (l : List UInt8) (x : UInt8) : (rowB (among l)).setIfInBounds x.toNat (.bool true) = rowB (among (l ++ [x])) := by
  rw [rowB_set]
  refine rowB_congr fun j _ => ?_
  unfold among
  rw [List.any_append]
  by_cases e : j = x.toNat
  · simp [e]
  · rw [if_neg e]; simp [Ne.symm e]
/-- The pieces from a byte on. -/
def srun (cut : Nat → Bool) (s : ByteArray) : List UInt8 → Nat → Nat → List ByteArray → List ByteArray
  | [], _, a, acc => acc ++ [s.extract a s.size]
  | c :: l, i, a, acc => if cut c.toNat = true then srun cut s l (i + 1) (i + 1) (acc ++ [s.extract a i]) else srun cut s l (i + 1) a acc
theorem srun_end (cut : Nat → Bool) (s : ByteArray) (i a : Nat) (acc : List ByteArray) : srun cut s [] i a acc = acc ++ [s.extract a s.size] := rfl
theorem srun_cut (cut : Nat → Bool) (s : ByteArray) (c : UInt8) (l : List UInt8) (i a : Nat) (acc : List ByteArray) (h : cut c.toNat = true) : srun cut s (c :: l) i a acc = srun cut s l (i + 1) (i + 1) (acc ++ [s.extract a i]) := by simp only [srun]; rw [if_pos h]
theorem srun_on (cut : Nat → Bool) (s : ByteArray) (c : UInt8) (l : List UInt8) (i a : Nat) (acc : List ByteArray) (h : cut c.toNat = false) : srun cut s (c :: l) i a acc = srun cut s l (i + 1) a acc := by simp only [srun]; rw [if_neg (by simp [h])]
theorem A.info256 : (Try.prog.info? 66).map (·.size) = some 256 := by kernel_rfl
theorem A.info9 : (Try.prog.info? 9).map (fun i => (i.zero, i.size, i.bytes)) = some (some (.string ⟨#[]⟩), 1, 16) := by kernel_rfl

theorem row_below {base : Nat} {e : TypeId} {n : Nat} {v : Value} {xs : List Value} {W W' : World} (h : W.ownsRow base e 1 v n xs) (hb : Below W.heap.size W W') : W'.ownsRow base e 1 v n xs :=
  h.kept (row := none) ⟨hb.os, hb.tape, hb.output, hb.size, fun k hk _ => hb.block k hk⟩ (Classical.em _)

set_option maxRecDepth 100000 in
set_option maxHeartbeats 1000000 in
theorem split_any (s by_ : ByteArray) (hs : s.size ≤ 1048576) (hby : by_.size ≤ 1048576) (w : World) :
    Calls Try.prog 27 #[.string s, .string by_] w fun e w' => ∃ v n, e = .returned v ∧ n = (srun (among by_.data.toList) s s.data.toList 0 0 []).length ∧ w'.ownsRow (w.heap.size + 1) 9 1 v n ((srun (among by_.data.toList) s s.data.toList 0 0 []).map .string) ∧ Below w.heap.size w w' := by
  obtain ⟨i0, hi, hz0, hz1, hz2⟩ := info_parts A.info9
  generalize hc0 : among by_.data.toList = cut
  generalize hsp : srun cut s s.data.toList 0 0 [] = L
  have HC0 := Lib.hid hc0
  have HL := Lib.hid hsp
  clear hc0 hsp
  go_enter Try.func27, Try.ntmps27
  go_wp2_with fail
  go_loopw [12] (fun i wr => ∃ k : Nat, k ≤ by_.size ∧ i = .int .i64 (k : Int) ∧ wr.heap[w.heap.size]? = some (.cells (rowB (among (by_.data.toList.take k))) 66 (0, 0)) ∧ Below w.heap.size w wr) (fun i _ => by_.size - (intOf i).toNat)
  case atStart => exact ⟨0, by omega, rfl, (heap_alloc_new _ _).trans (congrArg (fun c => some (Obj.cells c 66 (0, 0))) (by kernel_rfl)), (Below.refl _ _).alloc (Nat.le_refl _) _⟩
  case round =>
    obtain ⟨k, hk, rfl, hrow, hb⟩ := hrel
    have hsz := hb.size
    by_cases hlt : k < by_.size
    · have hc := byte_lt by_ k hlt
      have ht := Lib.hid (take_byte by_ k hlt)
      have hcell : wr.cell? ⟨w.heap.size, by_[k].toNat, none⟩ = some (.bool (among (by_.data.toList.take k) by_[k].toNat)) := by
        rw [cell_of_row wr _ _ _ _ _ hrow]; exact rowB_get _ _ (by omega)
      have hf : wr.frozen? ⟨w.heap.size, by_[k].toNat, none⟩ = false := frozen_of_row wr _ _ _ _ hrow
      have HR := Lib.hid hrow
      clear hrow
      go_wp2_with fail
      go_roundw
      case rel =>
        refine ⟨k + 1, by omega, by go_num, ?_, hb.setCell (by simp) _⟩
        rw [heap_setCell_same _ _ _ _ _ _ HR.out, ht.out, ← rowB_among]
      case measure => simp [intOf]; omega
    · rw [List.take_of_length_le (by rw [size_list]; omega)] at hrow
      obtain ⟨w1, rfl⟩ : ∃ x, x = wr := ⟨wr, rfl⟩
      rw [HC0.out] at hrow
      have HC := Lib.hid hrow
      clear hrow
      go_wp2_with fail
      go_loopw [7, 8, 23] (fun v a i wr' => ∃ (k f : Nat) (acc : List ByteArray), k ≤ s.size ∧ f ≤ k ∧ acc.length ≤ k ∧ i = .int .i64 (k : Int) ∧ a = .int .i64 (f : Int) ∧ Hid (srun cut s (s.data.toList.drop k) k f acc = L) ∧ Hid (wr'.ownsRow (w.heap.size + 1) 9 1 v acc.length (acc.map .string)) ∧ Below (w.heap.size + 1) w1 wr') (fun _ _ i _ => s.size - (intOf i).toNat)
      case atStart =>
        have hlt0 := lt_of_block HC.out
        refine ⟨0, 0, [], by omega, by omega, by simp, rfl, rfl, HL.out, ?_, (Below.refl _ _).alloc (by omega) _⟩
        exact ⟨rfl, .inr ⟨w1.heap.size, 0, #[], rfl, by omega, heap_alloc_new _ _, by simp, by unfold maxLen; omega, rfl, rfl⟩⟩
      case round =>
        obtain ⟨k, f, acc, hk, hf, hacc, rfl, rfl, HU, HO, hb2⟩ := hrel
        have hsz2 := hb2.size
        have hlt0 := lt_of_block HC.out
        have hrow' : wr.heap[w.heap.size]? = some (.cells (rowB cut) 66 (0, 0)) := (hb2.block _ (by omega)).trans HC.out
        by_cases hlt : k < s.size
        · have hc := byte_lt s k hlt
          have hd := drop_byte s k hlt
          have hcell : wr.cell? ⟨w.heap.size, s[k].toNat, none⟩ = some (.bool (cut s[k].toNat)) := by
            rw [cell_of_row wr _ _ _ _ _ hrow']; exact rowB_get _ _ (by omega)
          cases hcut : cut s[k].toNat
          · have HU2 : Hid (srun cut s (s.data.toList.drop (k + 1)) (k + 1) f acc = L) := by show _ = _; rw [← HU.out, hd, srun_on _ _ _ _ _ _ _ hcut]
            rw [hcut] at hcell
            clear hd HU hrow'
            go_wp2_with fail
            go_roundw
            case rel => exact ⟨k + 1, f, acc, by omega, by omega, by omega, by go_num, rfl, HU2, HO, hb2⟩
            case measure => simp [intOf]; omega
          · have HU2 : Hid (srun cut s (s.data.toList.drop (k + 1)) (k + 1) (k + 1) (acc ++ [s.extract f k]) = L) := by show _ = _; rw [← HU.out, hd, srun_cut _ _ _ _ _ _ _ hcut]
            rw [hcut] at hcell
            clear hd HU hrow'
            go_wp2_with fail
            refine (piece_any s (by omega) f k hf (by omega) _).mono ?_
            rintro e w3 ⟨rfl, hb3⟩
            have hsz3 := hb3.size
            go_wp2_with (at_builtin; refine wpList_append_own _ rfl _ _ 42 rfl (w.heap.size + 1) 9 i0 (.string ⟨#[]⟩) 1 16 Try.underlying42 hi hz0 hz1 hz2 rfl (by decide) _ _ _ rfl ((row_below HO.out hb3).alloc _) ⟨w3.heap.size, 0, none⟩ 1 1 [.string (s.extract f k)] rfl rfl ?c1 ?c2 ?c3 ?c4 ?c5 ?_)
            case c1 =>
              intro j u hj
              match j, hj with
              | 0, hj => simp at hj; subst hj; simp [Addr.add]
            case c2 => intro u hu; simp at hu; subst hu; rfl
            case c3 => unfold maxLen; omega
            case c4 => omega
            case c5 => simp; omega
            intro v' w4 hown' hgrow _
            go_wp2_with fail
            go_roundw
            case rel =>
              refine ⟨k + 1, k + 1, acc ++ [s.extract f k], by omega, by omega, by simp; omega, by go_num, by go_num, HU2, ?_, ?_⟩
              · show World.ownsRow _ _ _ _ _ _ _
                simpa using hown'
              · exact ((hb2.trans (hb3.mono (by omega))).alloc (by omega) _).grown hgrow (by simp; omega) (fun k hk => (HO.out.lt k hk).1)
            case measure => simp [intOf]; omega
        · have HR : Hid (L = acc ++ [s.extract f s.size]) := by show _ = _; rw [← HU.out, drop_end s k (by omega), srun_end]
          clear HU hrow'
          go_wp2_with fail
          refine (piece_any s (by omega) f s.size (by omega) (by omega) _).mono ?_
          rintro e w3 ⟨rfl, hb3⟩
          have hsz3 := hb3.size
          go_wp2_with (at_builtin; refine wpList_append_own _ rfl _ _ 42 rfl (w.heap.size + 1) 9 i0 (.string ⟨#[]⟩) 1 16 Try.underlying42 hi hz0 hz1 hz2 rfl (by decide) _ _ _ rfl ((row_below HO.out hb3).alloc _) ⟨w3.heap.size, 0, none⟩ 1 1 [.string (s.extract f s.size)] rfl rfl ?c1 ?c2 ?c3 ?c4 ?c5 ?_)
          case c1 =>
            intro j u hj
            match j, hj with
            | 0, hj => simp at hj; subst hj; simp [Addr.add]
          case c2 => intro u hu; simp at hu; subst hu; rfl
          case c3 => unfold maxLen; omega
          case c4 => omega
          case c5 => simp; omega
          intro v' w4 hown' hgrow _
          go_wp2_with fail
          go_ret
          refine ⟨v', acc.length + 1, rfl, by rw [HR.out]; simp, ?_, ?_⟩
          · rw [HR.out]; simpa using hown'
          · have hq : Below (w.heap.size + 1) w1 w4 := ((hb2.trans (hb3.mono (by omega))).alloc (by omega) _).grown hgrow (by simp; omega) (fun k hk => (HO.out.lt k hk).1)
            exact hb.trans (hq.mono (by omega))
end Go.Proofs.Ytkpdjpplcejjiaa
