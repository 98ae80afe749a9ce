/- Contract of str.Unescape. -/
import Derived.Test.YthjmlgbnpnfkgaaDoorQuote
import Derived.Test.YthjmlgbnpnfkgaaDoorUne1
namespace Go.Proofs.YthjmlgbnpnfkgaaDoor
open Go.RowKit Go.ChangeShapes Go.WideShapes Go.ChangeAt

/-- The text of what stands between quotes, and at which byte it is wrong; -1: nowhere. -/
def une : Nat → List UInt8 → Nat → List UInt8 → List UInt8 × Int
  | 0, _, _, acc => (acc, -1)
  | _ + 1, [], _, acc => (acc, -1)
  | f + 1, c :: l, k, acc => if c.toNat = 92 then (if (escR l).2 = 0 then ([], (k : Int)) else une f (l.drop (escR l).2) (k + (1 + (escR l).2)) (acc ++ [UInt8.ofNat (escR l).1])) else une f l (k + 1) (acc ++ [c])
theorem une_nil (f k : Nat) (acc : List UInt8) : une f [] k acc = (acc, -1) := by cases f <;> rfl
theorem une_plain (f : Nat) (c : UInt8) (l : List UInt8) (k : Nat) (acc : List UInt8) (h : ¬ c.toNat = 92) : une (f + 1) (c :: l) k acc = une f l (k + 1) (acc ++ [c]) := by simp only [une]; rw [if_neg h]
theorem une_bad (f : Nat) (c : UInt8) (l : List UInt8) (k : Nat) (acc : List UInt8) (h : c.toNat = 92) (h0 : (escR l).2 = 0) : une (f + 1) (c :: l) k acc = ([], (k : Int)) := by simp only [une]; rw [if_pos h, if_pos h0]
theorem une_good (f : Nat) (c : UInt8) (l : List UInt8) (k : Nat) (acc : List UInt8) (h : c.toNat = 92) (h0 : ¬ (escR l).2 = 0) : une (f + 1) (c :: l) k acc = une f (l.drop (escR l).2) (k + (1 + (escR l).2)) (acc ++ [UInt8.ofNat (escR l).1]) := by simp only [une]; rw [if_pos h, if_neg h0]
def uneS (s : ByteArray) : List UInt8 × Int := une s.size s.data.toList 0 []
/-- What Unescape answers. -/
def uneV (p : List UInt8 × Int) : Value := .tuple #[.string ⟨p.1.toArray⟩, .agg (if p.2 < 0 then #[.int .i64 0, .int .i64 0] else #[.int .i64 20, .int .i64 p.2])]
theorem drop_size (s : ByteArray) (k : Nat) : (⟨(s.data.toList.drop k).toArray⟩ : ByteArray).size = s.size - k := by rw [size_mk, List.length_drop, size_list]

theorem A.infoF : (Tryd.prog.info? 26).map (·.size) = some 2 := by kernel_rfl
theorem results_two {P : Program} {fn : Func} {p q : Tmp} {ty : TypeId} (h : fn.results = #[.tmp q, .cell p ty]) (tmps : Array Value) (w : World) (g : Nat) (t : TypeId) (cs : Array Value) (fr : Nat × Nat) (d : TypeDesc)
    (hp : tmps.getD p undef = .pointer (some ⟨g, 0, none⟩)) (hg : w.heap[g]? = some (.cells cs t fr))
    (hu : P.underlying ty = some d) (hd : (match d with | .struct _ | .array _ _ => true | _ => false) = true) (hi : (P.info? ty).map (·.size) = some cs.size) :
    (results fn tmps).run P w = .ok (.tuple #[tmps.getD q undef, .agg cs]) w := by
  have hp' : tmps[p]?.getD undef = .pointer (some ⟨g, 0, none⟩) := by simpa using hp
  simp [results, h, hp', asAddr, run_loadVar_row w g t ty cs fr d hg hu hd hi]

theorem fault_facts {w : World} {g : Nat} {x y : Value} {t : TypeId} (h : w.heap[g]? = some (.cells #[x, y] t)) : w.cell? ⟨g, 0, none⟩ = some x ∧ w.cell? ⟨g, 1, none⟩ = some y ∧ w.frozen? ⟨g, 0, none⟩ = false ∧ w.frozen? ⟨g, 1, none⟩ = false := by
  refine ⟨?_, ?_, ?_, ?_⟩
  · rw [cell_of_row _ _ _ _ _ _ h]; rfl
  · rw [cell_of_row _ _ _ _ _ _ h]; rfl
  · simp [World.frozen?, h]
  · simp [World.frozen?, h]

theorem heap_fault {w : World} {g : Nat} {x y : Value} {t : TypeId} (h : w.heap[g]? = some (.cells #[x, y] t)) (u v : Value) : ((w.setCell ⟨g, 0, none⟩ u).setCell ⟨g, 1, none⟩ v).heap[g]? = some (.cells #[u, v] t) := by
  rw [heap_setCell_same _ _ _ _ _ _ (heap_setCell_same _ _ _ _ _ _ h)]; rfl

set_option maxRecDepth 100000 in
set_option maxHeartbeats 2000000 in
theorem unescape_any (s : ByteArray) (hs : s.size ≤ 1048576) (w : World) : Calls Tryd.prog 59 #[.string s] w fun e w' => e = .returned (uneV (uneS s)) ∧ Below w.heap.size w w' := by
  have HF : ∀ o, Hid (Lib.IsBuilder 55 5 (w.heap.size + 1) (w.heap.size + 1) [] ((w.alloc o).alloc (.cells #[.pointer none, .slice none 0 0] 55))) := fun o => by
    have hf := Lib.fresh_isBuilder 55 5 (w.alloc o)
    rw [show (w.alloc o).heap.size = w.heap.size + 1 by simp] at hf
    exact hf
  generalize hsp : uneS s = p
  go_enter Tryd.func59, Tryd.ntmps59
  go_wp2_with fail
  go_loopw [5] (fun i wr => ∃ (k f : Nat) (acc : List UInt8), k ≤ s.size ∧ s.size ≤ f + k ∧ acc.length ≤ k ∧ i = .int .i64 (k : Int) ∧ Hid (Lib.IsBuilder 55 5 (w.heap.size + 1) (w.heap.size + 1) (Lib.byteCells acc) wr) ∧ Hid (une f (s.data.toList.drop k) k acc = p) ∧ Below (w.heap.size + 1) (w.alloc (.cells #[.int .i64 0, .int .i64 0] 26)) wr) (fun i _ => s.size - (intOf i).toNat)
  case atStart => exact ⟨0, s.size, [], by omega, by omega, by simp, rfl, HF _, hsp, (Below.refl _ _).alloc (by simp) _⟩
  case round =>
    obtain ⟨k, f, acc, hk, hf, hacc, rfl, HB, HU, hb⟩ := hrel
    have hsz := hb.size
    by_cases hlt : k < s.size
    · have hc := byte_lt s k hlt
      have hd := drop_byte s k hlt
      obtain ⟨f, rfl⟩ : ∃ g, f = g + 1 := ⟨f - 1, by omega⟩
      by_cases q : s[k].toNat = 92
      · have e0 : ((s[k].toNat : Int) == 92) = true := beq_yes q
        have hx : ∀ w, Calls Tryd.prog 70 #[.string (s.extract (k + 1) s.size)] w fun e w' => e = .returned (.tuple #[.int .u8 (((escR (s.data.toList.drop (k + 1))).1 : Nat) : Int), .int .i64 (((escR (s.data.toList.drop (k + 1))).2 : Nat) : Int)]) ∧ w = w' := fun w => by
          have h := escaped_any (s.extract (k + 1) s.size) (by simp; omega) w
          rw [Lib.extract_to_end] at h
          exact h
        have HX := Lib.hid hx
        clear hx
        have hsm := escR_small (s.data.toList.drop (k + 1))
        rw [List.length_drop, size_list] at hsm
        obtain ⟨hs1, hs2, hs3⟩ := hsm
        by_cases q0 : (escR (s.data.toList.drop (k + 1))).2 = 0
        · have HR : Hid (p = ([], (k : Int))) := by show _ = _; rw [← HU.out, hd, une_bad _ _ _ _ _ q q0]
          generalize escR (s.data.toList.drop (k + 1)) = r at *
          clear hd HU
          have HC : Hid (wr.heap[w.heap.size]? = some (.cells #[.int .i64 0, .int .i64 0] 26)) := by
            show _ = _
            rw [hb.block _ (by omega)]
            exact heap_alloc_new w _
          obtain ⟨hc0, hc1, hz0, hz1⟩ := fault_facts HC.out
          have hbz : Below w.heap.size w wr := ((Below.refl _ _).alloc (Nat.le_refl _) _).trans (hb.mono (by omega))
          go_wp2_with (go_at_call 70; refine (HX.out _).mono ?_; rintro e w' ⟨rfl, rfl⟩)
          (try simp only [Exit.inBlock, Exit.then])
          refine bodyPost_ret (results_two rfl _ _ w.heap.size 26 #[.int .i64 20, .int .i64 (k : Int)] (0, 0) _ rfl (heap_fault HC.out _ _) Tryd.underlying26 rfl A.infoF) ?_ ?_
          · rfl
          · exact ⟨by rw [HR.out, uneV, if_neg (by simp)]; rfl, (hbz.setCell (p := ⟨w.heap.size, 0, none⟩) (Nat.le_refl _) _).setCell (p := ⟨w.heap.size, 1, none⟩) (Nat.le_refl _) _⟩
        · have HU2 : Hid (une f (s.data.toList.drop (k + 1 + (escR (s.data.toList.drop (k + 1))).2)) (k + (1 + (escR (s.data.toList.drop (k + 1))).2)) (acc ++ [UInt8.ofNat (escR (s.data.toList.drop (k + 1))).1]) = p) := by show _ = _; rw [← HU.out, hd, une_good _ _ _ _ _ q q0, List.drop_drop]
          generalize escR (s.data.toList.drop (k + 1)) = r at *
          clear hd HU
          go_wp2_with (go_at_call 70; refine (HX.out _).mono ?_; rintro e w' ⟨rfl, rfl⟩)
          refine (putByte (w.heap.size + 1) (w.heap.size + 1) _ _ _ HB.out (by rw [Lib.byteCells_length]; omega) (by simp at hsz; omega)).mono ?_
          rintro e w2 ⟨rfl, hi2, hb2⟩
          have HI2 := Lib.hid hi2
          clear hi2
          go_wp2_with fail
          go_roundw
          case rel =>
            refine ⟨k + (1 + r.2), f, acc ++ [UInt8.ofNat r.1], by omega, by omega, by simp; omega, by go_num, ?_, ?_, hb.trans hb2⟩
            · rw [Lib.byteCells_append]
              have e : Lib.byteCells [UInt8.ofNat r.1] = [.int .u8 (r.1 : Int)] := by simp only [Lib.byteCells, List.map]; rw [ofN _ hs1]
              rw [e]
              exact HI2
            · rw [show k + 1 + r.2 = k + (1 + r.2) by omega] at HU2
              exact HU2
          case measure => simp [intOf]; omega
      · have e0 : ((s[k].toNat : Int) == 92) = false := beq_no q
        have HU2 : Hid (une f (s.data.toList.drop (k + 1)) (k + 1) (acc ++ [s[k]]) = p) := by show _ = _; rw [← HU.out, hd, une_plain _ _ _ _ _ q]
        clear hd HU
        go_wp2_with fail
        refine (putByte (w.heap.size + 1) (w.heap.size + 1) _ _ _ HB.out (by rw [Lib.byteCells_length]; omega) (by simp at hsz; omega)).mono ?_
        rintro e w2 ⟨rfl, hi2, hb2⟩
        have HI2 := Lib.hid hi2
        clear hi2
        go_wp2_with fail
        go_roundw
        case rel => exact ⟨k + 1, f, acc ++ [s[k]], by omega, by omega, by simp; omega, by go_num, by rw [Lib.byteCells_append]; exact HI2, HU2, hb.trans hb2⟩
        case measure => simp [intOf]; omega
    · have hd := drop_end s k (by omega)
      have HR : Hid (p = (acc, -1)) := by show _ = _; rw [← HU.out, hd, une_nil]
      clear hd HU
      go_wp2_with fail
      refine (Tryd.Builder_String_any (w.heap.size + 1) (w.heap.size + 1) _ _ HB.out (by simp at hsz; omega)).mono ?_
      rintro e w3 ⟨rfl, hb3⟩
      have HC : Hid (w3.heap[w.heap.size]? = some (.cells #[.int .i64 0, .int .i64 0] 26)) := by
        show _ = _
        rw [(hb.trans hb3).block _ (by omega)]
        exact heap_alloc_new w _
      obtain ⟨hc0, hc1, hz0, hz1⟩ := fault_facts HC.out
      have hbz : Below w.heap.size w w3 := ((Below.refl _ _).alloc (Nat.le_refl _) _).trans ((hb.trans hb3).mono (by omega))
      go_wp2_with fail
      (try simp only [Exit.inBlock, Exit.then])
      refine bodyPost_ret (results_two rfl _ _ w.heap.size 26 #[.int .i64 0, .int .i64 0] (0, 0) _ rfl (heap_fault HC.out _ _) Tryd.underlying26 rfl A.infoF) ?_ ?_
      · rfl
      · exact ⟨by rw [HR.out]; rfl, (hbz.setCell (p := ⟨w.heap.size, 0, none⟩) (Nat.le_refl _) _).setCell (p := ⟨w.heap.size, 1, none⟩) (Nat.le_refl _) _⟩
end Go.Proofs.YthjmlgbnpnfkgaaDoor
