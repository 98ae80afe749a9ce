/- Contract of value.Cells: a row of values. -/
import Derived.Test.YtipdjjgpcmbpdaaValBox
import Derived.Laws.Tables
namespace Go.Proofs.Ytipdjjgpcmbpdaa.Va
open Go.RowKit Go.ChangeShapes Go.WideShapes Go.ChangeAt

/-- A row of values in memory. -/
def Vals (w : World) (g off len : Nat) (K N : Nat → Int) (S : Nat → ByteArray) : Prop :=
  ∀ i, i < len → w.cell? ⟨g, off + i * 3, none⟩ = some (.int .i64 (K i)) ∧ w.cell? ⟨g, off + i * 3 + 1, none⟩ = some (.int .i64 (N i)) ∧ w.cell? ⟨g, off + i * 3 + 2, none⟩ = some (.string (S i))
theorem Vals.below {w w' : World} {B g off len : Nat} {K N : Nat → Int} {S : Nat → ByteArray} (h : Vals w g off len K N S) (hb : Below B w w') (hg : g < B) : Vals w' g off len K N S := fun i hi =>
  ⟨cell_below hb hg (h i hi).1, cell_below hb hg (h i hi).2.1, cell_below hb hg (h i hi).2.2⟩
def refs (K N : Nat → Int) : Nat → List Int
  | 0 => []
  | n + 1 => refs K N n ++ (if K n = 4 then [N n] else [])
theorem refs_len (K N : Nat → Int) : ∀ n, (refs K N n).length ≤ n
  | 0 => by simp [refs]
  | n + 1 => by
    have := refs_len K N n
    simp only [refs, List.length_append]
    split <;> simp <;> omega
theorem A.infoI : (Try.prog.info? 3).map (fun i => (i.zero, i.size, i.bytes)) = some (some (.int .i64 0), 1, 8) := by kernel_rfl
theorem row_below {base : Nat} {e : TypeId} {n : Nat} {v : Value} {xs : List Value} {W W' : World} (h : W.ownsRow base e 1 v n xs) (hb : Below W.heap.size W W') : W'.ownsRow base e 1 v n xs :=
  h.kept (row := none) ⟨hb.os, hb.tape, hb.output, hb.size, fun k hk _ => hb.block k hk⟩ (Classical.em _)

set_option maxRecDepth 100000 in
set_option maxHeartbeats 1000000 in
theorem cells_any (g off len cap : Nat) (K N : Nat → Int) (S : Nat → ByteArray) (w : World) (hg : g < w.heap.size) (hl : len ≤ 1048576) (hv : Vals w g off len K N S) :
    Calls Try.prog 47 #[.slice (some ⟨g, off, none⟩) len cap] w fun e w' => ∃ v n, e = .returned v ∧ n = (refs K N len).length ∧ w'.ownsRow w.heap.size 3 1 v n ((refs K N len).map (.int .i64 ·)) ∧ Below w.heap.size w w' := by
  have HV := Lib.hid hv
  clear hv
  obtain ⟨i0, hi, hz0, hz1, hz2⟩ := info_parts A.infoI
  go_enter Try.func47, Try.ntmps47
  go_wp2_with fail
  go_loopw [3, 8] (fun v i wr => ∃ k : Nat, k ≤ len ∧ i = .int .i64 (k : Int) ∧ Hid (wr.ownsRow w.heap.size 3 1 v (refs K N k).length ((refs K N k).map (.int .i64 ·))) ∧ Below w.heap.size w wr) (fun _ i _ => len - (intOf i).toNat)
  case atStart => exact ⟨0, by omega, rfl, ⟨rfl, .inl ⟨rfl, rfl⟩⟩, Below.refl _ _⟩
  case round =>
    obtain ⟨k, hk, rfl, HO, hb⟩ := hrel
    have hrl := refs_len K N k
    by_cases hlt : k < len
    · obtain ⟨c0, c1, c2⟩ := (HV.out.below hb hg) k hlt
      have hbs := hb.size
      by_cases h4 : K k = 4
      · have HR : Hid (refs K N (k + 1) = refs K N k ++ [N k]) := by show _ = _; rw [refs, if_pos h4]
        rw [h4] at c0
        clear h4
        go_wp2_with (at_builtin; refine wpList_append_own _ rfl _ _ 46 rfl w.heap.size 3 i0 (.int .i64 0) 1 8 Try.underlying46 hi hz0 hz1 hz2 rfl (by decide) _ _ _ rfl ((HO.out.alloc _).alloc _) ⟨wr.heap.size + 1, 0, none⟩ 1 1 [.int .i64 (N k)] rfl rfl ?c1 ?c2 ?c3 ?c4 ?c5 ?_)
        case c1 =>
          intro j u hj
          match j, hj with
          | 0, hj => simp at hj; subst hj; simp [Addr.add]
        case c2 => intro u hu; simp at hu; subst hu; rfl
        case c3 => unfold maxLen; omega
        case c4 => omega
        case c5 => simp; omega
        intro v' w4 hown' hgrow _
        go_wp2_with fail
        go_roundw
        case rel =>
          refine ⟨k + 1, by omega, by go_num, ?_, ?_⟩
          · show World.ownsRow _ _ _ _ _ _ _
            rw [HR.out]
            simpa using hown'
          · exact ((hb.alloc (by omega) _).alloc (by simp; omega) _).grown hgrow (by simp; omega) (fun k hk => (HO.out.lt k hk).1)
        case measure => simp [intOf]; omega
      · have HR : Hid (refs K N (k + 1) = refs K N k) := by show _ = _; rw [refs, if_neg h4, List.append_nil]
        have e4 : (K k == 4) = false := beq_no' h4
        clear h4
        go_wp2_with fail
        go_roundw
        case rel => exact ⟨k + 1, by omega, by go_num, by rw [HR.out]; exact HO.out.alloc _, hb.alloc (by omega) _⟩
        case measure => simp [intOf]; omega
    · rw [show k = len by omega] at HO
      go_wp2_with fail
      go_ret
      exact ⟨_, _, rfl, rfl, HO.out, hb⟩
end Go.Proofs.Ytipdjjgpcmbpdaa.Va
