/- dreylaw04.valsOf: the values of acts. -/
import Derived.Test.YtfngndbpgegnaaaList17
namespace Go.Proofs.Ytfngndbpgegnaaa.Li
open Go.RowKit Go.ChangeShapes Go.WideShapes Go.ChangeAt Go.Proofs.Ytfngndbpgegnaaa.Va

/-- Acts (kind, place, value) at a place of memory. -/
def AtOp (w : World) (g off : Nat) (L : List (Int × Int × Int × Int × ByteArray)) : Prop :=
  ∀ (i : Nat) (h : i < L.length), w.cell? ⟨g, off + i * 5, none⟩ = some (.int .i64 (L[i]).1) ∧ w.cell? ⟨g, off + i * 5 + 1, none⟩ = some (.int .i64 (L[i]).2.1) ∧ w.cell? ⟨g, off + i * 5 + 2, none⟩ = some (.int .i64 (L[i]).2.2.1) ∧ w.cell? ⟨g, off + i * 5 + 3, none⟩ = some (.int .i64 (L[i]).2.2.2.1) ∧ w.cell? ⟨g, off + i * 5 + 4, none⟩ = some (.string (L[i]).2.2.2.2)
def InOp (ad : Option Addr) (w : World) (L : List (Int × Int × Int × Int × ByteArray)) : Prop := L = [] ∨ ∃ g off, ad = some ⟨g, off, none⟩ ∧ g < w.heap.size ∧ AtOp w g off L
theorem atOp_below {w w' : World} {B g off : Nat} {L : List (Int × Int × Int × Int × ByteArray)} (h : AtOp w g off L) (hb : Below B w w') (hg : g < B) : AtOp w' g off L := fun i hi =>
  ⟨cell_below hb hg (h i hi).1, cell_below hb hg (h i hi).2.1, cell_below hb hg (h i hi).2.2.1, cell_below hb hg (h i hi).2.2.2.1, cell_below hb hg (h i hi).2.2.2.2⟩
theorem inOp_below {ad : Option Addr} {w w' : World} {L : List (Int × Int × Int × Int × ByteArray)} (h : InOp ad w L) (hb : Below w.heap.size w w') : InOp ad w' L := by
  rcases h with h | ⟨g, off, e, hg, ha⟩
  · exact Or.inl h
  · exact Or.inr ⟨g, off, e, Nat.lt_of_lt_of_le hg hb.size, atOp_below ha hb hg⟩
def opVals (L : List (Int × Int × Int × Int × ByteArray)) : List (Int × Int × ByteArray) := L.map fun o => o.2.2
theorem opVals_snoc (L : List (Int × Int × Int × Int × ByteArray)) (k : Nat) (h : k < L.length) : opVals (L.take (k + 1)) = opVals (L.take k) ++ [(L[k].2.2.1, L[k].2.2.2.1, L[k].2.2.2.2)] := by
  unfold opVals; rw [List.take_succ_eq_append_getElem h, List.map_append]; rfl
theorem opVals_len (L : List (Int × Int × Int × Int × ByteArray)) (k : Nat) (h : k ≤ L.length) : (opVals (L.take k)).length = k := by
  unfold opVals; rw [List.length_map, List.length_take]; omega

theorem valsOf_zero (ad : Option Addr) (cap : Nat) (w : World) :
    Calls Try.prog 13 #[.slice ad 0 cap] w fun e w' => e = .returned (.slice none 0 0) ∧ Below w.heap.size w w' := by
  go_enter Try.func13, Try.ntmps13
  go_wp2_with fail
  refine wp_loop_rounds 1 ?_
  rw [rounds_succ]
  go_wp2_with fail
  go_ret
  exact ⟨rfl, Below.refl _ _⟩
set_option maxRecDepth 100000 in
set_option maxHeartbeats 4000000 in
theorem valsOf_some (g off cap : Nat) (L : List (Int × Int × Int × Int × ByteArray)) (hl : L.length ≤ 1000000) (w : World) (hg : g < w.heap.size) (ha : AtOp w g off L) :
    Calls Try.prog 13 #[.slice (some ⟨g, off, none⟩) L.length cap] w fun e w' => ∃ ad' cap', e = .returned (.slice ad' L.length cap') ∧ Own w.heap.size ad' cap' w' (opVals L) ∧ Below w.heap.size w w' := by
  have HA := Lib.hid ha
  clear ha
  go_enter Try.func13, Try.ntmps13
  go_wp2_with fail
  go_loopw [3, 8] (fun s i wr => ∃ (k : Nat) (ad : Option Addr) (c : Nat), k ≤ L.length ∧ s = .slice ad k c ∧ i = .int .i64 (k : Int) ∧ Hid (Own w.heap.size ad c wr (opVals (L.take k))) ∧ Below w.heap.size w wr) (fun _ i _ => L.length - (intOf i).toNat)
  case atStart => exact ⟨0, none, 0, by omega, rfl, rfl, World.ownsRow_nil w w.heap.size 30 3, Below.refl _ _⟩
  case round =>
    obtain ⟨k, ad, c, hk, rfl, rfl, HO, hb⟩ := hrel
    have hbs := hb.size
    by_cases hlt : k < L.length
    · obtain ⟨c0, c1, c2, c3, c4⟩ := atOp_below HA.out hb hg k hlt
      have HS := Lib.hid (opVals_snoc L k hlt)
      have HN := Lib.hid (opVals_len L k hk)
      generalize L[k] = x at *
      obtain ⟨W1, hW1⟩ : ∃ W1, W1 = wr.alloc (.cells #[.int .i64 x.1, .int .i64 x.2.1, .int .i64 x.2.2.1, .int .i64 x.2.2.2.1, .string x.2.2.2.2] 32) := ⟨_, rfl⟩
      have hb1 : Below wr.heap.size wr W1 := by rw [hW1]; exact (Below.refl _ _).alloc (Nat.le_refl _) _
      have hb2 : Below wr.heap.size wr (W1.alloc (.cells (flat [(x.2.2.1, x.2.2.2.1, x.2.2.2.2)]).toArray 30)) := hb1.alloc hb1.size _
      have hs1 : W1.heap.size = wr.heap.size + 1 := by rw [hW1]; simp
      obtain ⟨ad', cap', w4, hr, hown, hgr, hfr⟩ := run_push (c := 1) (a := ⟨W1.heap.size, 0, none⟩) (M := [(x.2.2.1, x.2.2.2.1, x.2.2.2.2)]) (by rw [HN.out]; simp; omega) (Nat.le_trans hbs hb2.size) (own_below HO.out hb2) (lit_src [(x.2.2.1, x.2.2.2.1, x.2.2.2.2)])
      have hz : Below w.heap.size w w4 := (hb.trans (hb2.mono hbs)).grown hgr (Nat.le_trans hbs hb2.size) (fun k hk => own_low HO.out k hk)
      have hl1 : (opVals (L.take k) ++ [(x.2.2.1, x.2.2.2.1, x.2.2.2.2)]).length = k + 1 := by rw [List.length_append, HN.out]; rfl
      rw [hl1, HN.out, hs1] at hr
      rw [← HS.out] at hown
      have HO4 := Lib.hid hown
      have HZ := Lib.hid hz
      clear hgr hfr hown hz hl1 hb1 hb2 hs1 HO
      subst hW1
      have hlt' : (k : Int) < (L.length : Int) := by omega
      go_wp2_with (at_builtin; refine Lib.wpList_append_run _ rfl _ _ _ _ rfl _ _ rfl rfl _ _ hr ?_)
      go_roundw
      case rel => exact ⟨k + 1, ad', cap', by omega, rfl, by go_num, HO4, HZ.out⟩
      case measure => simp [intOf]; omega
    · obtain rfl : k = L.length := by omega
      have HE : Hid (Own w.heap.size ad c wr (opVals L)) := by have := HO.out; rw [List.take_length] at this; exact this
      go_wp2_with fail
      go_ret
      exact ⟨ad, c, rfl, HE.out, hb⟩
theorem valsOf_any (ad : Option Addr) (cap : Nat) (L : List (Int × Int × Int × Int × ByteArray)) (hl : L.length ≤ 1000000) (w : World) (h : InOp ad w L) :
    Calls Try.prog 13 #[.slice ad L.length cap] w fun e w' => ∃ ad' cap', e = .returned (.slice ad' L.length cap') ∧ Own w.heap.size ad' cap' w' (opVals L) ∧ Below w.heap.size w w' := by
  rcases h with rfl | ⟨g, off, rfl, hg, ha⟩
  · exact (valsOf_zero ad cap w).mono fun e w' ⟨he, hb⟩ => ⟨none, 0, he, by
      have := World.ownsRow_nil w' w.heap.size 30 3
      exact this, hb⟩
  · exact valsOf_some g off cap L hl w hg ha
theorem own_in {B : Nat} {ad : Option Addr} {cap : Nat} {w : World} {L : List (Int × Int × ByteArray)} (h : Own B ad cap w L) : In ad w L := by
  by_cases h0 : L = []
  · exact Or.inl h0
  · obtain ⟨g, rfl, _, hg⟩ := own_some h (List.length_pos_iff.2 h0)
    refine Or.inr ⟨g, 0, rfl, hg, fun i hi => ?_⟩
    rw [Nat.zero_add]
    exact own_at h i hi
end Go.Proofs.Ytfngndbpgegnaaa.Li
