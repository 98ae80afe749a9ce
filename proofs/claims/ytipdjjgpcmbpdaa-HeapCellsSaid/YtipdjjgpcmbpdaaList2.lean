/- Contracts of list.All, Clone, Push, Slice; what stays when a list is changed. -/
import Derived.Test.YtipdjjgpcmbpdaaList1
import Derived.Lib.AppendZerosOnto
namespace Go.Proofs.Ytipdjjgpcmbpdaa.Li
open Go.RowKit Go.ChangeShapes Go.WideShapes Go.ChangeAt Go.Proofs.Ytipdjjgpcmbpdaa.Va

theorem own_src {B : Nat} {ad : Option Addr} {cap : Nat} {w : World} {L : List (Int × Int × ByteArray)} (h : Own B ad cap w L) : Src ad w L := by
  by_cases h0 : L = []
  · exact Or.inl h0
  · obtain ⟨g, rfl, _, _⟩ := own_some h (List.length_pos_iff.2 h0)
    exact Or.inr ⟨_, rfl, World.ownsRow.cells h rfl⟩
theorem src_below {B g : Nat} {w w' : World} {M : List (Int × Int × ByteArray)} (h : Src (some ⟨g, 0, none⟩) w M) (hb : Below B w w') (hg : g < B) : Src (some ⟨g, 0, none⟩) w' M := by
  rcases h with rfl | ⟨a, e, h⟩
  · exact Or.inl rfl
  · cases e
    refine Or.inr ⟨_, rfl, fun j u hj => ?_⟩
    have := h j u hj
    rw [Go.WideShapes.add_plain] at this ⊢
    exact cell_below hb hg this

/-- Two blocks may have turned: a list's own one, and that in which its values lie. -/
structure Upd (b : Nat) (ad : Option Addr) (w w' : World) : Prop where
  os : w'.os = w.os
  tape : w'.tape = w.tape
  output : w'.output = w.output
  size : w.heap.size ≤ w'.heap.size
  block : ∀ k, k < w.heap.size → k ≠ b → ad.map (·.block) ≠ some k → w'.heap[k]? = w.heap[k]?
theorem upd_below {B b : Nat} {ad : Option Addr} {w0 w w' : World} (h : Below B w0 w) (u : Upd b ad w w') (hb : B ≤ b) (hg : ∀ g, ad.map (·.block) = some g → B ≤ g) (hs : w0.heap.size ≤ w.heap.size) (h0 : B ≤ w0.heap.size) : Below B w0 w' :=
  ⟨u.os.trans h.os, u.tape.trans h.tape, u.output.trans h.output, Nat.le_trans hs u.size, fun k hk => (u.block k (by omega) (by omega) (fun e => by have := hg k e; omega)).trans (h.block k hk)⟩
theorem own_low {B : Nat} {ad : Option Addr} {cap : Nat} {w : World} {L : List (Int × Int × ByteArray)} (h : Own B ad cap w L) : ∀ g, ad.map (·.block) = some g → B ≤ g := by
  intro g e
  rcases h.2 with ⟨hv, _⟩ | ⟨g', c, cur, hv, hb, _⟩
  · simp only [Value.slice.injEq] at hv; rw [hv.1] at e; cases e
  · simp only [Value.slice.injEq] at hv; rw [hv.1] at e; simp at e; omega
theorem own_block {B : Nat} {ad : Option Addr} {cap : Nat} {w : World} {L : List (Int × Int × ByteArray)} (h : Own B ad cap w L) : ∀ g, ad.map (·.block) = some g → ∃ cur, w.heap[g]? = some (.cells cur 30 (0, 0)) := by
  intro g e
  rcases h.2 with ⟨hv, _⟩ | ⟨g', c, cur, hv, hb, hg, _⟩
  · simp only [Value.slice.injEq] at hv; rw [hv.1] at e; cases e
  · simp only [Value.slice.injEq] at hv; rw [hv.1] at e; simp at e; subst e; exact ⟨cur, hg⟩
theorem own_apart {B b : Nat} {ad : Option Addr} {cap : Nat} {w : World} {L : List (Int × Int × ByteArray)} {v : Value} (h : Own B ad cap w L) (hb : w.heap[b]? = some (.cells #[v] 120 (0, 0))) : ad.map (·.block) ≠ some b := by
  intro e
  obtain ⟨cur, hc⟩ := own_block h b e
  rw [hb] at hc
  simp at hc
theorem own_move {B : Nat} {ad : Option Addr} {cap : Nat} {w w' : World} {L : List (Int × Int × ByteArray)} (h : Own B ad cap w L) (hk : ∀ g, ad.map (·.block) = some g → w'.heap[g]? = w.heap[g]?) : Own B ad cap w' L := by
  refine ⟨h.1, ?_⟩
  rcases h.2 with h1 | ⟨g, c, cur, hv, hb, hg, rest⟩
  · exact Or.inl h1
  · refine Or.inr ⟨g, c, cur, hv, hb, ?_, rest⟩
    simp only [Value.slice.injEq] at hv
    rw [hk g (by rw [hv.1]; rfl)]; exact hg
/-- Another list stays. -/
theorem isL_upd {B B' b b' : Nat} {ad ad' : Option Addr} {cap cap' : Nat} {w w' : World} {L L' : List (Int × Int × ByteArray)} (h : IsL B b ad cap w L) (h' : IsL B' b' ad' cap' w L') (u : Upd b' ad' w w') (hne : b ≠ b') (hg : ∀ g, ad.map (·.block) = some g → ad'.map (·.block) ≠ some g) : IsL B b ad cap w' L := by
  refine ⟨(u.block b (lt_of_block h.blk) hne (own_apart h'.own h.blk)).trans h.blk, h.low, own_move h.own fun g e => ?_⟩
  obtain ⟨cur, hc⟩ := own_block h.own g e
  refine u.block g (lt_of_block hc) ?_ (hg g e)
  rintro rfl
  exact own_apart h.own h'.blk e

set_option maxRecDepth 100000 in
theorem push_no (B b : Nat) (ad ad2 : Option Addr) (cap n cap2 : Nat) (L : List (Int × Int × ByteArray)) (hl : L.length ≤ 2000000) (hn : n ≤ 2000000) (hm : 1048576 < L.length + n) (w : World) (h : IsL B b ad cap w L) :
    Calls Try.prog 34 #[.pointer (some ⟨b, 0, none⟩), .slice ad2 n cap2] w fun e w' => e = .returned (.int .i64 2) ∧ w = w' := by
  obtain ⟨c0, z0⟩ := isL_cell h
  clear h
  have hm' : (1048576 : Int) < (L.length : Int) + (n : Int) := by omega
  go_enter Try.func34, Try.ntmps34
  go_wp2_with fail
  go_ret
  exact ⟨rfl, rfl⟩
theorem own_blockv (ad : Option Addr) (n cap : Nat) : (Value.slice ad n cap).ownBlock = ad.map (·.block) := by cases ad <;> rfl
/-- 'append(l, vals...)': the values stand behind; in the old block, or in a new one. -/
theorem run_push {B cap c : Nat} {ad : Option Addr} {a : Addr} {w : World} {L M : List (Int × Int × ByteArray)} (hm : L.length + M.length ≤ 4000000) (hB : B ≤ w.heap.size) (h : Own B ad cap w L) (hs : ∀ j u, (flat M)[j]? = some u → w.cell? (a.add j) = some u) :
    ∃ ad' cap' w', (Builtin.append_ #[74, 74] 74 #[.slice ad L.length cap, .slice (some a) M.length c]).run Try.prog w = .ok (.slice ad' (L ++ M).length cap') w' ∧ Own B ad' cap' w' (L ++ M) ∧ w.grownBy w' (ad.map (·.block)) ∧
      ∀ g, ad'.map (·.block) = some g → ad.map (·.block) = some g ∨ w.heap.size ≤ g := by
  obtain ⟨i0, hi, hz0, hz1, hz2⟩ := info_parts A.infoE
  obtain ⟨v', w', hr, hown, hgr, _⟩ := run_append_own (P := Try.prog) (w := w) B 74 74 30 i0 (.agg #[.int .i64 0, .int .i64 0, .string ⟨#[]⟩]) 3 32 Try.underlying74 hi hz0 hz1 hz2 rfl (by decide) _ L.length (flat L) h a M.length c (flat M) (flat_len M) hs (flat_cells M) (by unfold maxLen; omega) (by omega) hB
  obtain ⟨ad', cap', rfl⟩ := own_shape hown
  rw [own_blockv] at hgr
  refine ⟨ad', cap', w', by rw [hr, List.length_append], ?_, hgr, ?_⟩
  · show World.ownsRow _ _ _ _ _ _ _
    rw [List.length_append, flat_append]; exact hown
  · intro g' hg'
    rcases h.2 with ⟨hv, hn⟩ | ⟨g, cap1, cur, hv, hbg, hg, hnc, hcm, hcs, htake⟩
    · simp only [Value.slice.injEq] at hv
      obtain ⟨rfl, _, rfl⟩ := hv
      by_cases h0 : M.length = 0
      · have hn0 : L.length + M.length = 0 := by omega
        rcases hown.2 with ⟨hv2, _⟩ | ⟨g2, c2, cur2, hv2, _, hg2, hle, _, hsz, _⟩
        · simp only [Value.slice.injEq] at hv2
          rw [hv2.1] at hg'; cases hg'
        · exfalso
          have e := hr
          rw [hn, h0] at e
          simp [Builtin.append_, run_underlying Try.underlying74, sizeOf, typeInfo, hi, Builtin.lenOf, Builtin.firstCells, loadCells, loadCellsFrom] at e
          simp only [Value.slice.injEq] at hv2
          rw [hv2.1] at e
          simp at e
      · right
        have e := hr
        rw [hn, run_append_nil (P := Try.prog) w 74 74 30 i0 _ Try.underlying74 hi hz0 a M.length c (flat M) (by rw [flat_len, hz1]) hs (by omega) (by omega) (by rw [hz2]; omega)] at e
        simp only [Result.ok.injEq, Value.slice.injEq] at e
        rw [← e.1.1] at hg'
        simp at hg'; omega
    · simp only [Value.slice.injEq] at hv
      obtain ⟨rfl, _, rfl⟩ := hv
      by_cases hroom : L.length + M.length ≤ cap
      · left
        have e := hr
        rw [run_append_room (P := Try.prog) w 74 74 30 i0 Try.underlying74 hi g L.length cap cur hg a M.length c (flat M) (by rw [flat_len, hz1]) hs (flat_cells M) hroom (by rw [hz1, flat_len, hcs]; omega)] at e
        simp only [Result.ok.injEq, Value.slice.injEq] at e
        rw [← e.1.1] at hg'
        exact hg'
      · right
        have e := hr
        rw [run_append_grow (P := Try.prog) w 74 74 30 i0 _ Try.underlying74 hi hz0 ⟨g, 0, none⟩ L.length cap (flat L) (by rw [flat_len, hz1]) (World.ownsRow.cells h (g := g) rfl) a M.length c (flat M) (by rw [flat_len, hz1]) hs (by omega) (by omega) (growslice_fits (by omega) (by rw [hz2]; omega))] at e
        simp only [Result.ok.injEq, Value.slice.injEq] at e
        rw [← e.1.1] at hg'
        simp at hg'; omega

/-- A list is now these values: in its old row, or in a new one; nothing else has turned. -/
def Now (B b : Nat) (ad : Option Addr) (w w' : World) (L : List (Int × Int × ByteArray)) : Prop :=
  ∃ ad' cap', IsL B b ad' cap' w' L ∧ Upd b ad w w' ∧ ∀ g, ad'.map (·.block) = some g → ad.map (·.block) = some g ∨ w.heap.size ≤ g
theorem upd_grown {b : Nat} {ad : Option Addr} {w w4 : World} (hgr : w.grownBy w4 (ad.map (·.block))) (v : Value) : Upd b ad w (w4.setCell ⟨b, 0, none⟩ v) :=
  ⟨hgr.os, hgr.tape, hgr.output, by simpa [World.setCell] using hgr.size, fun k hk hb hg => by
    have : (w4.setCell ⟨b, 0, none⟩ v).heap[k]? = w4.heap[k]? := by
      simp only [World.setCell, Array.getElem?_modify]
      rw [if_neg (fun e => hb e.symm)]
    rw [this]
    exact hgr.block k hk (fun e => hg e.symm)⟩
theorem now_store {B b : Nat} {ad ad' : Option Addr} {cap' : Nat} {w w4 : World} {L : List (Int × Int × ByteArray)} {old : Value} (hlow : B ≤ b) (hown : Own B ad' cap' w4 L) (hb4 : w4.heap[b]? = some (.cells #[old] 120 (0, 0)))
    (hgr : w.grownBy w4 (ad.map (·.block))) (hfr : ∀ g, ad'.map (·.block) = some g → ad.map (·.block) = some g ∨ w.heap.size ≤ g) (n : Nat) (hn : n = L.length) : Now B b ad w (w4.setCell ⟨b, 0, none⟩ (.slice ad' n cap')) L := by
  subst hn
  refine ⟨ad', cap', ⟨one_setCell hb4, hlow, own_move hown fun g e => ?_⟩, upd_grown hgr _, hfr⟩
  have hne : g ≠ b := by rintro rfl; exact own_apart hown hb4 e
  simp only [World.setCell, Array.getElem?_modify]
  rw [if_neg (fun e => hne e.symm)]
set_option maxRecDepth 100000 in
theorem push_any (B b : Nat) (ad : Option Addr) (a : Addr) (cap cap2 : Nat) (L M : List (Int × Int × ByteArray)) (hm : L.length + M.length ≤ 1048576) (w : World) (hB : B ≤ w.heap.size) (h : IsL B b ad cap w L) (hs : ∀ j u, (flat M)[j]? = some u → w.cell? (a.add j) = some u) :
    Calls Try.prog 34 #[.pointer (some ⟨b, 0, none⟩), .slice (some a) M.length cap2] w fun e w' => e = .returned (.int .i64 0) ∧ Now B b ad w w' (L ++ M) := by
  obtain ⟨c0, z0⟩ := isL_cell h
  obtain ⟨ad', cap', w4, hr, hown, hgr, hfr⟩ := run_push (c := cap2) (by omega) hB h.own hs
  have hb4 : w4.heap[b]? = some (.cells #[.slice ad L.length cap] 120 (0, 0)) := (hgr.block b (lt_of_block h.blk) (fun e => own_apart h.own h.blk e.symm)).trans h.blk
  have d0 := cell_of_one hb4
  have y0 := free_of_one hb4
  have HN := Lib.hid (now_store h.low hown hb4 hgr hfr (L.length + M.length) (by rw [List.length_append]))
  clear h hs hb4 hgr hown hfr
  have hm' : ¬ (1048576 : Int) < (L.length : Int) + (M.length : Int) := by omega
  go_enter Try.func34, Try.ntmps34
  go_wp2_with (at_builtin; refine Lib.wpList_append_run _ rfl _ _ _ _ rfl _ _ rfl rfl _ _ hr ?_)
  go_ret
  exact ⟨rfl, HN.out⟩
theorem slice_src {B cap f n : Nat} {ad : Option Addr} {w : World} {L : List (Int × Int × ByteArray)} (h : Own B ad cap w L) (hf : f + n ≤ L.length) : Src (ad.map fun x => x.add (f * 3)) w ((L.drop f).take n) := by
  by_cases h0 : L = []
  · subst h0; left; simp
  · obtain ⟨g, rfl, _, _⟩ := own_some h (List.length_pos_iff.2 h0)
    refine Or.inr ⟨_, rfl, fun j u hj => ?_⟩
    have hd : flat L = flat (L.take f) ++ (flat ((L.drop f).take n) ++ flat ((L.drop f).drop n)) := by
      rw [← flat_append, ← flat_append, List.take_append_drop, List.take_append_drop]
    have hlt : j < (flat ((L.drop f).take n)).length := (List.getElem?_eq_some_iff.1 hj).1
    have hft : (flat (L.take f)).length = f * 3 := by rw [flat_len, List.length_take]; omega
    have h1 : (flat L)[f * 3 + j]? = some u := by
      rw [hd, List.getElem?_append_right (by omega), hft, show f * 3 + j - f * 3 = j by omega, List.getElem?_append_left hlt]; exact hj
    have h2 := World.ownsRow.cells h (g := g) rfl _ _ h1
    rw [Go.WideShapes.add_plain] at h2
    show w.cell? (((⟨g, 0, none⟩ : Addr).add (f * 3)).add j) = some u
    rw [Go.WideShapes.add_plain, Go.WideShapes.add_plain, show 0 + f * 3 + j = 0 + (f * 3 + j) by omega]
    exact h2
end Go.Proofs.Ytipdjjgpcmbpdaa.Li
