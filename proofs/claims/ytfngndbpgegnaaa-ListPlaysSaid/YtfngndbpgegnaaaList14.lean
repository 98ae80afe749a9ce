/- list.Resize. -/
import Derived.Test.YtfngndbpgegnaaaList13
import Derived.BigRegion
import Derived.Deep.RegionLaw
namespace Go.Proofs.Ytfngndbpgegnaaa.Li
open Go.RowKit Go.ChangeShapes Go.WideShapes Go.ChangeAt Go.Proofs.Ytfngndbpgegnaaa.Va

theorem own_capm {B cap : Nat} {ad : Option Addr} {w : World} {L : List (Int × Int × ByteArray)} (h : Own B ad cap w L) : cap ≤ maxLen := by
  rcases h.2 with ⟨hv, e⟩ | ⟨g, c, cur, hv, _, _, _, hc, _⟩
  · simp only [Value.slice.injEq] at hv; obtain ⟨_, _, rfl⟩ := hv; exact Nat.zero_le _
  · simp only [Value.slice.injEq] at hv; obtain ⟨_, _, rfl⟩ := hv; exact hc
theorem gr_cell {B b cap cap' : Nat} {ad ad' : Option Addr} {W w1 : World} {L : List (Int × Int × ByteArray)} (hG : Gr B ad ad' cap' W w1 L) (h : IsL B b ad cap W L) : w1.heap[b]? = some (.cells #[.slice ad L.length cap] 114 (0, 0)) :=
  (hG.2.1.block b (lt_of_block h.blk)).trans h.blk
theorem now_gr {B b cap cap' : Nat} {ad ad' : Option Addr} {w W w1 : World} {L : List (Int × Int × ByteArray)} (hb : Below w.heap.size w W) (h : IsL B b ad cap W L) (hG : Gr B ad ad' cap' W w1 L) : Now B b ad w (w1.setCell ⟨b, 0, none⟩ (.slice ad' L.length cap')) L := by
  have hc := gr_cell hG h
  obtain ⟨ho, hg, hf⟩ := hG
  exact now_below hb (now_store h.low ho hc ⟨hg.os, hg.tape, hg.output, hg.size, fun k hk _ => hg.block k hk⟩ hf L.length rfl)
theorem now_trans {B b : Nat} {ad ad1 : Option Addr} {w W w' : World} {L' : List (Int × Int × ByteArray)} (hu : Upd b ad w W) (hf : ∀ g, ad1.map (·.block) = some g → ad.map (·.block) = some g ∨ w.heap.size ≤ g) (h : Now B b ad1 W w' L') : Now B b ad w w' L' := by
  obtain ⟨ad2, cap2, hL, h2, hf2⟩ := h
  refine ⟨ad2, cap2, hL, ⟨h2.os.trans hu.os, h2.tape.trans hu.tape, h2.output.trans hu.output, Nat.le_trans hu.size h2.size, fun k hk hb hk2 => ?_⟩, fun g hg => ?_⟩
  · refine (h2.block k (Nat.lt_of_lt_of_le hk hu.size) hb fun e => ?_).trans (hu.block k hk hb hk2)
    rcases hf k e with h | h
    · exact hk2 h
    · omega
  · rcases hf2 g hg with h | h
    · exact hf g h
    · exact Or.inr (Nat.le_trans hu.size h)
def lenAt (b : Nat) (w : World) : Nat := match w.cell? ⟨b, 0, none⟩ with
  | some (.slice _ n _) => n
  | _ => 0
theorem lenAt_now {B b : Nat} {ad : Option Addr} {w w' : World} {L : List (Int × Int × ByteArray)} (h : Now B b ad w w' L) : lenAt b w' = L.length := by
  obtain ⟨ad', cap', hL, _⟩ := h
  simp only [lenAt, (isL_cell hL).1]
theorem set_block {w : World} {b g : Nat} {v : Value} {A : Obj} (hne : g ≠ b) (h : w.heap[g]? = some A) : (w.setCell ⟨b, 0, none⟩ v).heap[g]? = some A := by
  rw [← h]
  simp only [World.setCell, Array.getElem?_modify]
  rw [if_neg (fun e => hne e.symm)]

/-- 'append' whose run is known, as one step of a region that draws its order. -/
theorem step_append_run {P : Program} {ops : Array Oper} {o : Oper} {a : Act} {w : World} {K : Act → World → Prop} {Q : Exit → Act → World → Prop} {E : Prop}
    (hg : o.guard = none) (s x : Operand) (t : TypeId) (hop : o.op = Op.call { callee := Callee.builtin Builtin.append, args := #[s, x], argTypes := #[t, t] }) (v u : Value) (hs : a.eval s = v) (hx : a.eval x = u)
    {v' : Value} {w' : World} (hr : (Builtin.append_ #[t, t] o.type #[v, u]).run P w = .ok v' w') (hK : K (a.put o.dst v') w') :
    if Region.wanted o (yielded ops a.tmps) = true then Oper.wp P o a w K Q else E := by
  have hw : Region.wanted o (yielded ops a.tmps) = true := by simp [Region.wanted, hg]
  rw [if_pos hw]
  unfold Oper.wp
  simp [execOp, hop, resolve, invoke, builtin, hs, hx, hr, Result.andThen]
  exact hK
set_option maxRecDepth 100000 in
theorem resize_long (ad : Option Addr) (k n : Int) (s : ByteArray) (m : Int) (hm : 1048576 < m) (w : World) :
    Calls Try.prog 20 #[.pointer ad, .int .i64 m, .agg #[.int .i64 k, .int .i64 n, .string s]] w fun e w' => e = .returned (.int .i64 2) ∧ Below w.heap.size w w' := by
  have h0 : ¬ m < 0 := by omega
  go_enter Try.func20, Try.ntmps20
  go_wp2_with fail
  go_ret
  exact ⟨rfl, (Below.refl _ _).alloc (Nat.le_refl _) _⟩
/-- One round of Resize: one value more. -/
theorem run_one {B b : Nat} {ad : Option Addr} {w wr : World} {M : List (Int × Int × ByteArray)} (q : Nat) (hq : M.length = q) (hm : q ≤ 1048576) (e : Int × Int × ByteArray) (hB : B ≤ w.heap.size) (hn : Now B b ad w wr M) :
    ∃ ad1 cap1 ad2 cap2 w4, wr.heap[b]? = some (.cells #[.slice ad1 q cap1] 114 (0, 0)) ∧
      (Builtin.append_ #[25, 25] 25 #[.slice ad1 q cap1, .slice (some ⟨wr.heap.size, 0, none⟩) 1 1]).run Try.prog (wr.drew.alloc (.cells (flat [e]).toArray 30)) = .ok (.slice ad2 (q + 1) cap2) w4 ∧
      w4.heap[b]? = some (.cells #[.slice ad1 q cap1] 114 (0, 0)) ∧ Hid (Now B b ad w (w4.setCell ⟨b, 0, none⟩ (.slice ad2 (q + 1) cap2)) (M ++ [e])) ∧
      ∀ g A, g < w.heap.size → ad.map (·.block) ≠ some g → wr.heap[g]? = some A → w4.heap[g]? = some A := by
  subst hq
  obtain ⟨ad1, cap1, hL, hu, hf⟩ := hn
  have hBl : Below wr.heap.size wr (wr.drew.alloc (.cells (flat [e]).toArray 30)) := (Below.refl _ _).drew.alloc (Nat.le_refl _) _
  have hL1 := isL_below hL hBl
  obtain ⟨ad2, cap2, w4, hr, hown, hgr, hfr⟩ := run_push (c := 1) (a := ⟨wr.drew.heap.size, 0, none⟩) (M := [e]) (by simp; omega) (Nat.le_trans hB (Nat.le_trans hu.size hBl.size)) hL1.own (lit_src [e])
  have hb4 : w4.heap[b]? = some (.cells #[.slice ad1 M.length cap1] 114 (0, 0)) := (hgr.block b (lt_of_block hL1.blk) (fun e => own_apart hL1.own hL1.blk e.symm)).trans hL1.blk
  have hl1 : (M ++ [e]).length = M.length + 1 := by simp
  rw [hl1] at hr
  refine ⟨ad1, cap1, ad2, cap2, w4, hL.blk, hr, hb4, now_trans hu hf (now_below hBl (now_store hL1.low hown hb4 hgr hfr (M.length + 1) hl1.symm)), fun g A hg hne hA => ?_⟩
  have hg2 : g < wr.heap.size := Nat.lt_of_lt_of_le hg hu.size
  refine (hgr.block g (Nat.lt_of_lt_of_le hg2 hBl.size) (fun e => ?_)).trans ((hBl.block g hg2).trans hA)
  rcases hf g e.symm with h | h
  · exact hne h
  · omega
set_option maxRecDepth 100000 in
set_option maxHeartbeats 4000000 in
theorem resize_up (B b : Nat) (ad : Option Addr) (cap : Nat) (L : List (Int × Int × ByteArray)) (k n : Int) (s : ByteArray) (m : Nat) (hm : m ≤ 1048576) (hlt : L.length < m) (w : World) (hB : B ≤ w.heap.size) (h : IsL B b ad cap w L) :
    Calls Try.prog 20 #[.pointer (some ⟨b, 0, none⟩), .int .i64 (m : Int), .agg #[.int .i64 k, .int .i64 n, .string s]] w fun e w' => e = .returned (.int .i64 0) ∧ Now B b ad w w' (L ++ List.replicate (m - L.length) (k, n, s)) := by
  have hbw := lt_of_block h.blk
  have hadw : ∀ g, ad.map (·.block) = some g → g < w.heap.size := fun g e => by obtain ⟨_, hc⟩ := own_block h.own g e; exact lt_of_block hc
  have hb1 : Below w.heap.size w (w.alloc (.cells #[.int .i64 k, .int .i64 n, .string s] 30)) := (Below.refl _ _).alloc (Nat.le_refl _) _
  have hx := heap_alloc_new w (.cells #[.int .i64 k, .int .i64 n, .string s] 30)
  have hs0 : (w.alloc (.cells #[.int .i64 k, .int .i64 n, .string s] 30)).heap.size = w.heap.size + 1 := by simp
  obtain ⟨W0, hW0⟩ : ∃ W0, W0 = w.alloc (.cells #[.int .i64 k, .int .i64 n, .string s] 30) := ⟨_, rfl⟩
  rw [← hW0] at hb1 hx hs0
  have hL0 := isL_below h hb1
  have hb2 : Below W0.heap.size W0 W0.drew := (Below.refl _ _).drew
  have hL2 := isL_below hL0 hb2
  obtain ⟨c0, z0⟩ := isL_cell hL0
  obtain ⟨e0, y0⟩ := isL_cell hL2
  obtain ⟨j, hj⟩ : ∃ j, L.length + j = m := ⟨m - L.length, by omega⟩
  have HG := Lib.hid (grow_any B j ad cap L (by omega) (by omega) (own_capm h.own) W0.drew (by have : W0.drew.heap.size = W0.heap.size := rfl; omega) hL2.own)
  have HL := Lib.hid hL2
  have HGX : Hid (∀ ad' cap' w1, Gr B ad ad' cap' W0.drew w1 L → (w1.setCell ⟨b, 0, none⟩ (.slice ad' L.length cap')).heap[w.heap.size]? = some (.cells #[.int .i64 k, .int .i64 n, .string s] 30)) := fun ad' cap' w1 hG =>
    set_block (by omega) ((hG.2.1.block w.heap.size (by have : W0.drew.heap.size = W0.heap.size := rfl; omega)).trans hx)
  have HGN : Hid (∀ ad' cap' w1, Gr B ad ad' cap' W0.drew w1 L → Now B b ad W0 (w1.setCell ⟨b, 0, none⟩ (.slice ad' L.length cap')) L) := fun ad' cap' w1 hG => now_gr hb2 hL2 hG
  have HB1 := Lib.hid hb1
  have hsub : (m : Int) - (L.length : Int) = (j : Int) := by omega
  have hwj : IntKind.i64.wrap (j : Int) = (j : Int) := by rw [IntKind.wrap_i64]; omega
  have h1 : ¬ (m : Int) < 0 := by omega
  have h2 : ¬ (1048576 : Int) < (m : Int) := by omega
  have h3 : ¬ (m : Int) ≤ (L.length : Int) := by omega
  clear h hb1 hb2 hL0 hL2 hx
  subst hW0
  go_enter Try.func20, Try.ntmps20
  go_wp2_with fail
  go_region_with (go_at_call 70; with_reducible refine HG.out.mono ?_; rintro x w1 ⟨ad', cap', rfl, hG⟩; have hc := gr_cell hG HL.out; have g0 := cell_of_one hc; have g1 := free_of_one hc; have HN := Lib.hid (HGN.out _ _ _ hG); have HX1 := Lib.hid (HGX.out _ _ _ hG); clear hG hc)
  all_goals (try go_wp2)
  all_goals
    generalize w1.setCell ⟨b, 0, none⟩ (.slice ad' L.length cap') = w2 at *
    clear g0 g1 c0 z0 e0 y0 HG HGX HGN HL
    go_loopw [] (fun wr => ∃ q, q ≤ j ∧ Hid (Now B b ad (w.alloc (.cells #[.int .i64 k, .int .i64 n, .string s] 30)) wr (L ++ List.replicate q (k, n, s))) ∧ wr.heap[w.heap.size]? = some (.cells #[.int .i64 k, .int .i64 n, .string s] 30)) (fun wr => m - lenAt b wr)
    case atStart => exact ⟨0, Nat.zero_le _, by rw [List.replicate_zero, List.append_nil]; exact HN, HX1.out⟩
    case round =>
      obtain ⟨q, hq, HNr, hX⟩ := hrel
      have hlen : (L ++ List.replicate q (k, n, s)).length = L.length + q := by simp
      obtain ⟨Q, hQ⟩ : ∃ Q, Q = L.length + q := ⟨_, rfl⟩
      rw [← hQ] at hlen
      have HM : Hid (lenAt b wr = Q) := (lenAt_now HNr.out).trans hlen
      by_cases hqj : q < j
      · obtain ⟨ad1, cap1, ad2, cap2, w4, hc, hr, hc4, HN4, hk4⟩ := run_one Q hlen (by omega) (k, n, s) (by omega) HNr.out
        have HX4 := Lib.hid (set_block (v := .slice ad2 (Q + 1) cap2) (b := b) (by omega) (hk4 w.heap.size (.cells #[.int .i64 k, .int .i64 n, .string s] 30) (by omega) (fun e => by have := hadw _ e; omega) hX))
        rw [List.append_assoc, ← List.replicate_succ'] at HN4
        have hlen4 : (L ++ List.replicate (q + 1) (k, n, s)).length = Q + 1 := by simp; omega
        have HM4 : Hid (lenAt b (w4.setCell ⟨b, 0, none⟩ (.slice ad2 (Q + 1) cap2)) = Q + 1) := (lenAt_now HN4.out).trans hlen4
        have hcd : wr.drew.heap[b]? = some (.cells #[.slice ad1 Q cap1] 114 (0, 0)) := hc
        have hXd : wr.drew.heap[w.heap.size]? = some (.cells #[.int .i64 k, .int .i64 n, .string s] 30) := hX
        have hc1 : (wr.alloc (.cells #[.int .i64 k, .int .i64 n, .string s] 30)).drew.heap[b]? = some (.cells #[.slice ad1 Q cap1] 114 (0, 0)) := (heap_alloc_old wr.drew _ (lt_of_block hc)).trans hcd
        have hr' : (Builtin.append_ #[25, 25] 25 #[.slice ad1 Q cap1, .slice (some ⟨wr.heap.size, 0, none⟩) 1 1]).run Try.prog (wr.alloc (.cells #[.int .i64 k, .int .i64 n, .string s] 30)).drew = .ok (.slice ad2 (Q + 1) cap2) w4 := hr
        obtain ⟨b0, b1, b2, _, _, _⟩ := three_facts hXd
        have c0 := cell_of_one hc
        have z0 := free_of_one hc
        have c1 := cell_of_one hcd
        have z1 := free_of_one hcd
        have c2 := cell_of_one hc1
        have z2 := free_of_one hc1
        have c3 := cell_of_one hc4
        have z3 := free_of_one hc4
        have hlt2 : (Q : Int) < (m : Int) := by omega
        have HQ := Lib.hid hQ
        clear hr hc hc4 hcd hXd hc1 hk4 hlen hlen4 HNr hX hQ
        go_wp2_with fail
        go_region_law (refine step_append_run rfl (.tmp 47) (.tmp 49) 25 rfl _ _ rfl rfl hr' ?_)
        all_goals (try go_wp2)
        all_goals go_roundw
        all_goals first | exact ⟨q + 1, by omega, HN4, HX4.out⟩ | (rw [HM.out, HM4.out]; omega)
      · obtain ⟨ad1, cap1, hL, _, _⟩ := HNr.out
        obtain ⟨c0, z0⟩ := isL_cell hL
        rw [hlen] at c0
        have hge : ¬ (Q : Int) < (m : Int) := by omega
        have HE : Hid (Now B b ad w wr (L ++ List.replicate (m - L.length) (k, n, s))) := by
          have hjm : q = m - L.length := by omega
          rw [← hjm]
          exact now_below HB1.out HNr.out
        clear hL HNr hX hlen hQ
        go_wp2_with fail
        go_ret
        exact ⟨rfl, HE.out⟩
end Go.Proofs.Ytfngndbpgegnaaa.Li
