/- Contract of table.each: its function hands on all keys, with their values, in order. -/
import Derived.Test.YtipdjjgpcmbpdaaTab13
import Derived.RangeFuncNested
import Derived.RangeFuncBound
import Derived.RangeFuncCalls
import Derived.RangeFuncLeaves
import Derived.RangeFuncBox
import Derived.Shelf.Abstract
import Derived.Shelf.RegionOpen
import Derived.WalkKit
import Derived.OwnWalkIn
import Derived.TacticsInMore
import Derived.LoopNIn
import Derived.LoopIn
set_option linter.unusedVariables false
namespace Go.Proofs.Ytipdjjgpcmbpdaa.Ta
open Go.RowKit Go.Shelf Go.ChangeShapes Go.WideShapes Go.ChangeAt
attribute [local go_sem] Oper.semAt_some

/-- The keys and values of the first rows. -/
def kv (R : List Rw) (k : Nat) : List (Vl × Vl) := (ents (R.take k)).map fun e => (e.1, e.2.1)
theorem kv_zero (R : List Rw) : kv R 0 = [] := rfl
theorem kv_live {R : List Rw} {k : Nat} {r : Rw} (h : R[k]? = some r) (hl : r.k ≠ nul) : kv R (k + 1) = kv R k ++ [(r.k, r.v)] := by
  have e : R.take (k + 1) = R.take k ++ [r] := by
    obtain ⟨h1, h2⟩ := List.getElem?_eq_some_iff.1 h
    rw [List.take_succ_eq_append_getElem h1, h2]
  unfold kv
  rw [e, ents_append, ents_live hl, List.map_append]; rfl
theorem kv_dead {R : List Rw} {k : Nat} {r : Rw} (h : R[k]? = some r) (hl : r.k = nul) : kv R (k + 1) = kv R k := by
  have e : R.take (k + 1) = R.take k ++ [r] := by
    obtain ⟨h1, h2⟩ := List.getElem?_eq_some_iff.1 h
    rw [List.take_succ_eq_append_getElem h1, h2]
  unfold kv
  rw [e, ents_append, ents_dead hl, List.append_nil]
theorem kv_all (R : List Rw) : kv R R.length = (ents R).map fun e => (e.1, e.2.1) := by unfold kv; rw [List.take_length]
theorem kv_lt {R : List Rw} {k : Nat} {r : Rw} (h : R[k]? = some r) (hl : r.k ≠ nul) : (kv R k).length < (ents R).length := by
  unfold kv
  rw [List.length_map]
  have h1 := split_at h
  have h2 : ents R = ents (R.take k) ++ ents (r :: R.drop (k + 1)) := by rw [← ents_append, ← h1]
  have h3 : ents (r :: R.drop (k + 1)) = ents [r] ++ ents (R.drop (k + 1)) := by rw [← ents_append]; rfl
  rw [h2, h3, ents_live hl]
  simp
theorem abides_below {β : Type} {B : Nat} {J : β → World → Prop} (h : AbidesFrom B J) {s : β} {W W' : World} (hb : Below W.heap.size W W') (hs : J s W) : J s W' :=
  h s W W' none hs ⟨hb.os, hb.tape, hb.output, hb.size, fun k hk _ => hb.block k hk⟩ (fun r e => by cases e)
set_option maxRecDepth 100000 in
set_option maxHeartbeats 4000000 in
theorem each1_in (n : Nat) (hn : 1 ≤ n) (l Bn n₀ b cr B0 Br : Nat) (ad : Option Addr) (R : List Rw) (hRl : R.length ≤ 33554432) (J Jx : List (Vl × Vl) → World → Prop) (hJ : AbidesFrom B0 J) (Px : Vl × Vl → Prop) (hPx : ∀ (i : Nat) (r : Rw), R[i]? = some r → r.k ≠ nul → Px (r.k, r.v))
    (hY : ∀ pre (x : Vl × Vl) W, Px x → J pre W → pre.length < (ents R).length → YieldAt Fence.wide (n - 1) Try.prog l #[ag x.1, ag x.2] W fun e W' =>
      (e = .returned (.bool true) ∧ J (pre ++ [x]) W' ∧ Below n₀ W W') ∨ (e = .returned (.bool false) ∧ Jx (pre ++ [x]) W'))
    (W : World) (hn0 : n₀ ≤ W.heap.size) (hBn : W.cell? ⟨Bn, 0, none⟩ = some (.pointer (some ⟨b, 0, none⟩))) (hb0 : W.cell? ⟨b, 0, none⟩ = some (.slice ad R.length cr)) (hrow : OwnR Br ad cr W R) (hlow : ∀ g, ad.map (·.block) = some g → g < n₀) (h0 : J [] W) :
    CallsIn Fence.wide n Try.prog 78 #[.func (.yield l) #[] #[], .pointer (some ⟨Bn, 0, none⟩)] W fun e W' => (∃ v, e = .returned v) ∧
      ((∃ ys, ys = (ents R).map (fun e => (e.1, e.2.1)) ∧ J ys W') ∨ (∃ pre, (∃ k, k ≤ R.length ∧ pre = kv R k) ∧ Jx pre W')) := by
  refine callsIn_of_wp Try.func78 rfl trivial ?_ rfl
  simp only [Try.ntmps78, List.size_toArray, List.length_cons, List.length_nil, Nat.reduceAdd, Nat.reduceSub, Array.replicate_succ, Array.replicate_zero, List.push_toArray, List.append_toArray, List.nil_append, List.cons_append]
  gi_wp2
  gi_loopw [10, 4] (fun i _ wr => ∃ k : Nat, k ≤ R.length ∧ i = .int .i64 k ∧ J (kv R k) wr ∧ Below n₀ W wr)
    (fun i _ _ => R.length - (intOf i).toNat)
  case atStart => exact ⟨0, Nat.zero_le _, rfl, h0, Below.refl _ _⟩
  case round =>
    obtain ⟨k, hk, rfl, hJs, hnx⟩ := hrel
    by_cases hlt : k < R.length
    · obtain ⟨r, hr⟩ := get_some hlt
      obtain ⟨gr, rfl, _, _⟩ := row_some hrow (by omega)
      have hgr : gr < n₀ := hlow gr rfl
      obtain ⟨a0, a1, a2, a3, a4, a5, a6, a7⟩ := ownR_at hrow hr
      have c0 := (hnx.cell (p := ⟨gr, k * 8, none⟩) hgr).trans a0
      have c1 := (hnx.cell (p := ⟨gr, k * 8 + 1, none⟩) hgr).trans a1
      have c2 := (hnx.cell (p := ⟨gr, k * 8 + 2, none⟩) hgr).trans a2
      have c3 := (hnx.cell (p := ⟨gr, k * 8 + 3, none⟩) hgr).trans a3
      have c4 := (hnx.cell (p := ⟨gr, k * 8 + 4, none⟩) hgr).trans a4
      have c5 := (hnx.cell (p := ⟨gr, k * 8 + 5, none⟩) hgr).trans a5
      have c6 := (hnx.cell (p := ⟨gr, k * 8 + 6, none⟩) hgr).trans a6
      have c7 := (hnx.cell (p := ⟨gr, k * 8 + 7, none⟩) hgr).trans a7
      clear a0 a1 a2 a3 a4 a5 a6 a7
      have hm := heap_alloc_new wr (rowObj r)
      have hb1 := (Below.refl wr.heap.size wr).alloc (Nat.le_refl _) (rowObj r)
      have hJ1 := abides_below hJ hb1 hJs
      have hnx1 : Below n₀ W (wr.alloc (rowObj r)) := hnx.alloc (by have := hnx.size; omega) _
      unfold rowObj at hm hJ1 hnx1
      obtain ⟨d0, d1, d2, d3, d4, d5, d6, d7⟩ := eight_facts hm
      have HN := Lib.hid fun w => none_any r.k w
      have HM := Lib.hid hm
      have HJ1 := Lib.hid hJ1
      have HX1 := Lib.hid hnx1
      clear hm hJ1 hnx1 hJs hb1
      by_cases hd : r.k = nul
      · have HD := Lib.hid (kv_dead hr hd)
        rw [show decide (r.k = nul) = true by simp [hd]] at HN
        clear hd
        gi_wp2_with (refine ⟨trivial, ?_⟩; gi_at_call 61; refine (callsIn_wide.2 (HN.out _)).mono ?_; rintro e w5 ⟨rfl, hb5⟩; have HJ5 := Lib.hid (abides_below hJ hb5 HJ1.out); have HX5 := Lib.hid (HX1.out.trans (hb5.mono (Nat.le_trans hn0 HX1.out.size))); clear hb5)
        refine ⟨fun _ h => (by cases h), ?_⟩
        gi_wp2
        go_roundw
        case rel => exact ⟨k + 1, by omega, by simp, by rw [HD.out]; exact HJ5.out, HX5.out⟩
        case measure => simp [intOf]; omega
      · have HD := Lib.hid (kv_live hr hd)
        have hlen := kv_lt hr hd
        have hpx := hPx k r hr hd
        rw [show decide (r.k = nul) = false by simp [hd]] at HN
        clear hd
        gi_wp2_with (refine ⟨trivial, ?_⟩; gi_at_call 61; refine (callsIn_wide.2 (HN.out _)).mono ?_; rintro e w5 ⟨rfl, hb5⟩; have HJ5 := Lib.hid (abides_below hJ hb5 HJ1.out); have HX5 := Lib.hid (HX1.out.trans (hb5.mono (Nat.le_trans hn0 HX1.out.size))); obtain ⟨fn, tmps, assign, body, hy, hR⟩ := hY (kv R k) (r.k, r.v) w5 hpx HJ5.out hlen; dsimp only [ag] at hy; obtain ⟨d0, d1, d2, d3, d4, d5, d6, d7⟩ := eight_facts ((hb5.block _ (lt_of_block HM.out)).trans HM.out); clear hb5)
        refine hR.mono ?_
        rintro e W3 (⟨rfl, hJ3, hk3⟩ | ⟨rfl, hJx3⟩)
        · gi_wp2
          go_roundw
          case rel => exact ⟨k + 1, by omega, by simp, by rw [HD.out]; exact hJ3, HX5.out.trans hk3⟩
          case measure => simp [intOf]; omega
        · gi_wp2
          refine bodyPost_ret (results_none rfl _ _ _) rfl ?_
          exact ⟨⟨_, rfl⟩, .inr ⟨_, ⟨k + 1, by omega, HD.out.symm⟩, hJx3⟩⟩
    · obtain rfl : k = R.length := by omega
      gi_wp2
      go_end0
      exact ⟨⟨_, rfl⟩, .inl ⟨_, rfl, by rw [← kv_all]; exact hJs⟩⟩
theorem each_in (n : Nat) (p0 : Option Addr) (w : World) :
    CallsIn Fence.wide n Try.prog 60 #[.pointer p0] w fun e w' => e = .returned (.func (.func 78) #[] #[.pointer (some ⟨w.heap.size, 0, none⟩)]) ∧ w' = w.alloc (.cells #[.pointer p0] 25) := by
  refine callsIn_of_wp Try.func60 rfl trivial ?_ rfl
  simp only [Try.ntmps60, List.size_toArray, List.length_cons, List.length_nil, Nat.reduceAdd, Nat.reduceSub, Array.replicate_succ, Array.replicate_zero, List.push_toArray, List.append_toArray, List.nil_append, List.cons_append]
  gi_wp2
  go_ret
  exact ⟨rfl, rfl⟩
/-- What each hands back, over a table. -/
theorem each_stops (n : Nat) (hn : 1 ≤ n) (Bn n₀ B b cr cp m : Nat) (ar ap : Option Addr) (R : List Rw) (P : List Int) (last : Int) (w : World) (hBn : Bn < w.heap.size) (hn₀ : n₀ ≤ w.heap.size)
    (hc : w.cell? ⟨Bn, 0, none⟩ = some (.pointer (some ⟨b, 0, none⟩))) (hT : Tab B b ar cr ap cp w R P m last) (hlow : ∀ g, ar.map (·.block) = some g → g < n₀) :
    SeqStopsK Fence.wide n Try.prog 78 #[.pointer (some ⟨Bn, 0, none⟩)] (fun x : Vl × Vl => #[ag x.1, ag x.2]) (Below n₀) (fun ys => ys = (ents R).map (fun e => (e.1, e.2.1))) (fun pre => ∃ k, k ≤ R.length ∧ pre = kv R k) (ents R).length w := fun l J Jx W hW hJ _ hY h0 => by
  have hT' := tab_below hT hW
  refine each1_in n hn l Bn n₀ b cr W.heap.size B ar R (plen hT.g).2 J Jx hJ (fun _ => True) (fun _ _ _ _ => trivial) (fun pre x W _ => hY pre x W) W (Nat.le_trans hn₀ hW.size) ((hW.cell (p := ⟨Bn, 0, none⟩) hBn).trans hc) (four_cells hT'.blk).1 hT'.r hlow h0
/-- The same, where all that is handed on is known to be so. -/
theorem each_stops_ok (Px : Vl × Vl → Prop) (n : Nat) (hn : 1 ≤ n) (Bn n₀ B b cr cp m : Nat) (ar ap : Option Addr) (R : List Rw) (P : List Int) (last : Int) (w : World) (hPx : ∀ (i : Nat) (r : Rw), R[i]? = some r → r.k ≠ nul → Px (r.k, r.v)) (hBn : Bn < w.heap.size) (hn₀ : n₀ ≤ w.heap.size)
    (hc : w.cell? ⟨Bn, 0, none⟩ = some (.pointer (some ⟨b, 0, none⟩))) (hT : Tab B b ar cr ap cp w R P m last) (hlow : ∀ g, ar.map (·.block) = some g → g < n₀) :
    SeqStopsK Fence.wide n Try.prog 78 #[.pointer (some ⟨Bn, 0, none⟩)] (fun x : { p : Vl × Vl // Px p } => #[ag x.1.1, ag x.1.2]) (Below n₀) (fun ys => ys.map (·.1) = (ents R).map (fun e => (e.1, e.2.1))) (fun pre => True) (ents R).length w := fun l J Jx W hW hJ hJx hY h0 => by
  have hT' := tab_below hT hW
  refine (each1_in n hn l Bn n₀ b cr W.heap.size B ar R (plen hT.g).2 (fun pre W => ∃ q : List { p : Vl × Vl // Px p }, q.map (·.1) = pre ∧ J q W) (fun pre W => ∃ q : List { p : Vl × Vl // Px p }, q.map (·.1) = pre ∧ Jx q W)
    (fun s A C row hs hg hr => by obtain ⟨q, h1, h2⟩ := hs; exact ⟨q, h1, hJ q A C row h2 hg hr⟩) Px hPx (fun pre x W1 hx hj hlen => ?_) W (Nat.le_trans hn₀ hW.size) ((hW.cell (p := ⟨Bn, 0, none⟩) hBn).trans hc) (four_cells hT'.blk).1 hT'.r hlow ⟨[], rfl, h0⟩).mono ?_
  · obtain ⟨q, rfl, h2⟩ := hj
    rw [List.length_map] at hlen
    obtain ⟨fn, tmps, assign, body, hy, hR⟩ := hY q ⟨x, hx⟩ W1 h2 hlen
    refine ⟨fn, tmps, assign, body, hy, hR.mono ?_⟩
    rintro e W' (⟨rfl, hJ', hk⟩ | ⟨rfl, hJ'⟩)
    · exact .inl ⟨rfl, ⟨_, by rw [List.map_append]; rfl, hJ'⟩, hk⟩
    · exact .inr ⟨rfl, ⟨_, by rw [List.map_append]; rfl, hJ'⟩⟩
  · rintro e W' ⟨hv, ⟨ys, rfl, q, h1, h2⟩ | ⟨pre, _, q, h1, h2⟩⟩
    · exact ⟨hv, .inl ⟨q, h1, h2⟩⟩
    · exact ⟨hv, .inr ⟨q, trivial, h2⟩⟩
end Go.Proofs.Ytipdjjgpcmbpdaa.Ta
