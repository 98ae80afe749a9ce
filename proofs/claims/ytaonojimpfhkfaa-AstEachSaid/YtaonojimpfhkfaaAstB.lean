/- The check in memory; defaults; kids. -/
import Derived.Test.YtaonojimpfhkfaaAstA
namespace Go.Proofs.Ytaonojimpfhkfaa.As
open Go.RowKit Go.ChangeShapes Go.WideShapes Go.ChangeAt

/-- A check in memory. -/
structure Ck (B cb kb db : Nat) (A : Option Addr) (cap : Nat) (w : World) (L : List Nd) (K : List Bool) (D : List Int) : Prop where
  c : w.heap[cb]? = some (.cells #[.slice A L.length cap, .slice (some ⟨kb, 0, none⟩) K.length K.length, .slice (some ⟨db, 0, none⟩) D.length D.length] 61 (0, 0))
  k : w.heap[kb]? = some (.cells ((K.map Value.bool).toArray) 4 (0, 0))
  d : w.heap[db]? = some (.cells ((D.map (Value.int .i64)).toArray) 3 (0, 0))
  bc : B ≤ cb
  bk : B ≤ kb
  bd : B ≤ db
  t : Tr w B A L
theorem Ck.below {B cb kb db cap : Nat} {A : Option Addr} {w w' : World} {L : List Nd} {K : List Bool} {D : List Int} (h : Ck B cb kb db A cap w L K D) (hb : Below w.heap.size w w') : Ck B cb kb db A cap w' L K D :=
  ⟨(hb.block _ (lt_of_block h.c)).trans h.c, (hb.block _ (lt_of_block h.k)).trans h.k, (hb.block _ (lt_of_block h.d)).trans h.d, h.bc, h.bk, h.bd, h.t.keep (Nat.le_refl _) fun b hb' => hb.block b (by have := lt_of_block h.c; have := h.bc; omega)⟩
theorem cells3 {w : World} {g : Nat} {x y z : Value} {t : TypeId} (h : w.heap[g]? = some (.cells #[x, y, z] t (0, 0))) : w.cell? ⟨g, 0, none⟩ = some x ∧ w.cell? ⟨g, 1, none⟩ = some y ∧ w.cell? ⟨g, 2, none⟩ = some z := by
  refine ⟨?_, ?_, ?_⟩ <;> rw [cell_of_row _ _ _ _ _ _ h] <;> rfl
theorem Ck.cells {B cb kb db cap : Nat} {A : Option Addr} {w : World} {L : List Nd} {K : List Bool} {D : List Int} (h : Ck B cb kb db A cap w L K D) :
    w.cell? ⟨cb, 0, none⟩ = some (.slice A L.length cap) ∧ w.cell? ⟨cb, 1, none⟩ = some (.slice (some ⟨kb, 0, none⟩) K.length K.length) ∧ w.cell? ⟨cb, 2, none⟩ = some (.slice (some ⟨db, 0, none⟩) D.length D.length) := cells3 h.c
theorem defs_snoc (L : List Nd) (cs : List Int) (k : Nat) (x : Int) (h : cs[k]? = some x) : defs L (cs.take (k + 1)) = defs L (cs.take k) + if headKid L x.toNat = -1 then 1 else 0 := by
  unfold defs
  rw [List.take_add_one, h, Option.toList_some, List.filter_append, List.length_append]
  congr 1
  by_cases hx : headKid L x.toNat = -1 <;> simp [hx]
theorem defs_le (L : List Nd) (cs : List Int) : defs L cs ≤ cs.length := List.length_filter_le _ _
set_option maxRecDepth 100000 in
set_option maxHeartbeats 4000000 in
theorem defaults_any {B B2 cb kb db cap kc : Nat} {A KA : Option Addr} {w : World} {L : List Nd} {K : List Bool} {D : List Int} {cs : List Int} (h : Ck B cb kb db A cap w L K D) (hl : L.length ≤ 1000000) (hr : RowI w B2 KA cs) (hc : cs.length ≤ 1000000)
    (hx : ∀ x ∈ cs, ∃ (i : Nat) (n : Nd) (y : Int) (r : List Int), x = (i : Int) ∧ L[i]? = some n ∧ n.kids = y :: r) :
    Calls Try.prog 55 #[.pointer (some ⟨cb, 0, none⟩), .slice KA cs.length kc] w fun e w' => e = .returned (.int .i64 (defs L cs : Nat)) ∧ w = w' := by
  have c0 := h.cells.1
  have HH := Lib.hid h
  have HX := Lib.hid hx
  have HC := Lib.hid hc
  have HL := Lib.hid hl
  clear h hx hc hl
  go_enter Try.func55, Try.ntmps55
  go_wp2_with fail
  go_loop [5, 10] (fun n i => ∃ k : Nat, k ≤ cs.length ∧ i = .int .i64 (k : Int) ∧ n = .int .i64 (defs L (cs.take k) : Nat)) (fun _ i => cs.length - (intOf i).toNat)
  case atStart => exact ⟨0, Nat.zero_le _, rfl, rfl⟩
  case round =>
    obtain ⟨k, hk, rfl, rfl⟩ := hrel
    by_cases hlt : k < cs.length
    · obtain ⟨x, hx⟩ := get_some hlt
      obtain ⟨i, n, y, r, rfl, hn, hkids⟩ := HX.out x (List.mem_of_getElem? hx)
      obtain ⟨g, o, rfl, _, hcx⟩ := hr.at_ hx
      have HS := Lib.hid (defs_snoc L cs k i hx)
      have hd := Nat.le_trans (defs_le L (cs.take k)) (List.length_take_le _ _)
      obtain ⟨gn, on, rfl, _, hN⟩ := HH.out.t.at_ hn
      have hil := get_lt hn
      have hi1 : (i : Int) < (L.length : Int) := by omega
      have hi0 : (0 : Int) ≤ (i : Int) := by omega
      obtain ⟨gk, ok, hka, _, hck⟩ := hN.r.at_ (j := 0) (x := y) (by rw [hkids]; rfl)
      have c4 := hN.s
      rw [hka, hkids] at c4
      rw [Nat.add_zero] at hck
      have hrl : 0 < (y :: r).length := by simp
      generalize (y :: r).length = rl at *
      have HK : Hid (headKid L ((i : Int)).toNat = y) := by show _ = _; unfold headKid; rw [Int.toNat_natCast, hn]; simp [hkids]
      have hdb : ((defs L (cs.take k) : Nat) : Int) ≤ 1000000 := by have := HC.out; omega
      have hk9 : (k : Int) ≤ 1000000 := by have := HC.out; omega
      clear hx hn hkids hN hka
      by_cases hy : y = -1
      · subst hy
        go_wp2_with fail
        go_round
        case rel => exact ⟨k + 1, by omega, by go_num, by rw [HS.out, HK.out, if_pos rfl]; go_num⟩
        case measure => simp [intOf]; omega
      · have hyb : (y == -1) = false := by simpa using hy
        go_wp2_with fail
        go_round
        case rel => exact ⟨k + 1, by omega, by go_num, by rw [HS.out, HK.out, if_neg hy]; rfl⟩
        case measure => simp [intOf]; omega
    · have hke : k = cs.length := by omega
      subst hke
      rw [List.take_length]
      go_wp2_with fail
      go_ret
      exact ⟨rfl, rfl⟩
end Go.Proofs.Ytaonojimpfhkfaa.As
