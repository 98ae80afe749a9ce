/- Contract of lex.Same, where it is so. -/
import Derived.Test.YthjmlgbnpnfkgaaDoorLexA
import Derived.Laws.StructEq
import Derived.BigQuiet
set_option linter.unusedVariables false
namespace Go.Proofs.YthjmlgbnpnfkgaaDoor.Lx
open Go.RowKit Go.ChangeShapes Go.WideShapes Go.ChangeAt Go.Proofs.YthjmlgbnpnfkgaaDoor.Nu

set_option maxRecDepth 100000 in
set_option maxHeartbeats 2000000 in
theorem same_yes (L M : List Tk) (g1 g2 c1 c2 : Nat) (w : World) (hg1 : g1 < w.heap.size) (hg2 : g2 < w.heap.size) (hl : L.length ≤ 1048576) (hlm : M.length = L.length) (hr1 : Row w g1 L) (hr2 : Row w g2 M)
    (hs : ∀ (i : Nat) (h : i < L.length) (h' : i < M.length), M[i].k = L[i].k ∧ M[i].x = L[i].x ∧ M[i].v = L[i].v ∧ M[i].b = L[i].b) :
    Calls Tryd.prog 13 #[.slice (some ⟨g1, 0, none⟩) L.length c1, .slice (some ⟨g2, 0, none⟩) L.length c2] w fun e w' => e = .returned (.bool true) ∧ Below w.heap.size w w' := by
  have HS := Lib.hid hs
  have HR1 := Lib.hid hr1
  have HR2 := Lib.hid hr2
  clear hs hr1 hr2
  go_enter Tryd.func13, Tryd.ntmps13
  go_wp2_with fail
  go_loopw [14] (fun i wr => ∃ k : Nat, k ≤ L.length ∧ i = .int .i64 (k : Int) ∧ Below w.heap.size w wr) (fun i _ => L.length - (intOf i).toNat)
  case atStart => exact ⟨0, by omega, rfl, Below.refl _ _⟩
  case round =>
    obtain ⟨k, hk, rfl, hb⟩ := hrel
    have hsz := hb.size
    by_cases hlt : k < L.length
    · have hlt2 : k < M.length := by omega
      obtain ⟨r0, r1, r2, r3, r4⟩ := row_at (row_keep HR1.out hg1 hb) k hlt
      obtain ⟨q0, q1, q2, q3, q4⟩ := row_at (row_keep HR2.out hg2 hb) k hlt2
      obtain ⟨s0, s2, s3, s4⟩ := HS.out k hlt hlt2
      rw [s0] at q0
      rw [s2] at q2
      rw [s3] at q3
      rw [s4] at q4
      generalize M[k].a = ma at *
      generalize L[k] = t at *
      obtain ⟨tk, ta, tx, tv, tb⟩ := t
      dsimp only at r0 r1 r2 r3 r4 q0 q2 q3 q4
      clear s0 s2 s3 s4
      have hm := heap_alloc_new wr (.cells #[.int .i64 tk, .int .i64 ta, .string ⟨tx.toArray⟩, .int .i64 tv, .bool tb] 33)
      have hb1 : Below wr.heap.size wr (wr.alloc (.cells #[.int .i64 tk, .int .i64 ta, .string ⟨tx.toArray⟩, .int .i64 tv, .bool tb] 33)) := (Below.refl _ _).alloc (Nat.le_refl _) _
      have hg1' : g1 < wr.heap.size := by omega
      have hg2' : g2 < wr.heap.size := by omega
      have u0 := cell_below hb1 hg2' q0
      have u1 := cell_below hb1 hg2' q1
      have u2 := cell_below hb1 hg2' q2
      have u3 := cell_below hb1 hg2' q3
      have u4 := cell_below hb1 hg2' q4
      obtain ⟨d0, d1, d2, d3, d4⟩ := five hm
      have f1 : (wr.alloc (.cells #[.int .i64 tk, .int .i64 ta, .string ⟨tx.toArray⟩, .int .i64 tv, .bool tb] 33)).frozen? ⟨wr.heap.size, 1, none⟩ = false := Lib.frozen_of_heap hm 1
      have HB1 := Lib.hid hb1
      clear hb1 hm
      go_wp2_with fail
      clear d0 d1 d2 d3 d4 u0 u1 u2 u3 u4 f1 HB1
      have hm := heap_alloc_new wr (.cells #[.int .i64 tk, .int .i64 ma, .string ⟨tx.toArray⟩, .int .i64 tv, .bool tb] 33)
      have hb1 : Below wr.heap.size wr (wr.alloc (.cells #[.int .i64 tk, .int .i64 ma, .string ⟨tx.toArray⟩, .int .i64 tv, .bool tb] 33)) := (Below.refl _ _).alloc (Nat.le_refl _) _
      generalize wr.alloc (.cells #[.int .i64 tk, .int .i64 ma, .string ⟨tx.toArray⟩, .int .i64 tv, .bool tb] 33) = W2 at *
      have u0 := cell_below hb1 hg2' q0
      have u1 := cell_below hb1 hg2' q1
      have u2 := cell_below hb1 hg2' q2
      have u3 := cell_below hb1 hg2' q3
      have u4 := cell_below hb1 hg2' q4
      obtain ⟨d0, d1, d2, d3, d4⟩ := five hm
      have HB2 := Lib.hid (hb.trans (hb1.mono hsz))
      clear hb1 hm r0 r1 r2 r3 r4 q0 q1 q2 q3 q4
      generalize hxs : (⟨tx.toArray⟩ : ByteArray) = xs at *
      go_region
      go_wp2_with fail
      exact ⟨⟨k + 1, by omega, by go_num, HB2.out.drew⟩, by simp [intOf]; omega⟩
    · go_wp2_with fail
      go_ret
      exact ⟨rfl, hb⟩
end Go.Proofs.YthjmlgbnpnfkgaaDoor.Lx
