/- Contracts of num.digit, bare, write, In, Text. -/
import Derived.Test.YthmeehmobcaadaaRows
import Derived.Test.YthmeehmobcaadaaNumPlain
import Derived.LoopTactic
import Derived.RegionTactic
import Derived.Outline
import Derived.Handy
import Derived.Laws.Rows
import Derived.Laws.CopyOwn
import Derived.Lib.Hide
import Derived.OneCell
import Derived.Deep.WholeRow
import Derived.WalkSpells
import Derived.WalkLawsBesides
import Derived.Laws.IdiomStrings
import Derived.Deep.QuietTactic
import Derived.BigQuiet
namespace Go.Proofs.Ythmeehmobcaadaa.Nu
open Go.RowKit Go.ChangeShapes Go.WideShapes Go.ChangeAt

theorem ret_u64 {a b : Int} (h : a = b) : Ending.returned (.int .u64 a) = .returned (.int .u64 b) := by rw [h]

set_option maxHeartbeats 400000 in
theorem digit_any (c : Nat) (hc : c ≤ 255) (w : World) :
    Calls Try.prog 53 #[.int .u8 (c : Int)] w fun e w' => e = .returned (.int .u64 ((dv c : Nat) : Int)) ∧ w = w' := by
  unfold dv
  by_cases h1 : 48 ≤ c ∧ c ≤ 57
  · rw [if_pos h1]
    obtain ⟨h1, h2⟩ := h1
    go_enter Try.func53, Try.ntmps53
    go_wp2
    go_ret
    exact ⟨ret_u64 (by omega), rfl⟩
  · rw [if_neg h1]
    by_cases h2 : 97 ≤ c ∧ c ≤ 122
    · rw [if_pos h2]
      obtain ⟨h2, h3⟩ := h2
      have h4 : ¬ c ≤ 57 := by omega
      clear h1
      go_enter Try.func53, Try.ntmps53
      go_wp2
      go_ret
      exact ⟨ret_u64 (by omega), rfl⟩
    · rw [if_neg h2]
      by_cases h3 : 65 ≤ c ∧ c ≤ 90
      · rw [if_pos h3]
        obtain ⟨h3, h4⟩ := h3
        have h5 : ¬ c ≤ 57 := by omega
        have h6 : ¬ 97 ≤ c := by omega
        clear h1 h2
        go_enter Try.func53, Try.ntmps53
        go_wp2
        go_ret
        exact ⟨ret_u64 (by omega), rfl⟩
      · rw [if_neg h3]
        have hh := Lib.hid (And.intro h1 (And.intro h2 h3))
        clear h1 h2 h3
        go_enter Try.func53, Try.ntmps53
        go_wp2
        all_goals first | (exfalso; obtain ⟨h1, h2, h3⟩ := hh.out; omega) | (go_ret; exact ⟨rfl, rfl⟩)

theorem bare_any (a : Int) (h1 : -9223372036854775808 ≤ a) (h2 : a ≤ 9223372036854775807) (w : World) :
    Calls Try.prog 59 #[.int .i64 a] w fun e w' => e = .returned (.int .u64 ((a.natAbs : Nat) : Int)) ∧ w = w' := by
  by_cases h : a < 0
  · go_enter Try.func59, Try.ntmps59
    go_wp2
    go_ret
    exact ⟨ret_u64 (by simp only [IntKind.wrap_u64, wrap64]; omega), rfl⟩
  · go_enter Try.func59, Try.ntmps59
    go_wp2
    go_ret
    exact ⟨ret_u64 (by omega), rfl⟩
/-- 'T(x)' whose run is known. -/
theorem wpList_convert_run {P : Program} {w : World} {ops : Array Oper} {rest : List Oper} {o : Oper} {a : Act} {Q : Exit → Act → World → Prop} (hgd : o.guard = none) (s d : TypeId) (x : Operand)
    (ho : o.op = .convert s d x) (u : Value) (hx : a.eval x = u) {v : Value} (hr : (convert s d u).run P w = .ok v w) (h : wpList P ops Q rest (a.put o.dst v) w) : wpList P ops Q (o :: rest) a w :=
  wpList_plain hgd fun K hK => by
    unfold Oper.wp execOp
    simp only [ho, hx, Sem.run_bind, Sem.run_pure, Result.andThen_ok, hr]
    exact hK _ _ h
theorem A.sliceAt (B j : Nat) (hj : j ≤ 64) (W : World) :
    (Instr.sliceAt 80 (.pointer (some ⟨B, 0, none⟩)) (some (.int .i64 (j : Int))) none none).run Try.prog W = .ok (.slice (some ⟨B, j, none⟩) (65 - j) (65 - j)) W := by
  have hl : Try.prog.arrayLen 80 = 65 := by kernel_rfl
  have hs : (sizeOf (Try.prog.elem 80)).run Try.prog W = .ok 1 W := by kernel_rfl
  rw [run_sliceAt_array_l W 80 _ (by kernel_rfl) .i64 (j : Int) (by omega) (by rw [hl]; omega), hs, hl]
  have hne : ¬ 65 = j := by omega
  simp [Result.andThen, slicedAt, Addr.add, hne]
  omega
theorem A.conv (W : World) (B j cap : Nat) (l : List UInt8) (hc : ∀ i (h : i < l.length), W.cell? ⟨B, j + i, none⟩ = some (.int .u8 (l[i].toNat : Int))) :
    (convert 65 9 (.slice (some ⟨B, j, none⟩) l.length cap)).run Try.prog W = .ok (.string ⟨l.toArray⟩) W :=
  run_convert_bytes_back W _ _ 5 _ cap l Try.underlying65 Try.underlying5 Try.underlying9 (fun i h => by
    have hadd : (⟨B, j, none⟩ : Addr).add i = ⟨B, j + i, none⟩ := by unfold Addr.add; split <;> simp_all
    rw [hadd]; exact hc i h)
/-- The bytes of a row from a place on. -/
theorem buf_cells (W : World) (B : Nat) (l : List UInt8) (t : TypeId) (h : W.heap[B]? = some (.cells (buf l) t (0, 0))) (i : Nat) (hi : i < l.length) :
    W.cell? ⟨B, 65 - l.length + i, none⟩ = some (.int .u8 (l[i].toNat : Int)) := by
  rw [cell_of_row W _ _ _ _ _ h]; exact buf_get l i hi
theorem A.conv2 (W : World) (B j L cap : Nat) (l : List UInt8) (t : TypeId) (hL : L = l.length) (hj : j = 65 - l.length) (h : W.heap[B]? = some (.cells (buf l) t (0, 0))) :
    (convert 65 9 (.slice (some ⟨B, j, none⟩) L cap)).run Try.prog W = .ok (.string ⟨l.toArray⟩) W := by
  subst hL hj; exact A.conv W B _ cap l (buf_cells W B l t h)
theorem ret_str {a b : List UInt8} (h : a = b) : Ending.returned (.string ⟨a.toArray⟩) = .returned (.string ⟨b.toArray⟩) := by rw [h]

theorem A.zero65 : (Try.prog.info? 80).map (fun i => (i.zero, i.size)) = some (some (.agg (buf [])), 65) := by kernel_rfl

set_option maxRecDepth 100000 in
set_option maxHeartbeats 800000 in
theorem write_any (a : Int) (h1 : -9223372036854775808 ≤ a) (h2 : a ≤ 9223372036854775807) (base : Nat) (hb1 : 2 ≤ base) (hb2 : base ≤ 36) (w : World) :
    Calls Try.prog 48 #[.int .i64 a, .int .u64 (base : Int)] w fun e w' => e = .returned (.string ⟨(txt a base).toArray⟩) ∧ Below w.heap.size w w' := by
  have HN : Hid (a.natAbs ≤ 9223372036854775808) := by show _ ≤ _; omega
  have hz := (zero_of_info A.zero65).1
  have hsl := fun (B j : Nat) (hj : j ≤ 64) => A.sliceAt B j hj
  go_enter Try.func48, Try.ntmps48
  go_wp2_with (go_at_call 59; refine (bare_any a h1 h2 _).mono ?_; rintro e w' ⟨rfl, rfl⟩)
  go_loopw [6, 7] (fun at' left wr => ∃ (acc : List UInt8) (n k : Nat), at' = .int .i64 (k : Int) ∧ left = .int .u64 (n : Int) ∧ k + acc.length = 64 ∧ 1 ≤ k ∧ n ≤ 9223372036854775808 ∧ n < 2 ^ k ∧ Hid (ds base 63 a.natAbs = ds base (k - 1) n ++ acc) ∧ wr.heap[w.heap.size]? = some (.cells (buf acc) 80 (0, 0)) ∧ Below w.heap.size w wr)
    (fun at' _ _ => (intOf at').toNat)
  case atStart => exact ⟨[], a.natAbs, 64, rfl, rfl, rfl, by omega, HN.out, Nat.lt_of_le_of_lt HN.out (by decide), by simp [Hid], heap_alloc_new _ _, by go_grown⟩
  case round =>
    obtain ⟨acc, n, k, rfl, rfl, hk, hk1, hn, hnk, HD, hrow, hb⟩ := hrel
    have HR := Lib.hid hrow
    have HP := Lib.hid hnk
    have HK := Lib.hid hk
    have hk64 : k ≤ 64 := by omega
    obtain ⟨v, hv⟩ := buf_head acc (by omega)
    have hc : wr.cell? ⟨w.heap.size, k, none⟩ = some v := by
      rw [cell_of_row wr _ _ _ _ _ hrow, ← hv]; congr 1; omega
    have hf : wr.frozen? ⟨w.heap.size, k, none⟩ = false := frozen_of_row wr _ _ _ _ hrow
    clear hrow hnk hk hv hz
    by_cases hlt : base ≤ n
    · have hm0 : 0 ≤ (n : Int) % (base : Int) := Int.emod_nonneg _ (by omega)
      have hm1 : (n : Int) % (base : Int) < 36 := by have := Int.emod_lt_of_pos (n : Int) (b := (base : Int)) (by omega); omega
      have hq0 : 0 ≤ (n : Int) / (base : Int) := Int.ediv_nonneg (by omega) (by omega)
      have hq1 : (n : Int) / (base : Int) ≤ 9223372036854775808 := by have := Int.ediv_le_self (a := (n : Int)) (base : Int) (by omega); omega
      go_wp2
      go_roundw
      case rel =>
        have hk := HK.out
        have h2k : 2 ≤ k := pow_small (by omega) HP.out
        refine ⟨dig (n % base) :: acc, n / base, k - 1, by congr 1; omega, by rfl, by simp; omega, by omega, Nat.le_trans (Nat.div_le_self _ _) hn, pow_div hb1 HP.out hk1, ?_, ?_, hb.setCell (by simp) _⟩
        · show _ = _
          rw [HD.out]
          obtain ⟨j, rfl⟩ : ∃ j, k = j + 2 := ⟨k - 2, by omega⟩
          rw [show j + 2 - 1 = j + 1 from rfl, ds_step base j n hlt]
          simp
        · refine (heap_setCell_same wr _ _ _ _ _ HR.out).trans ?_
          rw [← buf_set acc (by omega), letters_at _ (n % base) _ rfl, show 64 - acc.length = k from by omega]
      case measure => simp [intOf]; omega
    · by_cases hs : a < 0
      · have hn36 : n < 36 := by omega
        obtain ⟨j, rfl⟩ : ∃ j, k = j + 1 := ⟨k - 1, by omega⟩
        have hj : j ≤ 64 := by omega
        obtain ⟨v2, hv2⟩ : ∃ v2, (buf acc)[j]? = some v2 := ⟨_, Array.getElem?_eq_getElem (by rw [buf_size _ (by have := HK.out; omega)]; omega)⟩
        have hc2 : wr.cell? ⟨w.heap.size, j, none⟩ = some v2 := by rw [cell_of_row wr _ _ _ _ _ HR.out, hv2]
        have hf2 : wr.frozen? ⟨w.heap.size, j, none⟩ = false := frozen_of_row wr _ _ _ _ HR.out
        clear hv2
        go_wp2_with (refine wpList_convert_run rfl 65 9 (.tmp 35) rfl (.slice (some ⟨w.heap.size, j, none⟩) (65 - j) (65 - j)) rfl (v := .string ⟨(45 :: dig n :: acc).toArray⟩) ?hr ?_)
        case hr =>
          have hk := HK.out
          refine A.conv2 _ _ _ _ _ (45 :: dig n :: acc) 80 (by simp; omega) (by simp; omega) ?_
          refine (heap_setCell_same _ _ _ _ _ _ (heap_setCell_same wr _ _ _ _ _ HR.out)).trans ?_
          rw [letters_at _ n _ rfl]
          have e1 := buf_set acc (by omega) (dig n)
          rw [show 64 - acc.length = j + 1 from by omega] at e1
          have e2 := buf_set (dig n :: acc) (by simp; omega) 45
          rw [show 64 - (dig n :: acc).length = j from by simp; omega] at e2
          rw [e1, ← e2]
          rfl
        go_ret
        exact ⟨ret_str (by unfold txt; rw [if_pos hs, HD.out, ds_last base n (by omega)]; rfl), (hb.setCell (by simp) _).setCell (by simp) _⟩
      · have hn36 : n < 36 := by omega
        go_wp2_with (refine wpList_convert_run rfl 65 9 (.tmp 35) rfl (.slice (some ⟨w.heap.size, k, none⟩) (65 - k) (65 - k)) rfl (v := .string ⟨(dig n :: acc).toArray⟩) ?hr ?_)
        case hr =>
          have hk := HK.out
          refine A.conv2 _ _ _ _ _ (dig n :: acc) 80 (by simp; omega) (by simp; omega) ?_
          refine (heap_setCell_same wr _ _ _ _ _ HR.out).trans ?_
          rw [letters_at _ n _ rfl]
          have e1 := buf_set acc (by omega) (dig n)
          rw [show 64 - acc.length = k from by omega] at e1
          rw [e1]
        go_ret
        exact ⟨ret_str (by unfold txt; rw [if_neg (by omega), HD.out, ds_last base n (by omega)]; rfl), hb.setCell (by simp) _⟩
end Go.Proofs.Ythmeehmobcaadaa.Nu
