/- 'StrSlices': the walk. -/
import Derived.Test.YtkpdjpplcejjiaaTexts
namespace Go.Proofs.Ytkpdjpplcejjiaa
open Go.RowKit Go.ChangeShapes Go.WideShapes Go.ChangeAt

theorem cell_pos {w : World} {v : Value} (hm : w.cell? ⟨0, 0, none⟩ = some v) : 0 < w.heap.size := by
  refine Nat.pos_of_ne_zero fun h => ?_
  have e : w.heap = #[] := Array.eq_empty_of_size_eq_zero h
  simp [World.cell?, e] at hm
theorem placed_at {f A : Int} {n : Nat} (hn : n ≤ 500) (h : (f < 0 ∧ -9223372036854775808 ≤ f ∧ A = f + n) ∨ (0 ≤ f ∧ A = f)) : placed f n = A := by
  unfold placed
  rcases h with ⟨h1, h2, rfl⟩ | ⟨h1, rfl⟩
  · rw [if_pos h1]; unfold wrap64; omega
  · rw [if_neg (by omega)]

set_option maxRecDepth 100000 in
set_option maxHeartbeats 2000000 in
theorem strSlices_no (s : ByteArray) (hs : s.size ≤ 500) (f t A B : Int) (hA : (f < 0 ∧ -9223372036854775808 ≤ f ∧ A = f + s.size) ∨ (0 ≤ f ∧ A = f)) (hB : (t < 0 ∧ -9223372036854775808 ≤ t ∧ B = t + s.size) ∨ (0 ≤ t ∧ B = t))
    (h : A < 0 ∨ (0 ≤ A ∧ B < A) ∨ (0 ≤ A ∧ A ≤ B ∧ (s.size : Int) < B)) (hA2 : A ≤ 9223372036854775807) (hB2 : B ≤ 9223372036854775807) (m : Int) (w : World) (hm : w.cell? ⟨0, 0, none⟩ = some (.int .i64 m)) :
    Calls Try.prog 5 #[.string s, .int .i64 f, .int .i64 t] w fun e w' => e = .returned (.bool true) ∧ Below w.heap.size w w' := by
  have hpA := placed_at hs hA
  have hpB := placed_at hs hB
  have hno : placed f s.size < 0 ∨ placed t s.size < placed f s.size ∨ (s.size : Int) < placed t s.size := by rw [hpA, hpB]; omega
  have HS := Lib.hid fun w => slice_no s (by omega) f t hno w
  have HT := Lib.hid (texts_any m w hm)
  clear hpA hpB hno hm
  rcases hA with ⟨a1, a2, rfl⟩ | ⟨a1, rfl⟩
  all_goals rcases hB with ⟨b1, b2, rfl⟩ | ⟨b1, rfl⟩
  all_goals rcases h with h | ⟨h1, h2⟩ | ⟨h1, h2, h3⟩
  all_goals try omega
  all_goals
    go_enter Try.func5, Try.ntmps5
    go_wp2_with fail
    refine HT.out.mono ?_
    rintro e w1 ⟨rfl, hb1⟩
    go_wp2_with fail
    refine (HS.out _).mono ?_
    rintro e w2 ⟨rfl, rfl⟩
    go_wp2_with fail
    go_ret
    exact ⟨rfl, hb1⟩
theorem extract_get (s : ByteArray) (a b k : Nat) (h : k < (s.extract a b).size) (h2 : a + k < s.size) : (s.extract a b)[k] = s[a + k] := by
  rw [ByteArray.getElem_extract]

set_option maxRecDepth 100000 in
set_option maxHeartbeats 2000000 in
theorem strSlices_yes (s : ByteArray) (hs : s.size ≤ 500) (f t : Int) (a b : Nat) (hA : (f < 0 ∧ -9223372036854775808 ≤ f ∧ (a : Int) = f + s.size) ∨ (0 ≤ f ∧ (a : Int) = f)) (hB : (t < 0 ∧ -9223372036854775808 ≤ t ∧ (b : Int) = t + s.size) ∨ (0 ≤ t ∧ (b : Int) = t))
    (h1 : a ≤ b) (h2 : b ≤ s.size) (m : Int) (w : World) (hm : w.cell? ⟨0, 0, none⟩ = some (.int .i64 m)) :
    Calls Try.prog 5 #[.string s, .int .i64 f, .int .i64 t] w fun e w' => e = .returned (.bool true) ∧ Below w.heap.size w w' := by
  have HS := Lib.hid fun w => slice_yes s (by omega) f t a b (placed_at hs hA) (placed_at hs hB) h1 h2 w
  have HT := Lib.hid (texts_any m w hm)
  have hsz : (s.extract a b).size = b - a := by simp; omega
  have HG : Hid (∀ k (h : k < (s.extract a b).size) (h2 : a + k < s.size), (s.extract a b)[k] = s[a + k]) := fun k h h2 => extract_get s a b k h h2
  clear hm
  generalize s.extract a b = p at *
  have hf : f = (a : Int) ∧ 0 ≤ f ∨ f = (a : Int) - s.size ∧ f < 0 := by omega
  have ht : t = (b : Int) ∧ 0 ≤ t ∨ t = (b : Int) - s.size ∧ t < 0 := by omega
  clear hA hB
  rcases hf with ⟨rfl, a1⟩ | ⟨rfl, a1⟩
  all_goals rcases ht with ⟨rfl, b1⟩ | ⟨rfl, b1⟩
  all_goals
    go_enter Try.func5, Try.ntmps5
    go_wp2_with fail
    refine HT.out.mono ?_
    rintro e w1 ⟨rfl, hb1⟩
    have s1 := hb1.size
    go_wp2_with fail
    refine (HS.out _).mono ?_
    rintro e w2 ⟨rfl, hb2⟩
    have hb : Below w.heap.size w w2 := hb1.trans (hb2.mono s1)
    clear hb1 hb2
    go_wp2_with fail
    go_loopw [69] (fun i wr => ∃ k : Nat, k ≤ b - a ∧ i = .int .i64 (k : Int) ∧ Below w.heap.size w wr) (fun i _ => (b - a) - (intOf i).toNat)
    case atStart => exact ⟨0, by omega, rfl, hb⟩
    case round =>
      obtain ⟨k, hk, rfl, hb⟩ := hrel
      by_cases hlt : k < b - a
      · obtain ⟨j, hj⟩ : ∃ j, j = a + k := ⟨_, rfl⟩
        have hjs : j < s.size := by omega
        have hp : k < p.size := by omega
        have hg : p[k] = s[j] := by subst hj; exact HG.out k hp hjs
        have hjz : (a : Int) + (k : Int) = (j : Int) := by omega
        clear hj
        have hc := byte_lt s j hjs
        go_wp2_with fail
        go_quiet (fail)
        go_wp2_with fail
        go_roundw
        case rel => exact ⟨k + 1, by omega, by go_num, below_drewN hb _⟩
        case measure => simp [intOf]; omega
      · go_wp2_with fail
        go_ret
        exact ⟨rfl, hb⟩

set_option maxRecDepth 100000 in
theorem strSlices_walk (s : ByteArray) (f t : Int) (_ : s.size ≤ maxLen) (hf : (Lit.int .i64 f).wf = true) (ht : (Lit.int .i64 t).wf = true) (m : Int) (w : World) (hm : w.cell? ⟨0, 0, none⟩ = some (.int .i64 m)) :
    Calls Try.prog 5 #[.string s, .int .i64 f, .int .i64 t] w fun e w' => e = .returned (.bool true) ∧ Below w.heap.size w w' := by
  obtain ⟨f1, f2⟩ := i64_range hf
  obtain ⟨t1, t2⟩ := i64_range ht
  by_cases hs : s.size ≤ 500
  · obtain ⟨A, hA⟩ : ∃ A : Int, (f < 0 ∧ -9223372036854775808 ≤ f ∧ A = f + s.size) ∨ (0 ≤ f ∧ A = f) := by
      by_cases h : f < 0
      · exact ⟨f + s.size, .inl ⟨h, f1, rfl⟩⟩
      · exact ⟨f, .inr ⟨by omega, rfl⟩⟩
    obtain ⟨B, hB⟩ : ∃ B : Int, (t < 0 ∧ -9223372036854775808 ≤ t ∧ B = t + s.size) ∨ (0 ≤ t ∧ B = t) := by
      by_cases h : t < 0
      · exact ⟨t + s.size, .inl ⟨h, t1, rfl⟩⟩
      · exact ⟨t, .inr ⟨by omega, rfl⟩⟩
    by_cases hn : A < 0 ∨ (0 ≤ A ∧ B < A) ∨ (0 ≤ A ∧ A ≤ B ∧ (s.size : Int) < B)
    · exact strSlices_no s hs f t A B hA hB hn (by omega) (by omega) m w hm
    · obtain ⟨a, rfl⟩ := Int.eq_ofNat_of_zero_le (a := A) (by omega)
      obtain ⟨b, rfl⟩ := Int.eq_ofNat_of_zero_le (a := B) (by omega)
      exact strSlices_yes s hs f t a b hA hB (by omega) (by omega) m w hm
  · have HT := Lib.hid (texts_any m w hm)
    clear hm
    go_enter Try.func5, Try.ntmps5
    go_wp2_with fail
    refine HT.out.mono ?_
    rintro e w1 ⟨rfl, hb1⟩
    go_wp2_with fail
    go_ret
    exact ⟨rfl, hb1⟩
end Go.Proofs.Ytkpdjpplcejjiaa
