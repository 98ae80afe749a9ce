/- Contract of value.Check. -/
import Derived.Test.YtipdjjgpcmbpdaaVal1
namespace Go.Proofs.Ytipdjjgpcmbpdaa.Va
open Go.RowKit Go.ChangeShapes Go.WideShapes Go.ChangeAt

theorem none_list (s : ByteArray) (h : s.size = 0) : s.toList = [] := by rw [ByteArray.toList_eq]; exact no_list s h
theorem some_list (s : ByteArray) (h : ¬ s.size = 0) : ¬ s.toList = [] := fun e => h (by rw [← size_list, ← ByteArray.toList_eq, e]; rfl)
set_option maxRecDepth 100000 in
theorem check_3t (k n : Int) (s : ByteArray) (ty : ByteArray) (ht : ty.toList.isEmpty = false) (HT : ∀ w, Calls Try.prog 72 #[.agg #[.int .i64 k, .int .i64 n, .string s]] w fun e w' => e = .returned (.string ty) ∧ Below w.heap.size w w') (e3 : k = 3) (HF : ∀ w, Calls Try.prog 73 #[.agg #[.int .i64 k, .int .i64 n, .string s]] w fun e w' => e = .returned (.bool true) ∧ Below w.heap.size w w') (w : World) : Calls Try.prog 41 #[.agg #[.int .i64 k, .int .i64 n, .string s]] w fun e w' => e = .returned (.int .i64 0) ∧ Below w.heap.size w w' := by
  subst e3
  have HT := Lib.hid HT
  have HF := Lib.hid HF
  go_enter Try.func41, Try.ntmps41
  go_wp2_with fail
  refine (HT.out _).mono ?_
  rintro e w1 ⟨rfl, hb⟩
  have hb1 : Below w.heap.size w w1 := ((Below.refl _ _).alloc (Nat.le_refl _) _).trans (hb.mono (by simp))
  have hw1 : w1.heap[w.heap.size]? = some (.cells #[.int .i64 3, .int .i64 n, .string s] 30 (0, 0)) := by
    rw [hb.block _ (by simp)]; exact heap_alloc_new w _
  obtain ⟨c0, c1, c2, z0, z1, z2⟩ := three_facts hw1
  have HR := Lib.hid hw1
  have HB := Lib.hid hb1
  clear hw1 hb hb1
  go_wp2_with (go_at_call 73; refine (HF.out _).mono ?_; rintro e w2 ⟨rfl, hb2⟩)
  go_ret
  exact ⟨rfl, HB.out.trans (hb2.mono HB.out.size)⟩

set_option maxRecDepth 100000 in
theorem check_3f (k n : Int) (s : ByteArray) (ty : ByteArray) (ht : ty.toList.isEmpty = false) (HT : ∀ w, Calls Try.prog 72 #[.agg #[.int .i64 k, .int .i64 n, .string s]] w fun e w' => e = .returned (.string ty) ∧ Below w.heap.size w w') (e3 : k = 3) (HF : ∀ w, Calls Try.prog 73 #[.agg #[.int .i64 k, .int .i64 n, .string s]] w fun e w' => e = .returned (.bool false) ∧ Below w.heap.size w w') (w : World) : Calls Try.prog 41 #[.agg #[.int .i64 k, .int .i64 n, .string s]] w fun e w' => e = .returned (.int .i64 5) ∧ Below w.heap.size w w' := by
  subst e3
  have HT := Lib.hid HT
  have HF := Lib.hid HF
  go_enter Try.func41, Try.ntmps41
  go_wp2_with fail
  refine (HT.out _).mono ?_
  rintro e w1 ⟨rfl, hb⟩
  have hb1 : Below w.heap.size w w1 := ((Below.refl _ _).alloc (Nat.le_refl _) _).trans (hb.mono (by simp))
  have hw1 : w1.heap[w.heap.size]? = some (.cells #[.int .i64 3, .int .i64 n, .string s] 30 (0, 0)) := by
    rw [hb.block _ (by simp)]; exact heap_alloc_new w _
  obtain ⟨c0, c1, c2, z0, z1, z2⟩ := three_facts hw1
  have HR := Lib.hid hw1
  have HB := Lib.hid hb1
  clear hw1 hb hb1
  go_wp2_with (go_at_call 73; refine (HF.out _).mono ?_; rintro e w2 ⟨rfl, hb2⟩)
  go_ret
  exact ⟨rfl, HB.out.trans (hb2.mono HB.out.size)⟩

set_option maxRecDepth 100000 in
theorem check_t (k n : Int) (s : ByteArray) (ty : ByteArray) (ht : ty.toList.isEmpty = false) (HT : ∀ w, Calls Try.prog 72 #[.agg #[.int .i64 k, .int .i64 n, .string s]] w fun e w' => e = .returned (.string ty) ∧ Below w.heap.size w w') (e3 : ¬ k = 3) (e4 : ¬ s.toList = []) (w : World) : Calls Try.prog 41 #[.agg #[.int .i64 k, .int .i64 n, .string s]] w fun e w' => e = .returned (.int .i64 5) ∧ Below w.heap.size w w' := by
  have HT := Lib.hid HT
  go_enter Try.func41, Try.ntmps41
  go_wp2_with fail
  refine (HT.out _).mono ?_
  rintro e w1 ⟨rfl, hb⟩
  have hb1 : Below w.heap.size w w1 := ((Below.refl _ _).alloc (Nat.le_refl _) _).trans (hb.mono (by simp))
  have hw1 : w1.heap[w.heap.size]? = some (.cells #[.int .i64 k, .int .i64 n, .string s] 30 (0, 0)) := by
    rw [hb.block _ (by simp)]; exact heap_alloc_new w _
  obtain ⟨c0, c1, c2, z0, z1, z2⟩ := three_facts hw1
  have HR := Lib.hid hw1
  have HB := Lib.hid hb1
  clear hw1 hb hb1
  go_wp2_with fail
  go_ret
  exact ⟨rfl, HB.out⟩

set_option maxRecDepth 100000 in
theorem check_nt (k n : Int) (s : ByteArray) (ty : ByteArray) (ht : ty.toList.isEmpty = false) (HT : ∀ w, Calls Try.prog 72 #[.agg #[.int .i64 k, .int .i64 n, .string s]] w fun e w' => e = .returned (.string ty) ∧ Below w.heap.size w w') (e3 : ¬ k = 3) (e4 : s.toList = []) (HF : ∀ w, Calls Try.prog 73 #[.agg #[.int .i64 k, .int .i64 n, .string s]] w fun e w' => e = .returned (.bool true) ∧ Below w.heap.size w w') (w : World) : Calls Try.prog 41 #[.agg #[.int .i64 k, .int .i64 n, .string s]] w fun e w' => e = .returned (.int .i64 0) ∧ Below w.heap.size w w' := by
  have HT := Lib.hid HT
  have HF := Lib.hid HF
  go_enter Try.func41, Try.ntmps41
  go_wp2_with fail
  refine (HT.out _).mono ?_
  rintro e w1 ⟨rfl, hb⟩
  have hb1 : Below w.heap.size w w1 := ((Below.refl _ _).alloc (Nat.le_refl _) _).trans (hb.mono (by simp))
  have hw1 : w1.heap[w.heap.size]? = some (.cells #[.int .i64 k, .int .i64 n, .string s] 30 (0, 0)) := by
    rw [hb.block _ (by simp)]; exact heap_alloc_new w _
  obtain ⟨c0, c1, c2, z0, z1, z2⟩ := three_facts hw1
  have HR := Lib.hid hw1
  have HB := Lib.hid hb1
  clear hw1 hb hb1
  go_wp2_with (go_at_call 73; refine (HF.out _).mono ?_; rintro e w2 ⟨rfl, hb2⟩)
  go_ret
  exact ⟨rfl, HB.out.trans (hb2.mono HB.out.size)⟩

set_option maxRecDepth 100000 in
theorem check_nf (k n : Int) (s : ByteArray) (ty : ByteArray) (ht : ty.toList.isEmpty = false) (HT : ∀ w, Calls Try.prog 72 #[.agg #[.int .i64 k, .int .i64 n, .string s]] w fun e w' => e = .returned (.string ty) ∧ Below w.heap.size w w') (e3 : ¬ k = 3) (e4 : s.toList = []) (HF : ∀ w, Calls Try.prog 73 #[.agg #[.int .i64 k, .int .i64 n, .string s]] w fun e w' => e = .returned (.bool false) ∧ Below w.heap.size w w') (w : World) : Calls Try.prog 41 #[.agg #[.int .i64 k, .int .i64 n, .string s]] w fun e w' => e = .returned (.int .i64 5) ∧ Below w.heap.size w w' := by
  have HT := Lib.hid HT
  have HF := Lib.hid HF
  go_enter Try.func41, Try.ntmps41
  go_wp2_with fail
  refine (HT.out _).mono ?_
  rintro e w1 ⟨rfl, hb⟩
  have hb1 : Below w.heap.size w w1 := ((Below.refl _ _).alloc (Nat.le_refl _) _).trans (hb.mono (by simp))
  have hw1 : w1.heap[w.heap.size]? = some (.cells #[.int .i64 k, .int .i64 n, .string s] 30 (0, 0)) := by
    rw [hb.block _ (by simp)]; exact heap_alloc_new w _
  obtain ⟨c0, c1, c2, z0, z1, z2⟩ := three_facts hw1
  have HR := Lib.hid hw1
  have HB := Lib.hid hb1
  clear hw1 hb hb1
  go_wp2_with (go_at_call 73; refine (HF.out _).mono ?_; rintro e w2 ⟨rfl, hb2⟩)
  go_ret
  exact ⟨rfl, HB.out.trans (hb2.mono HB.out.size)⟩

theorem check_any (k n : Int) (s : ByteArray) (w : World) : Calls Try.prog 41 #[.agg #[.int .i64 k, .int .i64 n, .string s]] w fun e w' => e = .returned (.int .i64 (chk k n s)) ∧ Below w.heap.size w w' := by
  by_cases hk : k < 0 ∨ 4 < k
  · have ht : typ k = ⟨#[]⟩ := by obtain ⟨g0, g1, g2, g3, g4⟩ := no_kind' hk; simp [typ, g0, g1, g2, g3, g4]
    have hc : chk k n s = 30 := by simp [chk, hk]
    have HT := Lib.hid fun w => type_any k n s w
    rw [hc]
    rw [ht] at HT
    clear hc ht hk
    go_enter Try.func41, Try.ntmps41
    go_wp2_with fail
    refine (HT.out _).mono ?_
    rintro e w1 ⟨rfl, hb⟩
    have hb1 : Below w.heap.size w w1 := ((Below.refl _ _).alloc (Nat.le_refl _) _).trans (hb.mono (by simp))
    go_wp2_with fail
    go_ret
    exact ⟨rfl, hb1⟩
  · have ht : (typ k).toList.isEmpty = false := by rcases kinds k with rfl | rfl | rfl | rfl | rfl | h <;> first | exact absurd h hk | exact some_bytes _ (by decide)
    have hc : chk k n s = if (k ≠ 3 ∧ s.size ≠ 0) ∨ fit k n = false then 5 else 0 := by simp only [chk]; rw [if_neg hk]
    rw [hc]
    have HF := fun w => fits_any k n s w
    have HT := fun w => type_any k n s w
    by_cases h3 : k = 3
    · cases hf : fit k n
      · rw [if_pos (Or.inr rfl)]; rw [hf] at HF; exact check_3f k n s _ ht HT h3 HF w
      · rw [if_neg (by simp [h3])]; rw [hf] at HF; exact check_3t k n s _ ht HT h3 HF w
    · by_cases hs : s.size = 0
      · cases hf : fit k n
        · rw [if_pos (Or.inr rfl)]; rw [hf] at HF; exact check_nf k n s _ ht HT h3 (none_list s hs) HF w
        · rw [if_neg (by simp [hs])]; rw [hf] at HF; exact check_nt k n s _ ht HT h3 (none_list s hs) HF w
      · rw [if_pos (Or.inl ⟨h3, hs⟩)]; exact check_t k n s _ ht HT h3 (some_list s hs) w
end Go.Proofs.Ytipdjjgpcmbpdaa.Va
