/- Contracts of package value: alike, texts, numbers, orders. Of right kinds alone. -/
import Derived.Test.YthmeehmobcaadaaVal2
import Derived.Test.YthmeehmobcaadaaNum5
import Derived.Test.YthmeehmobcaadaaJoin
import Derived.Test.YthmeehmobcaadaaStr3
namespace Go.Proofs.Ythmeehmobcaadaa.Va
open Go.RowKit Go.ChangeShapes Go.WideShapes Go.ChangeAt

theorem box1 {w w1 : World} {A : Obj} (hb : Below (w.alloc A).heap.size (w.alloc A) w1) : w1.heap[w.heap.size]? = some A ∧ Below w.heap.size w w1 :=
  ⟨(hb.block _ (by simp)).trans (heap_alloc_new w _), ((Below.refl _ _).alloc (Nat.le_refl _) _).trans (hb.mono (by simp))⟩
theorem box2 {w w1 : World} {A B : Obj} (hb : Below ((w.alloc A).alloc B).heap.size ((w.alloc A).alloc B) w1) : w1.heap[w.heap.size]? = some A ∧ w1.heap[w.heap.size + 1]? = some B ∧ Below w.heap.size w w1 := by
  have h1 := box1 (w := w.alloc A) hb
  have e : (w.alloc A).heap.size = w.heap.size + 1 := by simp
  have h2 := box1 (w := w) (w1 := w1) (A := A) (by rw [e] at h1 ⊢; exact h1.2)
  rw [e] at h1
  exact ⟨h2.1, h1.1, h2.2⟩
theorem box3 {w w1 : World} {A B C : Obj} (hb : Below (((w.alloc A).alloc B).alloc C).heap.size (((w.alloc A).alloc B).alloc C) w1) : w1.heap[w.heap.size]? = some A ∧ w1.heap[w.heap.size + 1]? = some B ∧ w1.heap[w.heap.size + 1 + 1]? = some C ∧ Below w.heap.size w w1 := by
  have h1 := box2 (w := w.alloc A) hb
  have e : (w.alloc A).heap.size = w.heap.size + 1 := by simp
  have h2 := box1 (w := w) (w1 := w1) (A := A) (by rw [e] at h1 ⊢; exact h1.2.2)
  rw [e] at h1
  exact ⟨h2.1, h1.1, h1.2.1, h2.2⟩
theorem below_two {w : World} (A B : Obj) : Below w.heap.size w ((w.alloc A).alloc B) := ((Below.refl _ _).alloc (Nat.le_refl _) _).alloc (by simp) _
theorem below_three {w : World} (A B C : Obj) : Below w.heap.size w (((w.alloc A).alloc B).alloc C) := (below_two A B).alloc (by simp; omega) _

theorem same_yes (k n : Int) (s : ByteArray) (w : World) : Calls Try.prog 15 #[.agg #[.int .i64 k, .int .i64 n, .string s], .agg #[.int .i64 k, .int .i64 n, .string s]] w fun e w' => e = .returned (.bool true) ∧ Below w.heap.size w w' := by
  go_enter Try.func15, Try.ntmps15
  go_wp2_with fail
  go_ret
  exact ⟨rfl, below_two _ _⟩
theorem list_inj {a b : ByteArray} (h : a.toList = b.toList) : a = b := by rw [ByteArray.toList_eq, ByteArray.toList_eq] at h; exact bytes_ext h
theorem same_no (k n k' n' : Int) (s s' : ByteArray) (h : ¬ (k = k' ∧ n = n' ∧ s = s')) (w : World) : Calls Try.prog 15 #[.agg #[.int .i64 k, .int .i64 n, .string s], .agg #[.int .i64 k', .int .i64 n', .string s']] w fun e w' => e = .returned (.bool false) ∧ Below w.heap.size w w' := by
  by_cases h1 : k = k'
  · by_cases h2 : n = n'
    · have h3 : ¬ s.toList = s'.toList := fun e => h ⟨h1, h2, list_inj e⟩
      subst h1; subst h2
      clear h
      go_enter Try.func15, Try.ntmps15
      go_wp2_with fail
      go_ret
      exact ⟨rfl, below_two _ _⟩
    · subst h1
      clear h
      go_enter Try.func15, Try.ntmps15
      go_wp2_with fail
      go_ret
      exact ⟨rfl, below_two _ _⟩
  · clear h
    go_enter Try.func15, Try.ntmps15
    go_wp2_with fail
    go_ret
    exact ⟨rfl, below_two _ _⟩
def alike (k n k' n' : Int) (s s' : ByteArray) : Bool := decide (k = k' ∧ n = n' ∧ s = s')
theorem same_any (k n k' n' : Int) (s s' : ByteArray) (w : World) : Calls Try.prog 15 #[.agg #[.int .i64 k, .int .i64 n, .string s], .agg #[.int .i64 k', .int .i64 n', .string s']] w fun e w' => e = .returned (.bool (alike k n k' n' s s')) ∧ Below w.heap.size w w' := by
  unfold alike
  by_cases h : k = k' ∧ n = n' ∧ s = s'
  · rw [decide_eq_true h]
    obtain ⟨rfl, rfl, rfl⟩ := h
    exact same_yes _ _ _ _
  · rw [decide_eq_false h]
    exact same_no _ _ _ _ _ _ h _

def textV (k n : Int) (s : ByteArray) : ByteArray := if k = 0 then ⟨#[110, 117, 108, 108]⟩ else if k = 1 then (if n = 0 then ⟨#[102, 97, 108, 115, 101]⟩ else ⟨#[116, 114, 117, 101]⟩) else if k = 2 then ⟨(Nu.txt n 10).toArray⟩ else if k = 3 then s else ⟨#[]⟩
def textE (k : Int) : Int := if k = 4 then 30 else 0
theorem right_kinds {k : Int} (h0 : 0 ≤ k) (h4 : k ≤ 4) : k = 0 ∨ k = 1 ∨ k = 2 ∨ k = 3 ∨ k = 4 := by omega
set_option maxRecDepth 100000 in
theorem text_any (k n : Int) (s : ByteArray) (h0 : 0 ≤ k) (h4 : k ≤ 4) (h1 : -9223372036854775808 ≤ n) (h2 : n ≤ 9223372036854775807) (w : World) :
    Calls Try.prog 17 #[.agg #[.int .i64 k, .int .i64 n, .string s]] w fun e w' => e = .returned (.tuple #[.string (textV k n s), .int .i64 (textE k)]) ∧ Below w.heap.size w w' := by
  rcases right_kinds h0 h4 with rfl | rfl | rfl | rfl | rfl
  · go_enter Try.func17, Try.ntmps17
    go_wp2_with fail
    go_ret2
    exact ⟨rfl, (Below.refl _ _).alloc (Nat.le_refl _) _⟩
  · by_cases hn : n = 0
    · subst hn
      have HT := Lib.hid fun w => true_any 1 0 s w
      rw [show tru 1 0 = false from rfl] at HT
      go_enter Try.func17, Try.ntmps17
      go_wp2_with fail
      refine (HT.out _).mono ?_
      rintro e w1 ⟨rfl, hb⟩
      have hb := (box1 hb).2
      go_wp2_with fail
      go_ret2
      exact ⟨rfl, hb⟩
    · have HT := Lib.hid fun w => true_any 1 n s w
      rw [show tru 1 n = true by simp [tru, hn]] at HT
      rw [show textV 1 n s = ⟨#[116, 114, 117, 101]⟩ by simp [textV, hn]]
      clear hn
      go_enter Try.func17, Try.ntmps17
      go_wp2_with fail
      refine (HT.out _).mono ?_
      rintro e w1 ⟨rfl, hb⟩
      have hb := (box1 hb).2
      go_wp2_with fail
      go_ret2
      exact ⟨rfl, hb⟩
  · have HT := Lib.hid fun w => Nu.text_any n h1 h2 w
    rw [show textV 2 n s = ⟨(Nu.txt n 10).toArray⟩ from rfl]
    generalize (⟨(Nu.txt n 10).toArray⟩ : ByteArray) = tx at *
    go_enter Try.func17, Try.ntmps17
    go_wp2_with fail
    refine (HT.out _).mono ?_
    rintro e w1 ⟨rfl, hb⟩
    have hb := (box1 hb).2
    go_wp2_with fail
    go_ret2
    exact ⟨rfl, hb⟩
  · go_enter Try.func17, Try.ntmps17
    go_wp2_with fail
    go_ret2
    exact ⟨rfl, (Below.refl _ _).alloc (Nat.le_refl _) _⟩
  · go_enter Try.func17, Try.ntmps17
    go_wp2_with fail
    go_ret2
    exact ⟨rfl, (Below.refl _ _).alloc (Nat.le_refl _) _⟩

def quo (s : ByteArray) : ByteArray := ⟨(34 :: (escs s.data.toList ++ [34])).toArray⟩
def sourceV (k n : Int) (s : ByteArray) : ByteArray := if k = 3 then quo s else textV k n s
theorem source_any (k n : Int) (s : ByteArray) (h0 : 0 ≤ k) (h4 : k ≤ 4) (h1 : -9223372036854775808 ≤ n) (h2 : n ≤ 9223372036854775807) (hs : s.size ≤ 1048576) (w : World) :
    Calls Try.prog 18 #[.agg #[.int .i64 k, .int .i64 n, .string s]] w fun e w' => e = .returned (.tuple #[.string (sourceV k n s), .int .i64 (textE k)]) ∧ Below w.heap.size w w' := by
  by_cases hk : k = 3
  · subst hk
    have HQ : Hid (∀ w, Calls Try.prog 20 #[.string s] w fun e w' => e = .returned (.string (quo s)) ∧ Below w.heap.size w w') := fun w => quote_any s hs w
    rw [show sourceV 3 n s = quo s from rfl, show textE 3 = 0 from rfl]
    generalize quo s = q at *
    go_enter Try.func18, Try.ntmps18
    go_wp2_with fail
    refine (HQ.out _).mono ?_
    rintro e w1 ⟨rfl, hb⟩
    have hb := (box1 hb).2
    go_wp2_with fail
    go_ret2
    exact ⟨rfl, hb⟩
  · have HT := Lib.hid fun w => text_any k n s h0 h4 h1 h2 w
    have e3 : (k == 3) = false := beq_no' hk
    rw [show sourceV k n s = textV k n s by simp [sourceV, hk]]
    generalize textV k n s = q at *
    generalize textE k = er at *
    clear h0 h4 h1 h2 hs hk
    go_enter Try.func18, Try.ntmps18
    go_wp2_with fail
    refine (HT.out _).mono ?_
    rintro e w1 ⟨rfl, hb⟩
    have hb := (box1 hb).2
    go_wp2_with fail
    go_ret2
    exact ⟨rfl, hb⟩

def numV (k n : Int) (s : ByteArray) : Int := if k = 1 ∨ k = 2 then n else if k = 3 ∧ ¬ ((Nu.lead s.data.toList).2 = 0 ∨ (Nu.lead s.data.toList).2 < s.size) then (Nu.lead s.data.toList).1 else 0
def numE (k : Int) (s : ByteArray) : Int := if k = 1 ∨ k = 2 then 0 else if k = 3 then (if (Nu.lead s.data.toList).2 = 0 ∨ (Nu.lead s.data.toList).2 < s.size then 5 else 0) else 30
set_option maxRecDepth 100000 in
theorem number_any (k n : Int) (s : ByteArray) (h0 : 0 ≤ k) (h4 : k ≤ 4) (hs : s.size ≤ 1048576) (w : World) :
    Calls Try.prog 21 #[.agg #[.int .i64 k, .int .i64 n, .string s]] w fun e w' => e = .returned (.tuple #[.int .i64 (numV k n s), .int .i64 (numE k s)]) ∧ Below w.heap.size w w' := by
  rcases right_kinds h0 h4 with rfl | rfl | rfl | rfl | rfl
  · go_enter Try.func21, Try.ntmps21
    go_wp2_with fail
    go_ret2
    exact ⟨rfl, (Below.refl _ _).alloc (Nat.le_refl _) _⟩
  · go_enter Try.func21, Try.ntmps21
    go_wp2_with fail
    go_ret2
    exact ⟨rfl, (Below.refl _ _).alloc (Nat.le_refl _) _⟩
  · go_enter Try.func21, Try.ntmps21
    go_wp2_with fail
    go_ret2
    exact ⟨rfl, (Below.refl _ _).alloc (Nat.le_refl _) _⟩
  · have HL := Lib.hid fun w => Nu.leading_any s (by unfold maxLen; omega) w
    have hv : numV 3 n s = if (Nu.lead s.data.toList).2 = 0 ∨ (Nu.lead s.data.toList).2 < s.size then 0 else (Nu.lead s.data.toList).1 := by
      simp only [numV]
      by_cases h : (Nu.lead s.data.toList).2 = 0 ∨ (Nu.lead s.data.toList).2 < s.size <;> simp [h]
    have he : numE 3 s = if (Nu.lead s.data.toList).2 = 0 ∨ (Nu.lead s.data.toList).2 < s.size then 5 else 0 := rfl
    rw [hv, he]
    clear hv he h0 h4
    generalize Nu.lead s.data.toList = p at *
    by_cases hz : p.2 = 0
    · rw [if_pos (Or.inl hz), if_pos (Or.inl hz)]
      rw [hz] at HL
      clear hz
      go_enter Try.func21, Try.ntmps21
      go_wp2_with fail
      refine (HL.out _).mono ?_
      rintro e w1 ⟨rfl, rfl⟩
      go_wp2_with fail
      go_ret2
      exact ⟨rfl, (Below.refl _ _).alloc (Nat.le_refl _) _⟩
    · have e0 : ((p.2 : Int) == 0) = false := by rw [beq_eq_false_iff_ne]; omega
      by_cases hl : p.2 < s.size
      · rw [if_pos (Or.inr hl), if_pos (Or.inr hl)]
        clear hz
        go_enter Try.func21, Try.ntmps21
        go_wp2_with fail
        refine (HL.out _).mono ?_
        rintro e w1 ⟨rfl, rfl⟩
        go_wp2_with fail
        go_ret2
        exact ⟨rfl, (Below.refl _ _).alloc (Nat.le_refl _) _⟩
      · rw [if_neg (by omega), if_neg (by omega)]
        clear hz
        go_enter Try.func21, Try.ntmps21
        go_wp2_with fail
        refine (HL.out _).mono ?_
        rintro e w1 ⟨rfl, rfl⟩
        go_wp2_with fail
        go_ret2
        exact ⟨rfl, (Below.refl _ _).alloc (Nat.le_refl _) _⟩
  · go_enter Try.func21, Try.ntmps21
    go_wp2_with fail
    go_ret2
    exact ⟨rfl, (Below.refl _ _).alloc (Nat.le_refl _) _⟩
end Go.Proofs.Ythmeehmobcaadaa.Va
