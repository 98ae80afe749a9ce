/- exprKids, whole. -/
import Derived.Test.YtaonojimpfhkfaaAst8
namespace Go.Proofs.Ytaonojimpfhkfaa.As
open Go.RowKit Go.ChangeShapes Go.WideShapes Go.ChangeAt

set_option maxRecDepth 100000 in
set_option maxHeartbeats 4000000 in
theorem ex_def {w : World} {c : Nat} {A : Option Addr} {ks : List Int} (k loc num : Int) (text : ByteArray) (ka : Option Addr) (nk kc : Nat) (hk : ∀ x ∈ [9, 15, 10, 14, 23, 11, 12, 13, 17, 18, 19, 20, 21, 22, 24], ¬ k = (x : Int)) :
    Calls Try.prog 57 #[.agg #[.int .i64 k, .int .i64 loc, .string text, .int .i64 num, .slice ka nk kc], .slice A ks.length c] w fun e w' => e = .returned (.bool (decide (ks.length = 0))) ∧ Below w.heap.size w w' := by
  have b9 : (k == 9) = false := by simpa using hk 9 (by simp)
  have b15 : (k == 15) = false := by simpa using hk 15 (by simp)
  have b10 : (k == 10) = false := by simpa using hk 10 (by simp)
  have b14 : (k == 14) = false := by simpa using hk 14 (by simp)
  have b23 : (k == 23) = false := by simpa using hk 23 (by simp)
  have b11 : (k == 11) = false := by simpa using hk 11 (by simp)
  have b12 : (k == 12) = false := by simpa using hk 12 (by simp)
  have b13 : (k == 13) = false := by simpa using hk 13 (by simp)
  have b17 : (k == 17) = false := by simpa using hk 17 (by simp)
  have b18 : (k == 18) = false := by simpa using hk 18 (by simp)
  have b19 : (k == 19) = false := by simpa using hk 19 (by simp)
  have b20 : (k == 20) = false := by simpa using hk 20 (by simp)
  have b21 : (k == 21) = false := by simpa using hk 21 (by simp)
  have b22 : (k == 22) = false := by simpa using hk 22 (by simp)
  have b24 : (k == 24) = false := by simpa using hk 24 (by simp)
  have HB := Lib.hid (bel1 w (.cells #[.int .i64 k, .int .i64 loc, .string text, .int .i64 num, .slice ka nk kc] 37))
  clear hk
  by_cases h0 : ks.length = 0
  · have hz : ((ks.length : Int) == 0) = true := by simp [h0]
    have HE : Hid (decide (ks.length = 0) = true) := by show _ = _; rw [decide_eq_true h0]
    clear h0
    go_enter Try.func57, Try.ntmps57
    go_wp2_with fail
    go_ret
    exact ⟨ret_b HE.out.symm, HB.out⟩
  · have hz : ((ks.length : Int) == 0) = false := by simp; exact fun e => h0 (by rw [e]; rfl)
    have HE : Hid (decide (ks.length = 0) = false) := by show _ = _; rw [decide_eq_false h0]
    clear h0
    go_enter Try.func57, Try.ntmps57
    go_wp2_with fail
    go_ret
    exact ⟨ret_b HE.out.symm, HB.out⟩
theorem exB_def {k loc num : Int} {text : ByteArray} {kids ks : List Int} {ka : Option Addr} {kc : Nat} (hk : ∀ x ∈ [9, 15, 10, 14, 23, 11, 12, 13, 17, 18, 19, 20, 21, 22, 24], ¬ k = (x : Int)) : exB ⟨k, loc, text, num, kids, ka, kc⟩ ks = decide (ks.length = 0) := by
  have a : ∀ x : Int, x ∈ [9, 15, 10, 14, 23, 11, 12, 13, 17, 18, 19, 20, 21, 22, 24] → ¬ k = x := hk
  unfold exB
  simp only
  rw [if_neg (a 9 (by simp)), if_neg (a 15 (by simp)), if_neg (fun h => by rcases h with h | h | h; exact a 10 (by simp) h; exact a 14 (by simp) h; exact a 23 (by simp) h), if_neg (a 11 (by simp)), if_neg (a 12 (by simp)), if_neg (a 13 (by simp)), if_neg (a 17 (by simp)), if_neg (a 18 (by simp)), if_neg (a 19 (by simp)), if_neg (a 20 (by simp)), if_neg (a 21 (by simp)), if_neg (a 22 (by simp)), if_neg (a 24 (by simp))]
theorem exprKids_any {w : World} {c : Nat} {A : Option Addr} {ks : List Int} (n : Nd) (h : RowI w w.heap.size A ks) (hl : ks.length ≤ 1000000) (hlc : ks.length ≤ c) :
    Calls Try.prog 57 #[nv n, .slice A ks.length c] w fun e w' => e = .returned (.bool (exB n ks)) ∧ Below w.heap.size w w' := by
  obtain ⟨k, loc, text, num, kids, ka, kc⟩ := n
  unfold nv
  simp only
  by_cases h9 : k = 9
  · subst h9
    by_cases hd : text.toList = del
    · have e : exB ⟨9, loc, text, num, kids, ka, kc⟩ ks = rowB ks [.tg] := if_pos hd
      rw [e]
      exact ex_9d loc num text ka kids.length kc h hl hd
    · have e : exB ⟨9, loc, text, num, kids, ka, kc⟩ ks = rowB ks [.e] := if_neg hd
      rw [e]
      exact ex_9 loc num text ka kids.length kc h hl hd
  by_cases h15 : k = 15
  · subst h15
    have e : exB ⟨15, loc, text, num, kids, ka, kc⟩ ks = (rowB ks [.e]) := rfl
    rw [e]
    exact ex_15 loc num text ka kids.length kc h hl
  by_cases h10 : k = 10
  · subst h10
    have e : exB ⟨10, loc, text, num, kids, ka, kc⟩ ks = (rowB ks [.e, .e]) := rfl
    rw [e]
    exact ex_10 loc num text ka kids.length kc h hl
  by_cases h14 : k = 14
  · subst h14
    have e : exB ⟨14, loc, text, num, kids, ka, kc⟩ ks = (rowB ks [.e, .e]) := rfl
    rw [e]
    exact ex_14 loc num text ka kids.length kc h hl
  by_cases h23 : k = 23
  · subst h23
    have e : exB ⟨23, loc, text, num, kids, ka, kc⟩ ks = (rowB ks [.e, .e]) := rfl
    rw [e]
    exact ex_23 loc num text ka kids.length kc h hl
  by_cases h11 : k = 11
  · subst h11
    have e : exB ⟨11, loc, text, num, kids, ka, kc⟩ ks = (rowB ks [.e, .e, .e]) := rfl
    rw [e]
    exact ex_11 loc num text ka kids.length kc h hl
  by_cases h12 : k = 12
  · subst h12
    have e : exB ⟨12, loc, text, num, kids, ka, kc⟩ ks = (rowB ks [.tg, .e]) := rfl
    rw [e]
    exact ex_12 loc num text ka kids.length kc h hl
  by_cases h13 : k = 13
  · subst h13
    have e : exB ⟨13, loc, text, num, kids, ka, kc⟩ ks = (rowB ks [.tg]) := rfl
    rw [e]
    exact ex_13 loc num text ka kids.length kc h hl
  by_cases h17 : k = 17
  · subst h17
    have e : exB ⟨17, loc, text, num, kids, ka, kc⟩ ks = (headB ks .e .e) := rfl
    rw [e]
    exact ex_17 loc num text ka kids.length kc h hl hlc
  by_cases h18 : k = 18
  · subst h18
    have e : exB ⟨18, loc, text, num, kids, ka, kc⟩ ks = (allB ks .e) := rfl
    rw [e]
    exact ex_18 loc num text ka kids.length kc h hl
  by_cases h19 : k = 19
  · subst h19
    have e : exB ⟨19, loc, text, num, kids, ka, kc⟩ ks = (decide (ks.length % 2 = 0) && allB ks .e) := rfl
    rw [e]
    exact ex_19 loc num text ka kids.length kc h hl
  by_cases h20 : k = 20
  · subst h20
    have e : exB ⟨20, loc, text, num, kids, ka, kc⟩ ks = (fnB num ks) := rfl
    rw [e]
    exact ex_20 loc num text ka kids.length kc h hl hlc
  by_cases h21 : k = 21
  · subst h21
    have e : exB ⟨21, loc, text, num, kids, ka, kc⟩ ks = (headB ks .pe (.one [23])) := rfl
    rw [e]
    exact ex_21 loc num text ka kids.length kc h hl hlc
  by_cases h22 : k = 22
  · subst h22
    have e : exB ⟨22, loc, text, num, kids, ka, kc⟩ ks = (rowB ks [.pe]) := rfl
    rw [e]
    exact ex_22 loc num text ka kids.length kc h hl
  by_cases h24 : k = 24
  · subst h24
    have e : exB ⟨24, loc, text, num, kids, ka, kc⟩ ks = (headB ks .pe .s) := rfl
    rw [e]
    exact ex_24 loc num text ka kids.length kc h hl hlc
  have hk : ∀ x ∈ [9, 15, 10, 14, 23, 11, 12, 13, 17, 18, 19, 20, 21, 22, 24], ¬ k = (x : Int) := by
    intro x hx
    simp only [List.mem_cons, List.not_mem_nil, or_false] at hx
    rcases hx with rfl | rfl | rfl | rfl | rfl | rfl | rfl | rfl | rfl | rfl | rfl | rfl | rfl | rfl | rfl <;> assumption
  rw [exB_def hk]
  exact ex_def k loc num text ka kids.length kc hk
end Go.Proofs.Ytaonojimpfhkfaa.As
