/- named, numbered, texted, alone: may a node be, by itself? -/
import Derived.Test.YtaonojimpfhkfaaAstC
namespace Go.Proofs.Ytaonojimpfhkfaa.As
open Go.RowKit Go.ChangeShapes Go.WideShapes Go.ChangeAt Go.Proofs.Ytaonojimpfhkfaa.Lx

/-- What a name is, by the layers below. -/
def PW : Words := ⟨fun l => decide (0 < l.length) && named l 0, kws.contains⟩
theorem list_size (s : ByteArray) : s.toList.length = s.size := by rw [ByteArray.toList_eq]; exact size_list s
theorem named_any (s : ByteArray) (hs : s.size ≤ 1000000) (w : World) : Calls Try.prog 59 #[.string s] w fun e w' => e = .returned (.bool (nmd PW s.toList)) ∧ w = w' := by
  generalize hR : nmd PW s.toList = R
  have HR := Lib.hid hR
  clear hR
  have h1 := name_any s (by omega)
  rw [← ByteArray.toList_eq] at h1
  have HN := Lib.hid h1
  have HK := Lib.hid (keyword_any s)
  have HE : Hid (nmd PW s.toList = ((decide (0 < s.size) && named s.toList 0) && !(kws.contains s.toList))) := by
    show _ = _
    unfold nmd PW
    simp only
    rw [list_size]
  clear h1
  generalize (decide (0 < s.size) && named s.toList 0) = a at *
  generalize kws.contains s.toList = b at *
  cases a
  all_goals
    go_enter Try.func59, Try.ntmps59
    go_wp2_with (first | (go_at_call 66; refine (HN.out _).mono ?_; rintro e w' ⟨rfl, rfl⟩) | (go_at_call 67; refine (HK.out _).mono ?_; rintro e w' ⟨rfl, rfl⟩))
    go_ret
    exact ⟨ret_b (by rw [← HR.out, HE.out]; rfl), rfl⟩
set_option maxRecDepth 100000 in
set_option maxHeartbeats 4000000 in
theorem nu_4 {w : World} (loc num : Int) (text : ByteArray) (ka : Option Addr) (nk kc : Nat) :
    Calls Try.prog 52 #[.agg #[.int .i64 4, .int .i64 loc, .string text, .int .i64 num, .slice ka nk kc]] w fun e w' => e = .returned (.bool (true)) ∧ Below w.heap.size w w' := by
  have HB := Lib.hid (bel1 w (.cells #[.int .i64 4, .int .i64 loc, .string text, .int .i64 num, .slice ka nk kc] 37))
  go_enter Try.func52, Try.ntmps52
  go_wp2_with fail
  go_ret
  exact ⟨rfl, HB.out⟩
set_option maxRecDepth 100000 in
set_option maxHeartbeats 4000000 in
theorem nu_25 {w : World} (loc num : Int) (text : ByteArray) (ka : Option Addr) (nk kc : Nat) :
    Calls Try.prog 52 #[.agg #[.int .i64 25, .int .i64 loc, .string text, .int .i64 num, .slice ka nk kc]] w fun e w' => e = .returned (.bool (true)) ∧ Below w.heap.size w w' := by
  have HB := Lib.hid (bel1 w (.cells #[.int .i64 25, .int .i64 loc, .string text, .int .i64 num, .slice ka nk kc] 37))
  go_enter Try.func52, Try.ntmps52
  go_wp2_with fail
  go_ret
  exact ⟨rfl, HB.out⟩
set_option maxRecDepth 100000 in
set_option maxHeartbeats 4000000 in
theorem nu_20 {w : World} (loc num : Int) (text : ByteArray) (ka : Option Addr) (nk kc : Nat) :
    Calls Try.prog 52 #[.agg #[.int .i64 20, .int .i64 loc, .string text, .int .i64 num, .slice ka nk kc]] w fun e w' => e = .returned (.bool (true)) ∧ Below w.heap.size w w' := by
  have HB := Lib.hid (bel1 w (.cells #[.int .i64 20, .int .i64 loc, .string text, .int .i64 num, .slice ka nk kc] 37))
  go_enter Try.func52, Try.ntmps52
  go_wp2_with fail
  go_ret
  exact ⟨rfl, HB.out⟩
set_option maxRecDepth 100000 in
set_option maxHeartbeats 4000000 in
theorem nu_13 {w : World} (loc num : Int) (text : ByteArray) (ka : Option Addr) (nk kc : Nat) :
    Calls Try.prog 52 #[.agg #[.int .i64 13, .int .i64 loc, .string text, .int .i64 num, .slice ka nk kc]] w fun e w' => e = .returned (.bool (decide (num = 0) || decide (num = 1))) ∧ Below w.heap.size w w' := by
  have HB := Lib.hid (bel1 w (.cells #[.int .i64 13, .int .i64 loc, .string text, .int .i64 num, .slice ka nk kc] 37))
  by_cases h0 : num = 0
  · subst h0
    go_enter Try.func52, Try.ntmps52
    go_wp2_with fail
    go_ret
    exact ⟨rfl, HB.out⟩
  · have hb : (num == 0) = false := by simpa using h0
    by_cases h1 : num = 1
    · subst h1
      go_enter Try.func52, Try.ntmps52
      go_wp2_with fail
      go_ret
      exact ⟨rfl, HB.out⟩
    · have hb1 : (num == 1) = false := by simpa using h1
      have HE : Hid ((decide (num = 0) || decide (num = 1)) = false) := by show _ = _; rw [decide_eq_false h0, decide_eq_false h1]; rfl
      clear h0 h1
      go_enter Try.func52, Try.ntmps52
      go_wp2_with fail
      go_ret
      exact ⟨ret_b HE.out.symm, HB.out⟩
set_option maxRecDepth 100000 in
set_option maxHeartbeats 4000000 in
theorem nu_def {w : World} (k loc num : Int) (text : ByteArray) (ka : Option Addr) (nk kc : Nat) (hk : ∀ x ∈ [4, 25, 20, 13], ¬ k = (x : Int)) :
    Calls Try.prog 52 #[.agg #[.int .i64 k, .int .i64 loc, .string text, .int .i64 num, .slice ka nk kc]] w fun e w' => e = .returned (.bool (decide (num = 0))) ∧ Below w.heap.size w w' := by
  have b4 : (k == 4) = false := by simpa using hk 4 (by simp)
  have b25 : (k == 25) = false := by simpa using hk 25 (by simp)
  have b20 : (k == 20) = false := by simpa using hk 20 (by simp)
  have b13 : (k == 13) = false := by simpa using hk 13 (by simp)
  have HB := Lib.hid (bel1 w (.cells #[.int .i64 k, .int .i64 loc, .string text, .int .i64 num, .slice ka nk kc] 37))
  clear hk
  by_cases h0 : num = 0
  · subst h0
    go_enter Try.func52, Try.ntmps52
    go_wp2_with fail
    go_ret
    exact ⟨rfl, HB.out⟩
  · have hb : (num == 0) = false := by simpa using h0
    have HE : Hid (decide (num = 0) = false) := decide_eq_false h0
    clear h0
    go_enter Try.func52, Try.ntmps52
    go_wp2_with fail
    go_ret
    exact ⟨ret_b HE.out.symm, HB.out⟩
theorem numbered_any {w : World} (n : Nd) : Calls Try.prog 52 #[nv n] w fun e w' => e = .returned (.bool (numB n.kind n.num)) ∧ Below w.heap.size w w' := by
  obtain ⟨k, loc, text, num, kids, ka, kc⟩ := n
  unfold nv
  simp only
  by_cases h4 : k = 4
  · subst h4
    have e : numB 4 num = (true) := rfl
    rw [e]
    exact nu_4 loc num text ka kids.length kc
  by_cases h25 : k = 25
  · subst h25
    have e : numB 25 num = (true) := rfl
    rw [e]
    exact nu_25 loc num text ka kids.length kc
  by_cases h20 : k = 20
  · subst h20
    have e : numB 20 num = (true) := rfl
    rw [e]
    exact nu_20 loc num text ka kids.length kc
  by_cases h13 : k = 13
  · subst h13
    have e : numB 13 num = (decide (num = 0) || decide (num = 1)) := rfl
    rw [e]
    exact nu_13 loc num text ka kids.length kc
  have hk : ∀ x ∈ [4, 25, 20, 13], ¬ k = (x : Int) := by
    intro x hx
    simp only [List.mem_cons, List.not_mem_nil, or_false] at hx
    rcases hx with rfl | rfl | rfl | rfl <;> assumption
  have e : numB k num = decide (num = 0) := by
    unfold numB
    rw [if_neg (fun h => by rcases h with h | h | h; exact h4 h; exact h25 h; exact h20 h), if_neg h13]
  rw [e]
  exact nu_def k loc num text ka kids.length kc hk
set_option maxRecDepth 100000 in
set_option maxHeartbeats 4000000 in
theorem tx_5 {w : World} (loc num : Int) (text : ByteArray) (ka : Option Addr) (nk kc : Nat) :
    Calls Try.prog 51 #[.agg #[.int .i64 5, .int .i64 loc, .string text, .int .i64 num, .slice ka nk kc]] w fun e w' => e = .returned (.bool (true)) ∧ Below w.heap.size w w' := by
  have HB := Lib.hid (bel1 w (.cells #[.int .i64 5, .int .i64 loc, .string text, .int .i64 num, .slice ka nk kc] 37))
  go_enter Try.func51, Try.ntmps51
  go_wp2_with fail
  go_ret
  exact ⟨rfl, HB.out⟩
set_option maxRecDepth 100000 in
set_option maxHeartbeats 4000000 in
theorem tx_6 {w : World} (loc num : Int) (text : ByteArray) (ka : Option Addr) (nk kc : Nat) (hs : text.size ≤ 1000000) :
    Calls Try.prog 51 #[.agg #[.int .i64 6, .int .i64 loc, .string text, .int .i64 num, .slice ka nk kc]] w fun e w' => e = .returned (.bool (nmd PW text.toList)) ∧ Below w.heap.size w w' := by
  generalize hR : (nmd PW text.toList) = R
  have HR := Lib.hid hR
  clear hR
  have HB := Lib.hid (bel1 w (.cells #[.int .i64 6, .int .i64 loc, .string text, .int .i64 num, .slice ka nk kc] 37))
  have HC := Lib.hid fun w => named_any text hs w
  clear hs
  go_enter Try.func51, Try.ntmps51
  go_wp2_with fail
  refine (HC.out _).mono ?_
  rintro e w' ⟨rfl, rfl⟩
  go_wp2_with fail
  go_ret
  exact ⟨ret_b HR.out, HB.out⟩
set_option maxRecDepth 100000 in
set_option maxHeartbeats 4000000 in
theorem tx_8 {w : World} (loc num : Int) (text : ByteArray) (ka : Option Addr) (nk kc : Nat) (hs : text.size ≤ 1000000) :
    Calls Try.prog 51 #[.agg #[.int .i64 8, .int .i64 loc, .string text, .int .i64 num, .slice ka nk kc]] w fun e w' => e = .returned (.bool (nmd PW text.toList)) ∧ Below w.heap.size w w' := by
  generalize hR : (nmd PW text.toList) = R
  have HR := Lib.hid hR
  clear hR
  have HB := Lib.hid (bel1 w (.cells #[.int .i64 8, .int .i64 loc, .string text, .int .i64 num, .slice ka nk kc] 37))
  have HC := Lib.hid fun w => named_any text hs w
  clear hs
  go_enter Try.func51, Try.ntmps51
  go_wp2_with fail
  refine (HC.out _).mono ?_
  rintro e w' ⟨rfl, rfl⟩
  go_wp2_with fail
  go_ret
  exact ⟨ret_b HR.out, HB.out⟩
set_option maxRecDepth 100000 in
set_option maxHeartbeats 4000000 in
theorem tx_15 {w : World} (loc num : Int) (text : ByteArray) (ka : Option Addr) (nk kc : Nat) (hs : text.size ≤ 1000000) :
    Calls Try.prog 51 #[.agg #[.int .i64 15, .int .i64 loc, .string text, .int .i64 num, .slice ka nk kc]] w fun e w' => e = .returned (.bool (nmd PW text.toList)) ∧ Below w.heap.size w w' := by
  generalize hR : (nmd PW text.toList) = R
  have HR := Lib.hid hR
  clear hR
  have HB := Lib.hid (bel1 w (.cells #[.int .i64 15, .int .i64 loc, .string text, .int .i64 num, .slice ka nk kc] 37))
  have HC := Lib.hid fun w => named_any text hs w
  clear hs
  go_enter Try.func51, Try.ntmps51
  go_wp2_with fail
  refine (HC.out _).mono ?_
  rintro e w' ⟨rfl, rfl⟩
  go_wp2_with fail
  go_ret
  exact ⟨ret_b HR.out, HB.out⟩
set_option maxRecDepth 100000 in
set_option maxHeartbeats 4000000 in
theorem tx_22 {w : World} (loc num : Int) (text : ByteArray) (ka : Option Addr) (nk kc : Nat) (hs : text.size ≤ 1000000) :
    Calls Try.prog 51 #[.agg #[.int .i64 22, .int .i64 loc, .string text, .int .i64 num, .slice ka nk kc]] w fun e w' => e = .returned (.bool (nmd PW text.toList)) ∧ Below w.heap.size w w' := by
  generalize hR : (nmd PW text.toList) = R
  have HR := Lib.hid hR
  clear hR
  have HB := Lib.hid (bel1 w (.cells #[.int .i64 22, .int .i64 loc, .string text, .int .i64 num, .slice ka nk kc] 37))
  have HC := Lib.hid fun w => named_any text hs w
  clear hs
  go_enter Try.func51, Try.ntmps51
  go_wp2_with fail
  refine (HC.out _).mono ?_
  rintro e w' ⟨rfl, rfl⟩
  go_wp2_with fail
  go_ret
  exact ⟨ret_b HR.out, HB.out⟩
set_option maxRecDepth 100000 in
set_option maxHeartbeats 4000000 in
theorem tx_27 {w : World} (loc num : Int) (text : ByteArray) (ka : Option Addr) (nk kc : Nat) (hs : text.size ≤ 1000000) :
    Calls Try.prog 51 #[.agg #[.int .i64 27, .int .i64 loc, .string text, .int .i64 num, .slice ka nk kc]] w fun e w' => e = .returned (.bool (nmd PW text.toList)) ∧ Below w.heap.size w w' := by
  generalize hR : (nmd PW text.toList) = R
  have HR := Lib.hid hR
  clear hR
  have HB := Lib.hid (bel1 w (.cells #[.int .i64 27, .int .i64 loc, .string text, .int .i64 num, .slice ka nk kc] 37))
  have HC := Lib.hid fun w => named_any text hs w
  clear hs
  go_enter Try.func51, Try.ntmps51
  go_wp2_with fail
  refine (HC.out _).mono ?_
  rintro e w' ⟨rfl, rfl⟩
  go_wp2_with fail
  go_ret
  exact ⟨ret_b HR.out, HB.out⟩
set_option maxRecDepth 100000 in
set_option maxHeartbeats 4000000 in
theorem tx_40 {w : World} (loc num : Int) (text : ByteArray) (ka : Option Addr) (nk kc : Nat) (hs : text.size ≤ 1000000) :
    Calls Try.prog 51 #[.agg #[.int .i64 40, .int .i64 loc, .string text, .int .i64 num, .slice ka nk kc]] w fun e w' => e = .returned (.bool (nmd PW text.toList)) ∧ Below w.heap.size w w' := by
  generalize hR : (nmd PW text.toList) = R
  have HR := Lib.hid hR
  clear hR
  have HB := Lib.hid (bel1 w (.cells #[.int .i64 40, .int .i64 loc, .string text, .int .i64 num, .slice ka nk kc] 37))
  have HC := Lib.hid fun w => named_any text hs w
  clear hs
  go_enter Try.func51, Try.ntmps51
  go_wp2_with fail
  refine (HC.out _).mono ?_
  rintro e w' ⟨rfl, rfl⟩
  go_wp2_with fail
  go_ret
  exact ⟨ret_b HR.out, HB.out⟩
set_option maxRecDepth 100000 in
set_option maxHeartbeats 4000000 in
theorem tx_41 {w : World} (loc num : Int) (text : ByteArray) (ka : Option Addr) (nk kc : Nat) (hs : text.size ≤ 1000000) :
    Calls Try.prog 51 #[.agg #[.int .i64 41, .int .i64 loc, .string text, .int .i64 num, .slice ka nk kc]] w fun e w' => e = .returned (.bool (nmd PW text.toList)) ∧ Below w.heap.size w w' := by
  generalize hR : (nmd PW text.toList) = R
  have HR := Lib.hid hR
  clear hR
  have HB := Lib.hid (bel1 w (.cells #[.int .i64 41, .int .i64 loc, .string text, .int .i64 num, .slice ka nk kc] 37))
  have HC := Lib.hid fun w => named_any text hs w
  clear hs
  go_enter Try.func51, Try.ntmps51
  go_wp2_with fail
  refine (HC.out _).mono ?_
  rintro e w' ⟨rfl, rfl⟩
  go_wp2_with fail
  go_ret
  exact ⟨ret_b HR.out, HB.out⟩
set_option maxRecDepth 100000 in
set_option maxHeartbeats 4000000 in
theorem tx_42 {w : World} (loc num : Int) (text : ByteArray) (ka : Option Addr) (nk kc : Nat) (hs : text.size ≤ 1000000) :
    Calls Try.prog 51 #[.agg #[.int .i64 42, .int .i64 loc, .string text, .int .i64 num, .slice ka nk kc]] w fun e w' => e = .returned (.bool (nmd PW text.toList)) ∧ Below w.heap.size w w' := by
  generalize hR : (nmd PW text.toList) = R
  have HR := Lib.hid hR
  clear hR
  have HB := Lib.hid (bel1 w (.cells #[.int .i64 42, .int .i64 loc, .string text, .int .i64 num, .slice ka nk kc] 37))
  have HC := Lib.hid fun w => named_any text hs w
  clear hs
  go_enter Try.func51, Try.ntmps51
  go_wp2_with fail
  refine (HC.out _).mono ?_
  rintro e w' ⟨rfl, rfl⟩
  go_wp2_with fail
  go_ret
  exact ⟨ret_b HR.out, HB.out⟩
set_option maxRecDepth 100000 in
set_option maxHeartbeats 4000000 in
theorem tx_25 {w : World} (loc num : Int) (text : ByteArray) (ka : Option Addr) (nk kc : Nat) (hs : text.size ≤ 1000000) :
    Calls Try.prog 51 #[.agg #[.int .i64 25, .int .i64 loc, .string text, .int .i64 num, .slice ka nk kc]] w fun e w' => e = .returned (.bool (nmd PW text.toList)) ∧ Below w.heap.size w w' := by
  generalize hR : (nmd PW text.toList) = R
  have HR := Lib.hid hR
  clear hR
  have HB := Lib.hid (bel1 w (.cells #[.int .i64 25, .int .i64 loc, .string text, .int .i64 num, .slice ka nk kc] 37))
  have HC := Lib.hid fun w => named_any text hs w
  clear hs
  go_enter Try.func51, Try.ntmps51
  go_wp2_with fail
  refine (HC.out _).mono ?_
  rintro e w' ⟨rfl, rfl⟩
  go_wp2_with fail
  go_ret
  exact ⟨ret_b HR.out, HB.out⟩
set_option maxRecDepth 100000 in
set_option maxHeartbeats 4000000 in
theorem tx_9 {w : World} (loc num : Int) (text : ByteArray) (ka : Option Addr) (nk kc : Nat) :
    Calls Try.prog 51 #[.agg #[.int .i64 9, .int .i64 loc, .string text, .int .i64 num, .slice ka nk kc]] w fun e w' => e = .returned (.bool (uns.contains text.toList)) ∧ Below w.heap.size w w' := by
  generalize hR : (uns.contains text.toList) = R
  have HR := Lib.hid hR
  clear hR
  have HB := Lib.hid (bel1 w (.cells #[.int .i64 9, .int .i64 loc, .string text, .int .i64 num, .slice ka nk kc] 37))
  have hc := unary_any text
  simp only [HR.out] at hc
  have HC := Lib.hid hc
  clear hc
  go_enter Try.func51, Try.ntmps51
  go_wp2_with fail
  refine (HC.out _).mono ?_
  rintro e w' ⟨rfl, rfl⟩
  go_wp2_with fail
  go_ret
  exact ⟨rfl, HB.out⟩
set_option maxRecDepth 100000 in
set_option maxHeartbeats 4000000 in
theorem tx_12 {w : World} (loc num : Int) (text : ByteArray) (ka : Option Addr) (nk kc : Nat) :
    Calls Try.prog 51 #[.agg #[.int .i64 12, .int .i64 loc, .string text, .int .i64 num, .slice ka nk kc]] w fun e w' => e = .returned (.bool (asg.contains text.toList)) ∧ Below w.heap.size w w' := by
  generalize hR : (asg.contains text.toList) = R
  have HR := Lib.hid hR
  clear hR
  have HB := Lib.hid (bel1 w (.cells #[.int .i64 12, .int .i64 loc, .string text, .int .i64 num, .slice ka nk kc] 37))
  have hc := assign_any text
  simp only [HR.out] at hc
  have HC := Lib.hid hc
  clear hc
  go_enter Try.func51, Try.ntmps51
  go_wp2_with fail
  refine (HC.out _).mono ?_
  rintro e w' ⟨rfl, rfl⟩
  go_wp2_with fail
  go_ret
  exact ⟨rfl, HB.out⟩
set_option maxRecDepth 100000 in
set_option maxHeartbeats 4000000 in
theorem tx_13 {w : World} (loc num : Int) (text : ByteArray) (ka : Option Addr) (nk kc : Nat) :
    Calls Try.prog 51 #[.agg #[.int .i64 13, .int .i64 loc, .string text, .int .i64 num, .slice ka nk kc]] w fun e w' => e = .returned (.bool (stp.contains text.toList)) ∧ Below w.heap.size w w' := by
  generalize hR : (stp.contains text.toList) = R
  have HR := Lib.hid hR
  clear hR
  have HB := Lib.hid (bel1 w (.cells #[.int .i64 13, .int .i64 loc, .string text, .int .i64 num, .slice ka nk kc] 37))
  have hc := step_any text
  simp only [HR.out] at hc
  have HC := Lib.hid hc
  clear hc
  go_enter Try.func51, Try.ntmps51
  go_wp2_with fail
  refine (HC.out _).mono ?_
  rintro e w' ⟨rfl, rfl⟩
  go_wp2_with fail
  go_ret
  exact ⟨rfl, HB.out⟩
set_option maxRecDepth 100000 in
set_option maxHeartbeats 4000000 in
theorem tx_10 {w : World} (loc num : Int) (text : ByteArray) (ka : Option Addr) (nk kc : Nat) :
    Calls Try.prog 51 #[.agg #[.int .i64 10, .int .i64 loc, .string text, .int .i64 num, .slice ka nk kc]] w fun e w' => e = .returned (.bool (decide (0 ≤ lev text.toList))) ∧ Below w.heap.size w w' := by
  have HC := Lib.hid fun w => level_any text w
  generalize lev text.toList = v at *
  by_cases h0 : 0 ≤ v
  · have HE : Hid (decide (0 ≤ v) = true) := decide_eq_true h0
    have HB := Lib.hid (bel1 w (.cells #[.int .i64 10, .int .i64 loc, .string text, .int .i64 num, .slice ka nk kc] 37))
    go_enter Try.func51, Try.ntmps51
    go_wp2_with fail
    refine (HC.out _).mono ?_
    rintro e w' ⟨rfl, rfl⟩
    go_wp2_with fail
    go_ret
    exact ⟨ret_b HE.out.symm, HB.out⟩
  · have HE : Hid (decide (0 ≤ v) = false) := decide_eq_false h0
    have HB := Lib.hid (bel1 w (.cells #[.int .i64 10, .int .i64 loc, .string text, .int .i64 num, .slice ka nk kc] 37))
    go_enter Try.func51, Try.ntmps51
    go_wp2_with fail
    refine (HC.out _).mono ?_
    rintro e w' ⟨rfl, rfl⟩
    go_wp2_with fail
    go_ret
    exact ⟨by first | rfl | exact ret_b HE.out.symm, HB.out⟩
set_option maxRecDepth 100000 in
set_option maxHeartbeats 4000000 in
theorem tx_16 {w : World} (loc num : Int) (text : ByteArray) (ka : Option Addr) (nk kc : Nat) (hs : text.size ≤ 1000000) :
    Calls Try.prog 51 #[.agg #[.int .i64 16, .int .i64 loc, .string text, .int .i64 num, .slice ka nk kc]] w fun e w' => e = .returned (.bool (nmd PW text.toList || decide (text.toList = ctor))) ∧ Below w.heap.size w w' := by
  have HC := Lib.hid fun w => named_any text hs w
  generalize nmd PW text.toList = a at *
  have HB := Lib.hid (bel1 w (.cells #[.int .i64 16, .int .i64 loc, .string text, .int .i64 num, .slice ka nk kc] 37))
  clear hs
  cases a
  · by_cases h0 : text.toList = ctor
    · have hx : (text.toList == [99, 111, 110, 115, 116, 114, 117, 99, 116, 111, 114]) = true := by simpa [ctor] using h0
      have HE : Hid ((false || decide (text.toList = ctor)) = true) := by show _ = _; rw [decide_eq_true h0]; rfl
      clear h0
      go_enter Try.func51, Try.ntmps51
      go_wp2_with fail
      refine (HC.out _).mono ?_
      rintro e w' ⟨rfl, rfl⟩
      go_wp2_with fail
      go_ret
      exact ⟨ret_b HE.out.symm, HB.out⟩
    · have hx : (text.toList == [99, 111, 110, 115, 116, 114, 117, 99, 116, 111, 114]) = false := by simpa [ctor] using h0
      have HE : Hid ((false || decide (text.toList = ctor)) = false) := by show _ = _; rw [decide_eq_false h0]; rfl
      clear h0
      go_enter Try.func51, Try.ntmps51
      go_wp2_with fail
      refine (HC.out _).mono ?_
      rintro e w' ⟨rfl, rfl⟩
      go_wp2_with fail
      go_ret
      exact ⟨ret_b HE.out.symm, HB.out⟩
  · go_enter Try.func51, Try.ntmps51
    go_wp2_with fail
    refine (HC.out _).mono ?_
    rintro e w' ⟨rfl, rfl⟩
    go_wp2_with fail
    go_ret
    exact ⟨rfl, HB.out⟩
set_option maxRecDepth 100000 in
set_option maxHeartbeats 4000000 in
theorem tx_20 {w : World} (loc num : Int) (text : ByteArray) (ka : Option Addr) (nk kc : Nat) (hs : text.size ≤ 1000000) :
    Calls Try.prog 51 #[.agg #[.int .i64 20, .int .i64 loc, .string text, .int .i64 num, .slice ka nk kc]] w fun e w' => e = .returned (.bool (decide (text.toList = []) || nmd PW text.toList)) ∧ Below w.heap.size w w' := by
  have HC := Lib.hid fun w => named_any text hs w
  generalize nmd PW text.toList = a at *
  have HB := Lib.hid (bel1 w (.cells #[.int .i64 20, .int .i64 loc, .string text, .int .i64 num, .slice ka nk kc] 37))
  clear hs
  by_cases h0 : text.toList = []
  · have hx : text.toList.isEmpty = true := by rw [h0]; rfl
    have HE : Hid ((decide (text.toList = []) || a) = true) := by show _ = _; rw [decide_eq_true h0]; rfl
    clear h0
    go_enter Try.func51, Try.ntmps51
    go_wp2_with fail
    go_ret
    exact ⟨ret_b HE.out.symm, HB.out⟩
  · have hx : text.toList.isEmpty = false := by rw [← Bool.not_eq_true, List.isEmpty_iff]; exact h0
    have HE : Hid ((decide (text.toList = []) || a) = a) := by show _ = _; rw [decide_eq_false h0]; rfl
    clear h0
    go_enter Try.func51, Try.ntmps51
    go_wp2_with fail
    refine (HC.out _).mono ?_
    rintro e w' ⟨rfl, rfl⟩
    go_wp2_with fail
    go_ret
    exact ⟨ret_b HE.out.symm, HB.out⟩
set_option maxRecDepth 100000 in
set_option maxHeartbeats 4000000 in
theorem tx_21 {w : World} (loc num : Int) (text : ByteArray) (ka : Option Addr) (nk kc : Nat) (hs : text.size ≤ 1000000) :
    Calls Try.prog 51 #[.agg #[.int .i64 21, .int .i64 loc, .string text, .int .i64 num, .slice ka nk kc]] w fun e w' => e = .returned (.bool (decide (text.toList = []) || nmd PW text.toList)) ∧ Below w.heap.size w w' := by
  have HC := Lib.hid fun w => named_any text hs w
  generalize nmd PW text.toList = a at *
  have HB := Lib.hid (bel1 w (.cells #[.int .i64 21, .int .i64 loc, .string text, .int .i64 num, .slice ka nk kc] 37))
  clear hs
  by_cases h0 : text.toList = []
  · have hx : text.toList.isEmpty = true := by rw [h0]; rfl
    have HE : Hid ((decide (text.toList = []) || a) = true) := by show _ = _; rw [decide_eq_true h0]; rfl
    clear h0
    go_enter Try.func51, Try.ntmps51
    go_wp2_with fail
    go_ret
    exact ⟨ret_b HE.out.symm, HB.out⟩
  · have hx : text.toList.isEmpty = false := by rw [← Bool.not_eq_true, List.isEmpty_iff]; exact h0
    have HE : Hid ((decide (text.toList = []) || a) = a) := by show _ = _; rw [decide_eq_false h0]; rfl
    clear h0
    go_enter Try.func51, Try.ntmps51
    go_wp2_with fail
    refine (HC.out _).mono ?_
    rintro e w' ⟨rfl, rfl⟩
    go_wp2_with fail
    go_ret
    exact ⟨ret_b HE.out.symm, HB.out⟩
set_option maxRecDepth 100000 in
set_option maxHeartbeats 4000000 in
theorem tx_def {w : World} (k loc num : Int) (text : ByteArray) (ka : Option Addr) (nk kc : Nat) (hk : ∀ x ∈ [5, 6, 8, 15, 22, 27, 40, 41, 42, 25, 16, 20, 21, 9, 10, 12, 13, 33], ¬ k = (x : Int)) :
    Calls Try.prog 51 #[.agg #[.int .i64 k, .int .i64 loc, .string text, .int .i64 num, .slice ka nk kc]] w fun e w' => e = .returned (.bool (decide (text.toList = []))) ∧ Below w.heap.size w w' := by
  have b5 : (k == 5) = false := by simpa using hk 5 (by simp)
  have b6 : (k == 6) = false := by simpa using hk 6 (by simp)
  have b8 : (k == 8) = false := by simpa using hk 8 (by simp)
  have b15 : (k == 15) = false := by simpa using hk 15 (by simp)
  have b22 : (k == 22) = false := by simpa using hk 22 (by simp)
  have b27 : (k == 27) = false := by simpa using hk 27 (by simp)
  have b40 : (k == 40) = false := by simpa using hk 40 (by simp)
  have b41 : (k == 41) = false := by simpa using hk 41 (by simp)
  have b42 : (k == 42) = false := by simpa using hk 42 (by simp)
  have b25 : (k == 25) = false := by simpa using hk 25 (by simp)
  have b16 : (k == 16) = false := by simpa using hk 16 (by simp)
  have b20 : (k == 20) = false := by simpa using hk 20 (by simp)
  have b21 : (k == 21) = false := by simpa using hk 21 (by simp)
  have b9 : (k == 9) = false := by simpa using hk 9 (by simp)
  have b10 : (k == 10) = false := by simpa using hk 10 (by simp)
  have b12 : (k == 12) = false := by simpa using hk 12 (by simp)
  have b13 : (k == 13) = false := by simpa using hk 13 (by simp)
  have b33 : (k == 33) = false := by simpa using hk 33 (by simp)
  have HB := Lib.hid (bel1 w (.cells #[.int .i64 k, .int .i64 loc, .string text, .int .i64 num, .slice ka nk kc] 37))
  clear hk
  by_cases h0 : text.toList = []
  · have hx : text.toList.isEmpty = true := by rw [h0]; rfl
    have HE : Hid (decide (text.toList = []) = true) := decide_eq_true h0
    clear h0
    go_enter Try.func51, Try.ntmps51
    go_wp2_with fail
    go_ret
    exact ⟨ret_b HE.out.symm, HB.out⟩
  · have hx : text.toList.isEmpty = false := by rw [← Bool.not_eq_true, List.isEmpty_iff]; exact h0
    have HE : Hid (decide (text.toList = []) = false) := decide_eq_false h0
    clear h0
    go_enter Try.func51, Try.ntmps51
    go_wp2_with fail
    go_ret
    exact ⟨ret_b HE.out.symm, HB.out⟩
theorem mk_list (l : List UInt8) : (⟨l.toArray⟩ : ByteArray).toList = l := by rw [ByteArray.toList_eq]
theorem cut_len (l s : List UInt8) : (Lib.cut l s).1.length ≤ l.length ∧ (Lib.cut l s).2.1.length ≤ l.length := by
  unfold Lib.cut
  split
  · simp only [List.length_take, List.length_drop]; omega
  · simp
def fchB (C : List UInt8 × List UInt8 × Bool) (a b : Bool) : Bool := C.2.2 && ((decide (C.1 = []) || a) && (b && decide (C.1 ≠ C.2.1)))
set_option maxRecDepth 100000 in
set_option maxHeartbeats 4000000 in
theorem tx_33 {w : World} (loc num : Int) (text : ByteArray) (ka : Option Addr) (nk kc : Nat) (hs : text.size ≤ 1000000) (m : Int) (hm : w.cell? ⟨0, 0, none⟩ = some (.int .i64 m)) :
    Calls Try.prog 51 #[.agg #[.int .i64 33, .int .i64 loc, .string text, .int .i64 num, .slice ka nk kc]] w fun e w' => e = .returned (.bool (fch PW text.toList)) ∧ Below w.heap.size w w' := by
  have hm1 : (w.alloc (.cells #[.int .i64 33, .int .i64 loc, .string text, .int .i64 num, .slice ka nk kc] 37)).cell? ⟨0, 0, none⟩ = some (.int .i64 m) := by
    have h0 : 0 < w.heap.size := by
      refine Nat.pos_of_ne_zero fun h => ?_
      have e : w.heap = #[] := Array.eq_empty_of_size_eq_zero h
      simp [World.cell?, e] at hm
    exact (World.cell?_of_block (a := ⟨0, 0, none⟩) ((bel1 w _).block 0 h0)).trans hm
  have hC := Try.strings_Cut text ⟨#[9]⟩ m _ (by omega) hm1
  have hl := cut_len text.data.toList [9]
  rw [show text.data.toList = text.toList from (ByteArray.toList_eq _).symm] at hC hl
  have HE : Hid (fch PW text.toList = fchB (Lib.cut text.toList [9]) (nmd PW (Lib.cut text.toList [9]).1) (nmd PW (Lib.cut text.toList [9]).2.1)) := rfl
  rw [list_size] at hl
  rw [show (⟨#[9]⟩ : ByteArray).data.toList = [9] from rfl] at hC
  generalize fch PW text.toList = R at *
  generalize Lib.cut text.toList [9] = C at *
  obtain ⟨K1, K2, ok⟩ := C
  simp only at hC hl HE
  have hn1 := named_any ⟨K1.toArray⟩ (by rw [size_mk]; omega)
  have hn2 := named_any ⟨K2.toArray⟩ (by rw [size_mk]; omega)
  rw [mk_list] at hn1 hn2
  have hl1 := mk_list K1
  have hl2 := mk_list K2
  generalize (⟨K1.toArray⟩ : ByteArray) = s1 at *
  generalize (⟨K2.toArray⟩ : ByteArray) = s2 at *
  subst hl1
  subst hl2
  generalize nmd PW s1.toList = a at *
  generalize nmd PW s2.toList = b at *
  have HC := Lib.hid hC
  have HN1 := Lib.hid hn1
  have HN2 := Lib.hid hn2
  have HB := Lib.hid (bel1 w (.cells #[.int .i64 33, .int .i64 loc, .string text, .int .i64 num, .slice ka nk kc] 37))
  clear hm hm1 hC hl hn1 hn2 hs
  cases ok
  · have HF : Hid (R = false) := HE.out
    clear HE
    go_enter Try.func51, Try.ntmps51
    go_wp2_with fail
    refine HC.out.mono ?_
    rintro e w' ⟨rfl, n1, rfl⟩
    go_wp2_with fail
    go_ret
    exact ⟨ret_b HF.out.symm, below_drewN HB.out _⟩
  · by_cases h0 : s1.toList = []
    · have hx : s1.toList.isEmpty = true := by rw [h0]; rfl
      cases b
      · have HF : Hid (R = false) := by show _ = _; rw [HE.out]; unfold fchB; simp
        clear HE h0
        go_enter Try.func51, Try.ntmps51
        go_wp2_with fail
        refine HC.out.mono ?_
        rintro e w' ⟨rfl, n1, rfl⟩
        go_wp2_with fail
        refine (HN2.out _).mono ?_
        rintro e w' ⟨rfl, rfl⟩
        go_wp2_with fail
        go_ret
        exact ⟨ret_b HF.out.symm, below_drewN HB.out _⟩
      · by_cases h1 : s1.toList = s2.toList
        · have H2 : Hid ((s1.toList != s2.toList) = false) := by show _ = _; simp [h1]
          have HF : Hid (R = false) := by show _ = _; rw [HE.out]; unfold fchB; simp [h1]
          clear HE h0 h1
          go_enter Try.func51, Try.ntmps51
          go_wp2_with fail
          refine HC.out.mono ?_
          rintro e w' ⟨rfl, n1, rfl⟩
          go_wp2_with fail
          refine (HN2.out _).mono ?_
          rintro e w' ⟨rfl, rfl⟩
          go_wp2_with fail
          go_ret
          exact ⟨ret_b (H2.out.trans HF.out.symm), below_drewN HB.out _⟩
        · have H2 : Hid ((s1.toList != s2.toList) = true) := by show _ = _; simpa using h1
          have HF : Hid (R = true) := by show _ = _; rw [HE.out]; unfold fchB; simp only [h0, decide_true, Bool.true_or, Bool.true_and]; rw [h0] at h1; exact decide_eq_true h1
          clear HE h0 h1
          go_enter Try.func51, Try.ntmps51
          go_wp2_with fail
          refine HC.out.mono ?_
          rintro e w' ⟨rfl, n1, rfl⟩
          go_wp2_with fail
          refine (HN2.out _).mono ?_
          rintro e w' ⟨rfl, rfl⟩
          go_wp2_with fail
          go_ret
          exact ⟨ret_b (H2.out.trans HF.out.symm), below_drewN HB.out _⟩
    · have hx : s1.toList.isEmpty = false := by rw [← Bool.not_eq_true, List.isEmpty_iff]; exact h0
      cases a
      · have HF : Hid (R = false) := by show _ = _; rw [HE.out]; unfold fchB; simp [h0]
        clear HE h0
        go_enter Try.func51, Try.ntmps51
        go_wp2_with fail
        refine HC.out.mono ?_
        rintro e w' ⟨rfl, n1, rfl⟩
        go_wp2_with fail
        refine (HN1.out _).mono ?_
        rintro e w' ⟨rfl, rfl⟩
        go_wp2_with fail
        go_ret
        exact ⟨ret_b HF.out.symm, below_drewN HB.out _⟩
      · cases b
        · have HF : Hid (R = false) := by show _ = _; rw [HE.out]; unfold fchB; simp
          clear HE h0
          go_enter Try.func51, Try.ntmps51
          go_wp2_with fail
          refine HC.out.mono ?_
          rintro e w' ⟨rfl, n1, rfl⟩
          go_wp2_with fail
          refine (HN1.out _).mono ?_
          rintro e w' ⟨rfl, rfl⟩
          go_wp2_with fail
          refine (HN2.out _).mono ?_
          rintro e w' ⟨rfl, rfl⟩
          go_wp2_with fail
          go_ret
          exact ⟨ret_b HF.out.symm, below_drewN HB.out _⟩
        · by_cases h1 : s1.toList = s2.toList
          · have H2 : Hid ((s1.toList != s2.toList) = false) := by show _ = _; simp [h1]
            have HF : Hid (R = false) := by show _ = _; rw [HE.out]; unfold fchB; simp [h1]
            clear HE h0 h1
            go_enter Try.func51, Try.ntmps51
            go_wp2_with fail
            refine HC.out.mono ?_
            rintro e w' ⟨rfl, n1, rfl⟩
            go_wp2_with fail
            refine (HN1.out _).mono ?_
            rintro e w' ⟨rfl, rfl⟩
            go_wp2_with fail
            refine (HN2.out _).mono ?_
            rintro e w' ⟨rfl, rfl⟩
            go_wp2_with fail
            go_ret
            exact ⟨ret_b (H2.out.trans HF.out.symm), below_drewN HB.out _⟩
          · have H2 : Hid ((s1.toList != s2.toList) = true) := by show _ = _; simpa using h1
            have HF : Hid (R = true) := by show _ = _; rw [HE.out]; unfold fchB; simp [h1]
            clear HE h0 h1
            go_enter Try.func51, Try.ntmps51
            go_wp2_with fail
            refine HC.out.mono ?_
            rintro e w' ⟨rfl, n1, rfl⟩
            go_wp2_with fail
            refine (HN1.out _).mono ?_
            rintro e w' ⟨rfl, rfl⟩
            go_wp2_with fail
            refine (HN2.out _).mono ?_
            rintro e w' ⟨rfl, rfl⟩
            go_wp2_with fail
            go_ret
            exact ⟨ret_b (H2.out.trans HF.out.symm), below_drewN HB.out _⟩
theorem texted_any {w : World} (n : Nd) (hs : n.text.size ≤ 1000000) (m : Int) (hm : w.cell? ⟨0, 0, none⟩ = some (.int .i64 m)) : Calls Try.prog 51 #[nv n] w fun e w' => e = .returned (.bool (textB PW n.kind n.text.toList)) ∧ Below w.heap.size w w' := by
  obtain ⟨k, loc, text, num, kids, ka, kc⟩ := n
  unfold nv
  simp only at hs ⊢
  by_cases h5 : k = 5
  · subst h5
    have e : textB PW 5 text.toList = (true) := rfl
    rw [e]
    exact tx_5 loc num text ka kids.length kc
  by_cases h6 : k = 6
  · subst h6
    have e : textB PW 6 text.toList = (nmd PW text.toList) := rfl
    rw [e]
    exact tx_6 loc num text ka kids.length kc hs
  by_cases h8 : k = 8
  · subst h8
    have e : textB PW 8 text.toList = (nmd PW text.toList) := rfl
    rw [e]
    exact tx_8 loc num text ka kids.length kc hs
  by_cases h15 : k = 15
  · subst h15
    have e : textB PW 15 text.toList = (nmd PW text.toList) := rfl
    rw [e]
    exact tx_15 loc num text ka kids.length kc hs
  by_cases h22 : k = 22
  · subst h22
    have e : textB PW 22 text.toList = (nmd PW text.toList) := rfl
    rw [e]
    exact tx_22 loc num text ka kids.length kc hs
  by_cases h27 : k = 27
  · subst h27
    have e : textB PW 27 text.toList = (nmd PW text.toList) := rfl
    rw [e]
    exact tx_27 loc num text ka kids.length kc hs
  by_cases h40 : k = 40
  · subst h40
    have e : textB PW 40 text.toList = (nmd PW text.toList) := rfl
    rw [e]
    exact tx_40 loc num text ka kids.length kc hs
  by_cases h41 : k = 41
  · subst h41
    have e : textB PW 41 text.toList = (nmd PW text.toList) := rfl
    rw [e]
    exact tx_41 loc num text ka kids.length kc hs
  by_cases h42 : k = 42
  · subst h42
    have e : textB PW 42 text.toList = (nmd PW text.toList) := rfl
    rw [e]
    exact tx_42 loc num text ka kids.length kc hs
  by_cases h25 : k = 25
  · subst h25
    have e : textB PW 25 text.toList = (nmd PW text.toList) := rfl
    rw [e]
    exact tx_25 loc num text ka kids.length kc hs
  by_cases h16 : k = 16
  · subst h16
    have e : textB PW 16 text.toList = (nmd PW text.toList || decide (text.toList = ctor)) := rfl
    rw [e]
    exact tx_16 loc num text ka kids.length kc hs
  by_cases h20 : k = 20
  · subst h20
    have e : textB PW 20 text.toList = (decide (text.toList = []) || nmd PW text.toList) := rfl
    rw [e]
    exact tx_20 loc num text ka kids.length kc hs
  by_cases h21 : k = 21
  · subst h21
    have e : textB PW 21 text.toList = (decide (text.toList = []) || nmd PW text.toList) := rfl
    rw [e]
    exact tx_21 loc num text ka kids.length kc hs
  by_cases h9 : k = 9
  · subst h9
    have e : textB PW 9 text.toList = (uns.contains text.toList) := rfl
    rw [e]
    exact tx_9 loc num text ka kids.length kc
  by_cases h10 : k = 10
  · subst h10
    have e : textB PW 10 text.toList = (decide (0 ≤ lev text.toList)) := rfl
    rw [e]
    exact tx_10 loc num text ka kids.length kc
  by_cases h12 : k = 12
  · subst h12
    have e : textB PW 12 text.toList = (asg.contains text.toList) := rfl
    rw [e]
    exact tx_12 loc num text ka kids.length kc
  by_cases h13 : k = 13
  · subst h13
    have e : textB PW 13 text.toList = (stp.contains text.toList) := rfl
    rw [e]
    exact tx_13 loc num text ka kids.length kc
  by_cases h33 : k = 33
  · subst h33
    have e : textB PW 33 text.toList = (fch PW text.toList) := rfl
    rw [e]
    exact tx_33 loc num text ka kids.length kc hs m hm
  have hk : ∀ x ∈ [5, 6, 8, 15, 22, 27, 40, 41, 42, 25, 16, 20, 21, 9, 10, 12, 13, 33], ¬ k = (x : Int) := by
    intro x hx
    simp only [List.mem_cons, List.not_mem_nil, or_false] at hx
    rcases hx with rfl | rfl | rfl | rfl | rfl | rfl | rfl | rfl | rfl | rfl | rfl | rfl | rfl | rfl | rfl | rfl | rfl | rfl <;> assumption
  have e : textB PW k text.toList = decide (text.toList = []) := by
    unfold textB
    rw [if_neg h5, if_neg (fun h => by rcases h with h | h | h | h | h | h | h | h | h; exact h6 h; exact h8 h; exact h15 h; exact h22 h; exact h27 h; exact h40 h; exact h41 h; exact h42 h; exact h25 h), if_neg h16, if_neg (fun h => by rcases h with h | h; exact h20 h; exact h21 h), if_neg h9, if_neg h10, if_neg h12, if_neg h13, if_neg h33]
  rw [e]
  exact tx_def k loc num text ka kids.length kc hk
set_option maxRecDepth 100000 in
set_option maxHeartbeats 4000000 in
theorem alone_any {w : World} (n : Nd) (hs : n.text.size ≤ 1000000) (m : Int) (hm : w.cell? ⟨0, 0, none⟩ = some (.int .i64 m)) : Calls Try.prog 43 #[nv n] w fun e w' => e = .returned (.bool (aloneB PW n)) ∧ Below w.heap.size w w' := by
  generalize hR : aloneB PW n = R
  have HR := Lib.hid hR
  clear hR
  have hB := bel1 w (.cells #[.int .i64 n.kind, .int .i64 n.loc, .string n.text, .int .i64 n.num, .slice n.ka n.kids.length n.kc] 37)
  have hN := new1 w (.cells #[.int .i64 n.kind, .int .i64 n.loc, .string n.text, .int .i64 n.num, .slice n.ka n.kids.length n.kc] 37)
  have h0 : 0 < w.heap.size := by
    refine Nat.pos_of_ne_zero fun h => ?_
    have e : w.heap = #[] := Array.eq_empty_of_size_eq_zero h
    simp [World.cell?, e] at hm
  have hT := texted_any n hs m ((World.cell?_of_block (a := ⟨0, 0, none⟩) (hB.block 0 h0)).trans hm)
  have HU := Lib.hid fun w => numbered_any (w := w) n
  have HE : Hid (aloneB PW n = (decide (1 ≤ n.kind) && (decide (n.kind < 44) && (decide (0 ≤ n.loc) && (textB PW n.kind n.text.toList && numB n.kind n.num))))) := rfl
  unfold nv at hT HU
  have HT := Lib.hid hT
  have HB := Lib.hid hB
  have HN := Lib.hid hN
  unfold nv
  generalize textB PW n.kind n.text.toList = a at *
  generalize numB n.kind n.num = b at *
  obtain ⟨k, loc, text, num, kids, ka, kc⟩ := n
  simp only at HT HU HE HB HN ⊢
  clear hT hB hN hm h0 hs
  by_cases h1 : 1 ≤ k
  · by_cases h2 : k < 44
    · by_cases h3 : 0 ≤ loc
      · have HF : Hid ((a && b) = R) := by show _ = _; rw [← HR.out, HE.out, decide_eq_true h1, decide_eq_true h2, decide_eq_true h3]; rfl
        cases a
        · go_enter Try.func43, Try.ntmps43
          go_wp2_with fail
          refine HT.out.mono ?_
          rintro e w1 ⟨rfl, hb1⟩
          have HB1 := Lib.hid (HB.out.trans (hb1.mono HB.out.size))
          clear hb1
          go_wp2_with fail
          go_ret
          exact ⟨ret_b HF.out, HB1.out⟩
        · go_enter Try.func43, Try.ntmps43
          go_wp2_with fail
          refine HT.out.mono ?_
          rintro e w1 ⟨rfl, hb1⟩
          have HB1 := Lib.hid (HB.out.trans (hb1.mono HB.out.size))
          have hbox := (hb1.block _ (lt_of_block HN.out)).trans HN.out
          have f0 : w1.cell? ⟨w.heap.size, 0, none⟩ = some (.int .i64 k) := by rw [cell_of_row _ _ _ _ _ _ hbox]; rfl
          have f1 : w1.cell? ⟨w.heap.size, 1, none⟩ = some (.int .i64 loc) := by rw [cell_of_row _ _ _ _ _ _ hbox]; rfl
          have f2 : w1.cell? ⟨w.heap.size, 2, none⟩ = some (.string text) := by rw [cell_of_row _ _ _ _ _ _ hbox]; rfl
          have f3 : w1.cell? ⟨w.heap.size, 3, none⟩ = some (.int .i64 num) := by rw [cell_of_row _ _ _ _ _ _ hbox]; rfl
          have f4 : w1.cell? ⟨w.heap.size, 4, none⟩ = some (.slice ka kids.length kc) := by rw [cell_of_row _ _ _ _ _ _ hbox]; rfl
          clear hb1 hbox
          go_wp2_with fail
          refine (HU.out w1).mono ?_
          rintro e w2 ⟨rfl, hb2⟩
          have HB2 := Lib.hid (HB1.out.trans (hb2.mono HB1.out.size))
          clear hb2 f0 f1 f2 f3 f4
          go_wp2_with fail
          go_ret
          exact ⟨ret_b HF.out, HB2.out⟩
      · have HF : Hid (false = R) := by show _ = _; rw [← HR.out, HE.out, decide_eq_true h1, decide_eq_true h2, decide_eq_false h3]; rfl
        go_enter Try.func43, Try.ntmps43
        go_wp2_with fail
        go_ret
        exact ⟨ret_b HF.out, HB.out⟩
    · have HF : Hid (false = R) := by show _ = _; rw [← HR.out, HE.out, decide_eq_true h1, decide_eq_false h2]; rfl
      go_enter Try.func43, Try.ntmps43
      go_wp2_with fail
      go_ret
      exact ⟨ret_b HF.out, HB.out⟩
  · have HF : Hid (false = R) := by show _ = _; rw [← HR.out, HE.out, decide_eq_false h1]; rfl
    go_enter Try.func43, Try.ntmps43
    go_wp2_with fail
    go_ret
    exact ⟨ret_b HF.out, HB.out⟩
end Go.Proofs.Ytaonojimpfhkfaa.As
