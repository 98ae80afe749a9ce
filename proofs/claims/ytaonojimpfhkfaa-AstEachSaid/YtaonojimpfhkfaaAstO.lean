/- The laws' head: builds. -/
import Derived.Test.YtaonojimpfhkfaaAstN
namespace Go.Proofs.Ytaonojimpfhkfaa.As
open Go.RowKit Go.ChangeShapes Go.WideShapes Go.ChangeAt

theorem k_level (w : World) : Calls Try.prog 26 #[.string ⟨#[42]⟩] w fun e w' => e = .returned (.int .i64 9) ∧ w = w' := by
  have := level_any ⟨#[42]⟩ w
  rw [show lev (⟨#[42]⟩ : ByteArray).toList = 9 by kernel_rfl] at this
  exact this
theorem k_expr (w : World) : Calls Try.prog 21 #[.int .i64 17] w fun e w' => e = .returned (.bool true) ∧ w = w' := expr_any 17 w
theorem k_stmt (w : World) : Calls Try.prog 23 #[.int .i64 29] w fun e w' => e = .returned (.bool true) ∧ w = w' := stmt_any 29 w
theorem k_target (w : World) : Calls Try.prog 24 #[.int .i64 4] w fun e w' => e = .returned (.bool false) ∧ w = w' := target_any 4 w
theorem k_literal (w : World) : Calls Try.prog 25 #[.int .i64 5] w fun e w' => e = .returned (.bool true) ∧ w = w' := literal_any 5 w
theorem k_unary (w : World) : Calls Try.prog 28 #[.string ⟨#[33]⟩] w fun e w' => e = .returned (.bool true) ∧ w = w' := by
  have := unary_any ⟨#[33]⟩ w
  rw [show uns.contains (⟨#[33]⟩ : ByteArray).toList = true by kernel_rfl] at this
  exact this
theorem k_assign (w : World) : Calls Try.prog 30 #[.string ⟨#[60, 45]⟩] w fun e w' => e = .returned (.bool true) ∧ w = w' := by
  have := assign_any ⟨#[60, 45]⟩ w
  rw [show asg.contains (⟨#[60, 45]⟩ : ByteArray).toList = true by kernel_rfl] at this
  exact this
theorem k_step (w : World) : Calls Try.prog 31 #[.string ⟨#[43, 43]⟩] w fun e w' => e = .returned (.bool true) ∧ w = w' := by
  have := step_any ⟨#[43, 43]⟩ w
  rw [show stp.contains (⟨#[43, 43]⟩ : ByteArray).toList = true by kernel_rfl] at this
  exact this
def N1 (a : Option Addr) (c : Nat) : Nd := ⟨6, 0, ⟨#[120]⟩, 0, [], a, c⟩
def N2 (a : Option Addr) (c : Nat) : Nd := ⟨4, 2, ⟨#[]⟩, 1, [], a, c⟩
def N3 (a : Option Addr) (c : Nat) : Nd := ⟨10, 0, ⟨#[43]⟩, 0, [0, 1], a, c⟩
def N4 (a : Option Addr) (c : Nat) : Nd := ⟨28, 0, ⟨#[]⟩, 0, [2], a, c⟩
def N5 (a : Option Addr) (c : Nat) : Nd := ⟨26, 0, ⟨#[]⟩, 0, [3], a, c⟩
def T5 (a1 : Option Addr) (c1 : Nat) (a2 : Option Addr) (c2 : Nat) (a3 : Option Addr) (c3 : Nat) (a4 : Option Addr) (c4 : Nat) (a5 : Option Addr) (c5 : Nat) : List Nd := [N1 a1 c1, N2 a2 c2, N3 a3 c3, N4 a4 c4, N5 a5 c5]
theorem t5_chk (a1 : Option Addr) (c1 : Nat) (a2 : Option Addr) (c2 : Nat) (a3 : Option Addr) (c3 : Nat) (a4 : Option Addr) (c4 : Nat) (a5 : Option Addr) (c5 : Nat) : chk PW (T5 a1 c1 a2 c2 a3 c3 a4 c4 a5 c5) = (0, 0) := by kernel_rfl
theorem t5_sam (a1 : Option Addr) (c1 : Nat) (a2 : Option Addr) (c2 : Nat) (a3 : Option Addr) (c3 : Nat) (a4 : Option Addr) (c4 : Nat) (a5 : Option Addr) (c5 : Nat) (b1 : Option Addr) (d1 : Nat) (b2 : Option Addr) (d2 : Nat) (b3 : Option Addr) (d3 : Nat) (b4 : Option Addr) (d4 : Nat) (b5 : Option Addr) (d5 : Nat) :
    sam (T5 a1 c1 a2 c2 a3 c3 a4 c4 a5 c5) (T5 b1 d1 b2 d2 b3 d3 b4 d4 b5 d5) = true := by kernel_rfl
theorem t5_alk {a1 : Option Addr} {c1 : Nat} {a2 : Option Addr} {c2 : Nat} {a3 : Option Addr} {c3 : Nat} {a4 : Option Addr} {c4 : Nat} {a5 : Option Addr} {c5 : Nat} {M : List Nd} (h : Alk (T5 a1 c1 a2 c2 a3 c3 a4 c4 a5 c5) M) :
    ∃ b1 d1 b2 d2 b3 d3 b4 d4 b5 d5, M = T5 b1 d1 b2 d2 b3 d3 b4 d4 b5 d5 := by
  obtain ⟨hl, h⟩ := h
  obtain ⟨b1, d1, h1⟩ := h 0 _ rfl
  obtain ⟨b2, d2, h2⟩ := h 1 _ rfl
  obtain ⟨b3, d3, h3⟩ := h 2 _ rfl
  obtain ⟨b4, d4, h4⟩ := h 3 _ rfl
  obtain ⟨b5, d5, h5⟩ := h 4 _ rfl
  refine ⟨b1, d1, b2, d2, b3, d3, b4, d4, b5, d5, ?_⟩
  match M, hl with
  | [m1, m2, m3, m4, m5], _ =>
    simp only [List.getElem?_cons_zero, List.getElem?_cons_succ, Option.some.injEq] at h1 h2 h3 h4 h5
    rw [h1, h2, h3, h4, h5]
    rfl
theorem szd_own {lo c : Nat} {A : Option Addr} {w : World} {L : List Nd} (h : OwT lo A c w L) (h1 : L.length ≤ 1000000) (h2 : ∀ n ∈ L, n.text.size ≤ 1000000 ∧ n.kids.length ≤ 1000000) : Szd L :=
  ⟨h1, fun n hn => ⟨(h2 n hn).1, (h2 n hn).2, own_cap (h.k n hn)⟩⟩
theorem t5_small {a1 : Option Addr} {c1 : Nat} {a2 : Option Addr} {c2 : Nat} {a3 : Option Addr} {c3 : Nat} {a4 : Option Addr} {c4 : Nat} {a5 : Option Addr} {c5 : Nat} : ∀ n ∈ T5 a1 c1 a2 c2 a3 c3 a4 c4 a5 c5, n.text.size ≤ 1000000 ∧ n.kids.length ≤ 1000000 := by
  intro n hn
  unfold T5 at hn
  simp only [List.mem_cons, List.not_mem_nil, or_false] at hn
  rcases hn with rfl | rfl | rfl | rfl | rfl <;> exact ⟨of_decide_eq_true (by kernel_rfl), of_decide_eq_true (by kernel_rfl)⟩
end Go.Proofs.Ytaonojimpfhkfaa.As
