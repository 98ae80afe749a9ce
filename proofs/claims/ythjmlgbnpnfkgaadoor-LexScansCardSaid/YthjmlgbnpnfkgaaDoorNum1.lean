/- Contracts of num.digit, bare, write, In, Text. -/
import Derived.Test.YthjmlgbnpnfkgaaDoorRows
import Derived.Test.YthjmlgbnpnfkgaaDoorNumPlain
import Derived.LoopTactic
import Derived.RegionTactic
import Derived.Outline
import Derived.Handy
import Derived.Laws.Rows
import Derived.Laws.CopyOwn
import Derived.Lib.Hide
import Derived.OneCell
import Derived.Deep.WholeRow
import Derived.WalkSpells
import Derived.WalkLawsBesides
import Derived.Laws.IdiomStrings
import Derived.Deep.QuietTactic
import Derived.BigQuiet
namespace Go.Proofs.YthjmlgbnpnfkgaaDoor.Nu
open Go.RowKit Go.ChangeShapes Go.WideShapes Go.ChangeAt

theorem ret_u64 {a b : Int} (h : a = b) : Ending.returned (.int .u64 a) = .returned (.int .u64 b) := by rw [h]

set_option maxHeartbeats 400000 in
theorem digit_any (c : Nat) (hc : c ≤ 255) (w : World) :
    Calls Tryd.prog 90 #[.int .u8 (c : Int)] w fun e w' => e = .returned (.int .u64 ((dv c : Nat) : Int)) ∧ w = w' := by
  unfold dv
  by_cases h1 : 48 ≤ c ∧ c ≤ 57
  · rw [if_pos h1]
    obtain ⟨h1, h2⟩ := h1
    go_enter Tryd.func90, Tryd.ntmps90
    go_wp2
    go_ret
    exact ⟨ret_u64 (by omega), rfl⟩
  · rw [if_neg h1]
    by_cases h2 : 97 ≤ c ∧ c ≤ 122
    · rw [if_pos h2]
      obtain ⟨h2, h3⟩ := h2
      have h4 : ¬ c ≤ 57 := by omega
      clear h1
      go_enter Tryd.func90, Tryd.ntmps90
      go_wp2
      go_ret
      exact ⟨ret_u64 (by omega), rfl⟩
    · rw [if_neg h2]
      by_cases h3 : 65 ≤ c ∧ c ≤ 90
      · rw [if_pos h3]
        obtain ⟨h3, h4⟩ := h3
        have h5 : ¬ c ≤ 57 := by omega
        have h6 : ¬ 97 ≤ c := by omega
        clear h1 h2
        go_enter Tryd.func90, Tryd.ntmps90
        go_wp2
        go_ret
        exact ⟨ret_u64 (by omega), rfl⟩
      · rw [if_neg h3]
        have hh := Lib.hid (And.intro h1 (And.intro h2 h3))
        clear h1 h2 h3
        go_enter Tryd.func90, Tryd.ntmps90
        go_wp2
        all_goals first | (exfalso; obtain ⟨h1, h2, h3⟩ := hh.out; omega) | (go_ret; exact ⟨rfl, rfl⟩)

theorem isBase_yes (b : Int) (h1 : 2 ≤ b) (h2 : b ≤ 36) (w : World) :
    Calls Tryd.prog 81 #[.int .i64 b] w fun e w' => e = .returned (.bool true) ∧ w = w' := by
  go_enter Tryd.func81, Tryd.ntmps81
  go_wp2
  go_ret
  exact ⟨rfl, rfl⟩
theorem isBase_no (b : Int) (h : b < 2 ∨ 36 < b) (w : World) :
    Calls Tryd.prog 81 #[.int .i64 b] w fun e w' => e = .returned (.bool false) ∧ w = w' := by
  rcases h with h | h
  · go_enter Tryd.func81, Tryd.ntmps81
    go_wp2
    go_ret
    exact ⟨rfl, rfl⟩
  · have h2 : 2 ≤ b := by omega
    have h3 : ¬ b ≤ 36 := by omega
    clear h
    go_enter Tryd.func81, Tryd.ntmps81
    go_wp2
    go_ret
    exact ⟨rfl, rfl⟩

/-- 'T(x)' whose run is known. -/
theorem wpList_convert_run {P : Program} {w : World} {ops : Array Oper} {rest : List Oper} {o : Oper} {a : Act} {Q : Exit → Act → World → Prop} (hgd : o.guard = none) (s d : TypeId) (x : Operand)
    (ho : o.op = .convert s d x) (u : Value) (hx : a.eval x = u) {v : Value} (hr : (convert s d u).run P w = .ok v w) (h : wpList P ops Q rest (a.put o.dst v) w) : wpList P ops Q (o :: rest) a w :=
  wpList_plain hgd fun K hK => by
    unfold Oper.wp execOp
    simp only [ho, hx, Sem.run_bind, Sem.run_pure, Result.andThen_ok, hr]
    exact hK _ _ h
theorem A.conv (W : World) (B j cap : Nat) (l : List UInt8) (hc : ∀ i (h : i < l.length), W.cell? ⟨B, j + i, none⟩ = some (.int .u8 (l[i].toNat : Int))) :
    (convert 53 9 (.slice (some ⟨B, j, none⟩) l.length cap)).run Tryd.prog W = .ok (.string ⟨l.toArray⟩) W :=
  run_convert_bytes_back W _ _ 5 _ cap l Tryd.underlying53 Tryd.underlying5 Tryd.underlying9 (fun i h => by
    have hadd : (⟨B, j, none⟩ : Addr).add i = ⟨B, j + i, none⟩ := by unfold Addr.add; split <;> simp_all
    rw [hadd]; exact hc i h)
/-- The bytes of a row from a place on. -/
theorem buf_cells (W : World) (B : Nat) (l : List UInt8) (t : TypeId) (h : W.heap[B]? = some (.cells (buf l) t (0, 0))) (i : Nat) (hi : i < l.length) :
    W.cell? ⟨B, 65 - l.length + i, none⟩ = some (.int .u8 (l[i].toNat : Int)) := by
  rw [cell_of_row W _ _ _ _ _ h]; exact buf_get l i hi
theorem A.conv2 (W : World) (B j L cap : Nat) (l : List UInt8) (t : TypeId) (hL : L = l.length) (hj : j = 65 - l.length) (h : W.heap[B]? = some (.cells (buf l) t (0, 0))) :
    (convert 53 9 (.slice (some ⟨B, j, none⟩) L cap)).run Tryd.prog W = .ok (.string ⟨l.toArray⟩) W := by
  subst hL hj; exact A.conv W B _ cap l (buf_cells W B l t h)
theorem ret_str {a b : List UInt8} (h : a = b) : Ending.returned (.string ⟨a.toArray⟩) = .returned (.string ⟨b.toArray⟩) := by rw [h]

end Go.Proofs.YthjmlgbnpnfkgaaDoor.Nu
