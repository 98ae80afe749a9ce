/- 'StrFinds': the walk. -/
import Derived.Test.YtkpdjpplcejjiaaFind
namespace Go.Proofs.Ytkpdjpplcejjiaa
open Go.RowKit Go.ChangeShapes Go.WideShapes Go.ChangeAt

set_option maxRecDepth 100000 in
set_option maxHeartbeats 1000000 in
theorem strFinds_walk (a b : ByteArray) (f : Int) (_ : a.size ≤ maxLen) (_ : b.size ≤ maxLen) (_ : (Lit.int .i64 f).wf = true) (m : Int) (w : World) (hm : w.cell? ⟨0, 0, none⟩ = some (.int .i64 m)) :
    Calls Try.prog 6 #[.string a, .string b, .int .i64 f] w fun e w' => e = .returned (.bool true) ∧ Below w.heap.size w w' := by
  have h0 : 0 < w.heap.size := by
    refine Nat.pos_of_ne_zero fun h => ?_
    have e : w.heap = #[] := Array.eq_empty_of_size_eq_zero h
    simp [World.cell?, e] at hm
  have h3 : (a.size ≤ 300 ∧ b.size ≤ 300) ∨ 300 < a.size ∨ (a.size ≤ 300 ∧ 300 < b.size) := by omega
  have HT := Lib.hid (texts_any m w hm)
  have HM := Lib.hid hm
  clear hm
  rcases h3 with ⟨ha, hb⟩ | h3 | ⟨h3, h4⟩
  · have HF := Lib.hid fun w (h : w.cell? ⟨0, 0, none⟩ = some (.int .i64 m)) => find_any a b (by omega) f m w h
    have HR := Lib.hid fun w => rfind_any a b ha hb f w
    generalize found a b f = R at *
    go_enter Try.func6, Try.ntmps6
    go_wp2_with fail
    refine HT.out.mono ?_
    rintro e w1 ⟨rfl, hb1⟩
    have hz := Lib.hid (cell_below hb1 h0 HM.out)
    go_wp2_with fail
    refine (HF.out _ hz.out).mono ?_
    rintro e w2 ⟨rfl, rfl⟩
    go_wp2_with fail
    refine (HR.out _).mono ?_
    rintro e w3 ⟨rfl, hb3⟩
    go_wp2_with fail
    go_ret
    exact ⟨rfl, hb1.trans (hb3.mono hb1.size)⟩
  all_goals
    go_enter Try.func6, Try.ntmps6
    go_wp2_with fail
    refine HT.out.mono ?_
    rintro e w1 ⟨rfl, hb1⟩
    go_wp2_with fail
    go_ret
    exact ⟨rfl, hb1⟩
end Go.Proofs.Ytkpdjpplcejjiaa
