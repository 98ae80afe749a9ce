/- 'StrOrders': the walk. -/
import Derived.Test.YtkpdjpplcejjiaaLess
namespace Go.Proofs.Ytkpdjpplcejjiaa
open Go.RowKit Go.ChangeShapes Go.WideShapes Go.ChangeAt

theorem cmp_anti : ∀ a b : List UInt8, Lib.compareBytes b a = - Lib.compareBytes a b
  | [], [] => rfl
  | [], _ :: _ => rfl
  | _ :: _, [] => rfl
  | a :: l, b :: r => by
    have h3 : a.toNat = b.toNat ∨ a.toNat < b.toNat ∨ b.toNat < a.toNat := by omega
    rcases h3 with h3 | h3 | h3
    · rw [cmp_same a b _ _ h3, cmp_same b a _ _ h3.symm]; exact cmp_anti l r
    · rw [cmp_less a b _ _ h3, cmp_more b a _ _ h3]; rfl
    · rw [cmp_more a b _ _ h3, cmp_less b a _ _ h3]
theorem cmp_range : ∀ a b : List UInt8, Lib.compareBytes a b = -1 ∨ Lib.compareBytes a b = 0 ∨ Lib.compareBytes a b = 1
  | [], [] => .inr (.inl rfl)
  | [], _ :: _ => .inl rfl
  | _ :: _, [] => .inr (.inr rfl)
  | a :: l, b :: r => by
    have h3 : a.toNat = b.toNat ∨ a.toNat < b.toNat ∨ b.toNat < a.toNat := by omega
    rcases h3 with h3 | h3 | h3
    · rw [cmp_same a b _ _ h3]; exact cmp_range l r
    · exact .inl (cmp_less a b _ _ h3)
    · exact .inr (.inr (cmp_more a b _ _ h3))

set_option maxRecDepth 100000 in
set_option maxHeartbeats 2000000 in
theorem strOrders_near (a b : ByteArray) (ha : a.size ≤ 500) (hb : b.size ≤ 500) (m : Int) (w : World) (hm : w.cell? ⟨0, 0, none⟩ = some (.int .i64 m)) :
    Calls Try.prog 7 #[.string a, .string b] w fun e w' => e = .returned (.bool true) ∧ Below w.heap.size w w' := by
  have HT := Lib.hid (texts_any m w hm)
  have HC := Lib.hid fun w => compare_any a b w
  have HL1 := Lib.hid fun w => less_any a b ha hb w
  have HL2 := Lib.hid fun w => less_any b a hb ha w
  rw [cmp_anti a.data.toList b.data.toList] at HL2
  obtain ⟨h1, H1⟩ := hash_same a (by omega)
  have H1' := Lib.hid H1
  have hc := cmp_range a.data.toList b.data.toList
  clear H1 hm
  generalize Lib.compareBytes a.data.toList b.data.toList = C at *
  by_cases hab : a = b
  · subst hab
    rcases hc with rfl | rfl | rfl
    all_goals
      go_enter Try.func7, Try.ntmps7
      go_wp2_with fail
      refine HT.out.mono ?_
      rintro e w1 ⟨rfl, hb1⟩
      go_wp2_with fail
      refine (HC.out _).mono ?_
      rintro e w2 ⟨rfl, rfl⟩
      go_wp2_with fail
      refine (HL1.out _).mono ?_
      rintro e w2 ⟨rfl, hb2⟩
      go_wp2_with fail
      refine (HL2.out _).mono ?_
      rintro e w3 ⟨rfl, hb3⟩
      go_wp2_with fail
      refine (H1'.out _).mono ?_
      rintro e w4 ⟨rfl, rfl⟩
      go_wp2_with fail
      refine (H1'.out _).mono ?_
      rintro e w4 ⟨rfl, rfl⟩
      go_wp2_with fail
      go_ret
      exact ⟨rfl, (hb1.trans (hb2.mono hb1.size)).trans (hb3.mono (Nat.le_trans hb1.size hb2.size))⟩
  · have hab2 : ¬ a.toList = b.toList := fun h => hab (bytes_ext (by rw [← ByteArray.toList_eq, ← ByteArray.toList_eq]; exact h))
    rcases hc with rfl | rfl | rfl
    all_goals
      go_enter Try.func7, Try.ntmps7
      go_wp2_with fail
      refine HT.out.mono ?_
      rintro e w1 ⟨rfl, hb1⟩
      go_wp2_with fail
      refine (HC.out _).mono ?_
      rintro e w2 ⟨rfl, rfl⟩
      go_wp2_with fail
      refine (HL1.out _).mono ?_
      rintro e w2 ⟨rfl, hb2⟩
      go_wp2_with fail
      refine (HL2.out _).mono ?_
      rintro e w3 ⟨rfl, hb3⟩
      go_wp2_with fail
      go_ret
      exact ⟨rfl, (hb1.trans (hb2.mono hb1.size)).trans (hb3.mono (Nat.le_trans hb1.size hb2.size))⟩

set_option maxRecDepth 100000 in
theorem strOrders_walk (a b : ByteArray) (_ : a.size ≤ maxLen) (_ : b.size ≤ maxLen) (m : Int) (w : World) (hm : w.cell? ⟨0, 0, none⟩ = some (.int .i64 m)) :
    Calls Try.prog 7 #[.string a, .string b] w fun e w' => e = .returned (.bool true) ∧ Below w.heap.size w w' := by
  have h3 : (a.size ≤ 500 ∧ b.size ≤ 500) ∨ 500 < a.size ∨ (a.size ≤ 500 ∧ 500 < b.size) := by omega
  rcases h3 with ⟨ha, hb⟩ | h3 | ⟨h3, h4⟩
  · exact strOrders_near a b ha hb m w hm
  all_goals
    have HT := Lib.hid (texts_any m w hm)
    clear hm
    go_enter Try.func7, Try.ntmps7
    go_wp2_with fail
    refine HT.out.mono ?_
    rintro e w1 ⟨rfl, hb1⟩
    go_wp2_with fail
    go_ret
    exact ⟨rfl, hb1⟩
end Go.Proofs.Ytkpdjpplcejjiaa
