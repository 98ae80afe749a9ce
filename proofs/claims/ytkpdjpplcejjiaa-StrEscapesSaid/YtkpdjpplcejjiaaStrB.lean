/- 'StrEscapes': the walk. -/
import Derived.Test.YtkpdjpplcejjiaaRune2
namespace Go.Proofs.Ytkpdjpplcejjiaa
open Go.RowKit Go.ChangeShapes Go.WideShapes Go.ChangeAt

theorem une_shape : ∀ (f : Nat) (l : List UInt8) (k : Nat) (acc : List UInt8), (∃ r, une f l k acc = (r, -1)) ∨ ∃ n : Nat, une f l k acc = ([], (n : Int))
  | 0, l, k, acc => .inl ⟨acc, by cases l <;> rfl⟩
  | f + 1, [], k, acc => .inl ⟨acc, rfl⟩
  | f + 1, c :: l, k, acc => by
    by_cases h : c.toNat = 92
    · by_cases h0 : (escR l).2 = 0
      · exact .inr ⟨k, une_bad _ _ _ _ _ h h0⟩
      · rw [une_good _ _ _ _ _ h h0]; exact une_shape f _ _ _
    · rw [une_plain _ _ _ _ _ h]; exact une_shape f _ _ _

set_option maxRecDepth 100000 in
set_option maxHeartbeats 2000000 in
theorem strEscapes_walk (s : ByteArray) (_ : s.size ≤ maxLen) (m : Int) (w : World) (hm : w.cell? ⟨0, 0, none⟩ = some (.int .i64 m)) :
    Calls Try.prog 4 #[.string s] w fun e w' => e = .returned (.bool true) ∧ Below w.heap.size w w' := by
  have HT := Lib.hid (texts_any m w hm)
  clear hm
  by_cases hs : s.size ≤ 500
  · have HU := Lib.hid fun w => unescape_any s (by omega) w
    have HR := Lib.hid fun w => rune_any s hs w
    have hsh : (∃ r, uneS s = (r, -1)) ∨ ∃ n : Nat, uneS s = ([], (n : Int)) := une_shape _ _ _ _
    rcases hsh with ⟨r, hp⟩ | ⟨n, hp⟩
    · rw [hp, show uneV (r, -1) = .tuple #[.string ⟨r.toArray⟩, .agg #[.int .i64 0, .int .i64 0]] from rfl] at HU
      rw [hp, show runeV (r, -1) = .tuple #[.string ⟨r.toArray⟩, .int .i64 (-1)] from rfl] at HR
      clear hp
      go_enter Try.func4, Try.ntmps4
      go_wp2_with fail
      refine HT.out.mono ?_
      rintro e w1 ⟨rfl, hb1⟩
      go_wp2_with fail
      refine (HU.out _).mono ?_
      rintro e w2 ⟨rfl, hb2⟩
      go_wp2_with fail
      refine (HR.out _).mono ?_
      rintro e w3 ⟨rfl, hb3⟩
      have hq : w3.heap[w2.heap.size]? = some (.cells #[.int .i64 0, .int .i64 0] 26 (0, 0)) := (hb3.block _ (by simp)).trans (heap_alloc_new w2 _)
      obtain ⟨c1, c2, _, _⟩ := fault_facts hq
      have hbz : Below w.heap.size w w3 := ((hb1.trans (hb2.mono hb1.size)).alloc (Nat.le_trans hb1.size hb2.size) _).trans (hb3.mono (by have := hb1.size; have := hb2.size; simp; omega))
      clear hq hb1 hb2 hb3
      go_wp2_with fail
      go_ret
      exact ⟨rfl, hbz⟩
    · rw [hp, show uneV ([], (n : Int)) = .tuple #[.string ⟨#[]⟩, .agg #[.int .i64 20, .int .i64 (n : Int)]] by rw [uneV, if_neg (by simp)]] at HU
      rw [hp, show runeV ([], (n : Int)) = .tuple #[.string ⟨#[]⟩, .int .i64 (n : Int)] from rfl] at HR
      clear hp
      go_enter Try.func4, Try.ntmps4
      go_wp2_with fail
      refine HT.out.mono ?_
      rintro e w1 ⟨rfl, hb1⟩
      go_wp2_with fail
      refine (HU.out _).mono ?_
      rintro e w2 ⟨rfl, hb2⟩
      go_wp2_with fail
      refine (HR.out _).mono ?_
      rintro e w3 ⟨rfl, hb3⟩
      have hq : w3.heap[w2.heap.size]? = some (.cells #[.int .i64 20, .int .i64 (n : Int)] 26 (0, 0)) := (hb3.block _ (by simp)).trans (heap_alloc_new w2 _)
      obtain ⟨c1, c2, _, _⟩ := fault_facts hq
      have hbz : Below w.heap.size w w3 := ((hb1.trans (hb2.mono hb1.size)).alloc (Nat.le_trans hb1.size hb2.size) _).trans (hb3.mono (by have := hb1.size; have := hb2.size; simp; omega))
      clear hq hb1 hb2 hb3
      go_wp2_with fail
      go_ret
      exact ⟨rfl, hbz⟩
  · go_enter Try.func4, Try.ntmps4
    go_wp2_with fail
    refine HT.out.mono ?_
    rintro e w1 ⟨rfl, hb1⟩
    go_wp2_with fail
    go_ret
    exact ⟨rfl, hb1⟩
end Go.Proofs.Ytkpdjpplcejjiaa
