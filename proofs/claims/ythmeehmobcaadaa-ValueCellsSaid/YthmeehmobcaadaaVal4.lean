/- Contracts of package value: orders, sums, operators. Of right kinds alone. -/
import Derived.Test.YthmeehmobcaadaaVal3
import Derived.Test.YthmeehmobcaadaaReck
namespace Go.Proofs.Ythmeehmobcaadaa.Va
open Go.RowKit Go.ChangeShapes Go.WideShapes Go.ChangeAt

theorem keep {w w' : World} {g : Nat} {A : Obj} (h : w.heap[g]? = some A) (hb : Below w.heap.size w w') : w'.heap[g]? = some A := (hb.block _ (lt_of_block h)).trans h
def two (K k k' : Int) : Bool := decide (k = K) && decide (k' = K)
theorem both_any (K k n k' n' : Int) (s s' : ByteArray) (w : World) : Calls Try.prog 55 #[.int .i64 K, .agg #[.int .i64 k, .int .i64 n, .string s], .agg #[.int .i64 k', .int .i64 n', .string s']] w fun e w' => e = .returned (.bool (two K k k')) ∧ Below w.heap.size w w' := by
  unfold two
  by_cases h : k = K
  · subst h
    rw [decide_eq_true rfl, Bool.true_and]
    by_cases h' : k' = k
    · subst h'
      rw [decide_eq_true rfl]
      go_enter Try.func55, Try.ntmps55
      go_wp2_with fail
      go_ret
      exact ⟨rfl, below_two _ _⟩
    · rw [decide_eq_false h']
      have e := beq_no' h'
      clear h'
      go_enter Try.func55, Try.ntmps55
      go_wp2_with fail
      go_ret
      exact ⟨rfl, below_two _ _⟩
  · rw [decide_eq_false h, Bool.false_and]
    have e := beq_no' h
    clear h
    go_enter Try.func55, Try.ntmps55
    go_wp2_with fail
    go_ret
    exact ⟨rfl, below_two _ _⟩

def cmpV (k n k' n' : Int) (s s' : ByteArray) : Int := if alike k n k' n' s s' = true then 0 else if k = 0 then -1 else if k' = 0 then 1 else if k = k' ∧ (k = 1 ∨ k = 2) then Nu.cmp n n' else if k = 3 ∧ k' = 3 then Lib.compareBytes s.data.toList s'.data.toList else 0
def cmpE (k n k' n' : Int) (s s' : ByteArray) : Int := if alike k n k' n' s s' = true ∨ k = 0 ∨ k' = 0 ∨ (k = k' ∧ (k = 1 ∨ k = 2 ∨ k = 3)) then 0 else 30
set_option maxRecDepth 100000 in
set_option maxHeartbeats 1000000 in
theorem compare_any (k n k' n' : Int) (s s' : ByteArray) (w : World) : Calls Try.prog 24 #[.agg #[.int .i64 k, .int .i64 n, .string s], .agg #[.int .i64 k', .int .i64 n', .string s']] w fun e w' => e = .returned (.tuple #[.int .i64 (cmpV k n k' n' s s'), .int .i64 (cmpE k n k' n' s s')]) ∧ Below w.heap.size w w' := by
  have HS := Lib.hid fun w => same_any k n k' n' s s' w
  cases hs : alike k n k' n' s s'
  · rw [hs] at HS
    have hv : cmpV k n k' n' s s' = if k = 0 then -1 else if k' = 0 then 1 else if k = k' ∧ (k = 1 ∨ k = 2) then Nu.cmp n n' else if k = 3 ∧ k' = 3 then Lib.compareBytes s.data.toList s'.data.toList else 0 := by simp [cmpV, hs]
    have he : cmpE k n k' n' s s' = if k = 0 ∨ k' = 0 ∨ (k = k' ∧ (k = 1 ∨ k = 2 ∨ k = 3)) then 0 else 30 := by simp [cmpE, hs]
    rw [hv, he]
    clear hv he hs
    by_cases h0 : k = 0
    · subst h0
      rw [if_pos rfl, if_pos (Or.inl rfl)]
      go_enter Try.func24, Try.ntmps24
      go_wp2_with fail
      refine (HS.out _).mono ?_
      rintro e w1 ⟨rfl, hb⟩
      obtain ⟨hA, hB, hbz⟩ := box2 hb
      obtain ⟨c0A, c1A, c2A, z0A, z1A, z2A⟩ := three_facts hA
      have HA := Lib.hid hA
      obtain ⟨c0B, c1B, c2B, z0B, z1B, z2B⟩ := three_facts hB
      have HB := Lib.hid hB
      have HZ := Lib.hid hbz
      clear hb hbz hA hB
      go_wp2_with fail
      go_ret2
      exact ⟨rfl, HZ.out⟩
    · rw [if_neg h0]
      have e0 : (k == 0) = false := beq_no' h0
      by_cases h0' : k' = 0
      · subst h0'
        rw [if_pos rfl, if_pos (Or.inr (Or.inl rfl))]
        clear h0
        go_enter Try.func24, Try.ntmps24
        go_wp2_with fail
        refine (HS.out _).mono ?_
        rintro e w1 ⟨rfl, hb⟩
        obtain ⟨hA, hB, hbz⟩ := box2 hb
        obtain ⟨c0A, c1A, c2A, z0A, z1A, z2A⟩ := three_facts hA
        have HA := Lib.hid hA
        obtain ⟨c0B, c1B, c2B, z0B, z1B, z2B⟩ := three_facts hB
        have HB := Lib.hid hB
        have HZ := Lib.hid hbz
        clear hb hbz hA hB
        go_wp2_with fail
        go_ret2
        exact ⟨rfl, HZ.out⟩
      · rw [if_neg h0']
        have e0' : (k' == 0) = false := beq_no' h0'
        have H2 := Lib.hid fun w => both_any 2 k n k' n' s s' w
        have H1 := Lib.hid fun w => both_any 1 k n k' n' s s' w
        have H3 := Lib.hid fun w => both_any 3 k n k' n' s s' w
        by_cases hk : k = k' ∧ (k = 1 ∨ k = 2)
        · rw [if_pos hk, if_pos (Or.inr (Or.inr ⟨hk.1, by omega⟩))]
          have HC := Lib.hid fun w => Nu.compare_any n n' w
          obtain ⟨rfl, rfl | rfl⟩ := hk
          · rw [show two 2 1 1 = false from rfl] at H2
            rw [show two 1 1 1 = true from rfl] at H1
            clear h0 h0' H3
            go_enter Try.func24, Try.ntmps24
            go_wp2_with fail
            refine (HS.out _).mono ?_
            rintro e w1 ⟨rfl, hb⟩
            obtain ⟨hA, hB, hbz⟩ := box2 hb
            obtain ⟨c0A, c1A, c2A, z0A, z1A, z2A⟩ := three_facts hA
            have HA := Lib.hid hA
            obtain ⟨c0B, c1B, c2B, z0B, z1B, z2B⟩ := three_facts hB
            have HB := Lib.hid hB
            have HZ := Lib.hid hbz
            clear hb hbz hA hB
            go_wp2_with fail
            refine (H2.out _).mono ?_
            rintro e w2 ⟨rfl, hb⟩
            have hA := keep HA.out hb
            have hB := keep HB.out hb
            have hbz := HZ.out.trans (hb.mono HZ.out.size)
            clear HA HB HZ
            obtain ⟨c0A, c1A, c2A, z0A, z1A, z2A⟩ := three_facts hA
            have HA := Lib.hid hA
            obtain ⟨c0B, c1B, c2B, z0B, z1B, z2B⟩ := three_facts hB
            have HB := Lib.hid hB
            have HZ := Lib.hid hbz
            clear hb hbz hA hB
            go_wp2_with fail
            refine (H1.out _).mono ?_
            rintro e w3 ⟨rfl, hb⟩
            have hA := keep HA.out hb
            have hB := keep HB.out hb
            have hbz := HZ.out.trans (hb.mono HZ.out.size)
            clear HA HB HZ
            obtain ⟨c0A, c1A, c2A, z0A, z1A, z2A⟩ := three_facts hA
            have HA := Lib.hid hA
            obtain ⟨c0B, c1B, c2B, z0B, z1B, z2B⟩ := three_facts hB
            have HB := Lib.hid hB
            have HZ := Lib.hid hbz
            clear hb hbz hA hB
            go_wp2_with fail
            refine (HC.out _).mono ?_
            rintro e _ ⟨rfl, rfl⟩
            go_wp2_with fail
            go_ret2
            exact ⟨rfl, HZ.out⟩
          · rw [show two 2 2 2 = true from rfl] at H2
            clear h0 h0' H3 H1
            go_enter Try.func24, Try.ntmps24
            go_wp2_with fail
            refine (HS.out _).mono ?_
            rintro e w1 ⟨rfl, hb⟩
            obtain ⟨hA, hB, hbz⟩ := box2 hb
            obtain ⟨c0A, c1A, c2A, z0A, z1A, z2A⟩ := three_facts hA
            have HA := Lib.hid hA
            obtain ⟨c0B, c1B, c2B, z0B, z1B, z2B⟩ := three_facts hB
            have HB := Lib.hid hB
            have HZ := Lib.hid hbz
            clear hb hbz hA hB
            go_wp2_with fail
            refine (H2.out _).mono ?_
            rintro e w2 ⟨rfl, hb⟩
            have hA := keep HA.out hb
            have hB := keep HB.out hb
            have hbz := HZ.out.trans (hb.mono HZ.out.size)
            clear HA HB HZ
            obtain ⟨c0A, c1A, c2A, z0A, z1A, z2A⟩ := three_facts hA
            have HA := Lib.hid hA
            obtain ⟨c0B, c1B, c2B, z0B, z1B, z2B⟩ := three_facts hB
            have HB := Lib.hid hB
            have HZ := Lib.hid hbz
            clear hb hbz hA hB
            go_wp2_with fail
            refine (HC.out _).mono ?_
            rintro e _ ⟨rfl, rfl⟩
            go_wp2_with fail
            go_ret2
            exact ⟨rfl, HZ.out⟩
        · rw [if_neg hk]
          have q2 : two 2 k k' = false := by simp only [two, Bool.and_eq_false_iff, decide_eq_false_iff_not]; omega
          have q1 : two 1 k k' = false := by simp only [two, Bool.and_eq_false_iff, decide_eq_false_iff_not]; omega
          rw [q2] at H2
          rw [q1] at H1
          by_cases h3 : k = 3 ∧ k' = 3
          · rw [if_pos h3, if_pos (by omega)]
            have HC := Lib.hid fun w => Go.Proofs.Ythmeehmobcaadaa.compare_any s s' w
            obtain ⟨rfl, rfl⟩ := h3
            rw [show two 3 3 3 = true from rfl] at H3
            clear h0 h0' hk q1 q2
            go_enter Try.func24, Try.ntmps24
            go_wp2_with fail
            refine (HS.out _).mono ?_
            rintro e w1 ⟨rfl, hb⟩
            obtain ⟨hA, hB, hbz⟩ := box2 hb
            obtain ⟨c0A, c1A, c2A, z0A, z1A, z2A⟩ := three_facts hA
            have HA := Lib.hid hA
            obtain ⟨c0B, c1B, c2B, z0B, z1B, z2B⟩ := three_facts hB
            have HB := Lib.hid hB
            have HZ := Lib.hid hbz
            clear hb hbz hA hB
            go_wp2_with fail
            refine (H2.out _).mono ?_
            rintro e w2 ⟨rfl, hb⟩
            have hA := keep HA.out hb
            have hB := keep HB.out hb
            have hbz := HZ.out.trans (hb.mono HZ.out.size)
            clear HA HB HZ
            obtain ⟨c0A, c1A, c2A, z0A, z1A, z2A⟩ := three_facts hA
            have HA := Lib.hid hA
            obtain ⟨c0B, c1B, c2B, z0B, z1B, z2B⟩ := three_facts hB
            have HB := Lib.hid hB
            have HZ := Lib.hid hbz
            clear hb hbz hA hB
            go_wp2_with fail
            refine (H1.out _).mono ?_
            rintro e w3 ⟨rfl, hb⟩
            have hA := keep HA.out hb
            have hB := keep HB.out hb
            have hbz := HZ.out.trans (hb.mono HZ.out.size)
            clear HA HB HZ
            obtain ⟨c0A, c1A, c2A, z0A, z1A, z2A⟩ := three_facts hA
            have HA := Lib.hid hA
            obtain ⟨c0B, c1B, c2B, z0B, z1B, z2B⟩ := three_facts hB
            have HB := Lib.hid hB
            have HZ := Lib.hid hbz
            clear hb hbz hA hB
            go_wp2_with fail
            refine (H3.out _).mono ?_
            rintro e w4 ⟨rfl, hb⟩
            have hA := keep HA.out hb
            have hB := keep HB.out hb
            have hbz := HZ.out.trans (hb.mono HZ.out.size)
            clear HA HB HZ
            obtain ⟨c0A, c1A, c2A, z0A, z1A, z2A⟩ := three_facts hA
            have HA := Lib.hid hA
            obtain ⟨c0B, c1B, c2B, z0B, z1B, z2B⟩ := three_facts hB
            have HB := Lib.hid hB
            have HZ := Lib.hid hbz
            clear hb hbz hA hB
            go_wp2_with fail
            refine (HC.out _).mono ?_
            rintro e _ ⟨rfl, rfl⟩
            go_wp2_with fail
            go_ret2
            exact ⟨rfl, HZ.out⟩
          · rw [if_neg h3, if_neg (by omega)]
            have q3 : two 3 k k' = false := by simp only [two, Bool.and_eq_false_iff, decide_eq_false_iff_not]; omega
            rw [q3] at H3
            clear h0 h0' hk h3 q1 q2 q3
            go_enter Try.func24, Try.ntmps24
            go_wp2_with fail
            refine (HS.out _).mono ?_
            rintro e w1 ⟨rfl, hb⟩
            obtain ⟨hA, hB, hbz⟩ := box2 hb
            obtain ⟨c0A, c1A, c2A, z0A, z1A, z2A⟩ := three_facts hA
            have HA := Lib.hid hA
            obtain ⟨c0B, c1B, c2B, z0B, z1B, z2B⟩ := three_facts hB
            have HB := Lib.hid hB
            have HZ := Lib.hid hbz
            clear hb hbz hA hB
            go_wp2_with fail
            refine (H2.out _).mono ?_
            rintro e w2 ⟨rfl, hb⟩
            have hA := keep HA.out hb
            have hB := keep HB.out hb
            have hbz := HZ.out.trans (hb.mono HZ.out.size)
            clear HA HB HZ
            obtain ⟨c0A, c1A, c2A, z0A, z1A, z2A⟩ := three_facts hA
            have HA := Lib.hid hA
            obtain ⟨c0B, c1B, c2B, z0B, z1B, z2B⟩ := three_facts hB
            have HB := Lib.hid hB
            have HZ := Lib.hid hbz
            clear hb hbz hA hB
            go_wp2_with fail
            refine (H1.out _).mono ?_
            rintro e w3 ⟨rfl, hb⟩
            have hA := keep HA.out hb
            have hB := keep HB.out hb
            have hbz := HZ.out.trans (hb.mono HZ.out.size)
            clear HA HB HZ
            obtain ⟨c0A, c1A, c2A, z0A, z1A, z2A⟩ := three_facts hA
            have HA := Lib.hid hA
            obtain ⟨c0B, c1B, c2B, z0B, z1B, z2B⟩ := three_facts hB
            have HB := Lib.hid hB
            have HZ := Lib.hid hbz
            clear hb hbz hA hB
            go_wp2_with fail
            refine (H3.out _).mono ?_
            rintro e w4 ⟨rfl, hb⟩
            have hA := keep HA.out hb
            have hB := keep HB.out hb
            have hbz := HZ.out.trans (hb.mono HZ.out.size)
            clear HA HB HZ
            obtain ⟨c0A, c1A, c2A, z0A, z1A, z2A⟩ := three_facts hA
            have HA := Lib.hid hA
            obtain ⟨c0B, c1B, c2B, z0B, z1B, z2B⟩ := three_facts hB
            have HB := Lib.hid hB
            have HZ := Lib.hid hbz
            clear hb hbz hA hB
            go_wp2_with fail
            go_ret2
            exact ⟨rfl, HZ.out⟩
  · rw [hs] at HS
    rw [show cmpV k n k' n' s s' = 0 by simp [cmpV, hs], show cmpE k n k' n' s s' = 0 by simp [cmpE, hs]]
    clear hs
    go_enter Try.func24, Try.ntmps24
    go_wp2_with fail
    refine (HS.out _).mono ?_
    rintro e w1 ⟨rfl, hb⟩
    obtain ⟨hA, hB, hbz⟩ := box2 hb
    obtain ⟨c0A, c1A, c2A, z0A, z1A, z2A⟩ := three_facts hA
    have HA := Lib.hid hA
    obtain ⟨c0B, c1B, c2B, z0B, z1B, z2B⟩ := three_facts hB
    have HB := Lib.hid hB
    have HZ := Lib.hid hbz
    clear hb hbz hA hB
    go_wp2_with fail
    go_ret2
    exact ⟨rfl, HZ.out⟩
end Go.Proofs.Ythmeehmobcaadaa.Va
