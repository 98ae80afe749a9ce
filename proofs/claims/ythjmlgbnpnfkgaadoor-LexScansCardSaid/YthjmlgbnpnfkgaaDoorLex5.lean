/- Contracts of lex.quoted, first. -/
import Derived.Test.YthjmlgbnpnfkgaaDoorLex4
set_option linter.unusedVariables false
namespace Go.Proofs.YthjmlgbnpnfkgaaDoor.Lx
open Go.RowKit Go.ChangeShapes Go.WideShapes Go.ChangeAt Go.Proofs.YthjmlgbnpnfkgaaDoor.Nu

theorem une_bd : ∀ (f : Nat) (l : List UInt8) (k : Nat) (acc : List UInt8), l.length ≤ f → (∃ r, une f l k acc = (r, -1) ∧ r.length ≤ acc.length + l.length) ∨ ∃ n : Nat, une f l k acc = ([], (n : Int)) ∧ n < k + l.length
  | 0, [], k, acc, h => Or.inl ⟨acc, une_nil 0 k acc, by simp⟩
  | 0, c :: l, k, acc, h => by simp at h
  | f + 1, [], k, acc, h => Or.inl ⟨acc, une_nil _ k acc, by simp⟩
  | f + 1, c :: l, k, acc, h => by
    rw [List.length_cons] at h
    by_cases hc : c.toNat = 92
    · by_cases h0 : (escR l).2 = 0
      · exact Or.inr ⟨k, une_bad f c l k acc hc h0, by rw [List.length_cons]; omega⟩
      · rw [une_good f c l k acc hc h0]
        have hs := escR_small l
        rcases une_bd f (l.drop (escR l).2) (k + (1 + (escR l).2)) (acc ++ [UInt8.ofNat (escR l).1]) (by rw [List.length_drop]; omega) with ⟨r, h1, h2⟩ | ⟨n, h1, h2⟩
        · refine Or.inl ⟨r, h1, ?_⟩
          simp only [List.length_append, List.length_singleton, List.length_drop] at h2
          rw [List.length_cons]; omega
        · refine Or.inr ⟨n, h1, ?_⟩
          rw [List.length_drop] at h2
          rw [List.length_cons]; omega
    · rw [une_plain f c l k acc hc]
      rcases une_bd f l (k + 1) (acc ++ [c]) (by omega) with ⟨r, h1, h2⟩ | ⟨n, h1, h2⟩
      · refine Or.inl ⟨r, h1, ?_⟩
        simp only [List.length_append, List.length_singleton] at h2
        rw [List.length_cons]; omega
      · refine Or.inr ⟨n, h1, ?_⟩
        rw [List.length_cons]; omega
/-- What a quote is. -/
def quoV (s : ByteArray) (q : Nat) (u : List UInt8 × Int) : Value :=
  if q = 0 then badV 5 0 else if u.2 < 0 then (if s.data.toList.head? = some 34 then retV 4 ⟨u.1.toArray⟩ 0 (q + 1) 0 0 else if u.1.length = 1 then retV 3 (s.extract 0 (q + 1)) ((u.1.headD 0).toNat : Int) (q + 1) 0 0 else badV 5 0) else badV 20 (1 + u.2)
set_option maxRecDepth 100000 in
set_option maxHeartbeats 2000000 in
theorem quoted_any (s : ByteArray) (hs : s.size ≤ 1048576) (h0 : 0 < s.size) (w : World) :
    Calls Tryd.prog 42 #[.string s] w fun e w' => e = .returned (quoV s (qe s.data.toList) (uneS (s.extract 1 (qe s.data.toList)))) ∧ Below w.heap.size w w' := by
  have hql : qe s.data.toList = 0 ∨ (1 ≤ qe s.data.toList ∧ qe s.data.toList < s.size) := by
    have hd0 := drop_byte s 0 h0
    rw [List.drop_zero] at hd0
    have hqe : qe s.data.toList = qeF s[0] (s.data.toList.drop 1) 1 false := by
      conv => lhs; rw [hd0]
      rfl
    have := qeF_lt s[0] (s.data.toList.drop 1) 1 false (by decide)
    rw [← hqe, List.length_drop, size_list] at this
    omega
  have hhd : s.data.toList.head? = some s[0] := by
    have hd0 := drop_byte s 0 h0
    rw [List.drop_zero] at hd0
    rw [hd0]; rfl
  have HQ := Lib.hid fun w => quoteEnd_any s hs h0 w
  have HB := Lib.hid (boxT_below w)
  obtain ⟨m2, m4, mz⟩ := boxT_facts w
  have HM := Lib.hid (And.intro m2 m4)
  clear m2 m4 mz
  have HHD := Lib.hid hhd
  clear hhd
  have h256 := byte_lt s 0 h0
  unfold quoV
  generalize qe s.data.toList = q at *
  rcases hql with rfl | ⟨hq1, hq2⟩
  · rw [if_pos rfl]
    go_enter Tryd.func42, Tryd.ntmps42
    go_wp2_with fail
    refine (HQ.out _).mono ?_
    rintro e w3 ⟨rfl, hb3⟩
    have hb3' : Below (boxT w).heap.size (boxT w) w3 := hb3
    have k2 := keep HM.out.1 hb3'
    have k4 := keep HM.out.2 hb3'
    have HB3 := Lib.hid (HB.out.trans (hb3'.mono HB.out.size))
    obtain ⟨c0, c1, c2, c3, c4, c5, c6, f0, f1, f2, f3, f4, f5, f6⟩ := seven k2 k4
    have HK := Lib.hid (And.intro k2 k4)
    clear k2 k4 hb3 hb3'
    go_wp2_with fail
    (try simp only [Exit.inBlock, Exit.then])
    have HF := both_facts HK.out.1 HK.out.2 (.int .i64 0) (.int .i64 0) (.string ⟨#[]⟩) (.int .i64 0) (.bool false) (.int .i64 5) (.int .i64 0)
    refine bodyPost_ret (results_tnf rfl _ _ w.heap.size (w.heap.size + 1) _ _ rfl HF.1 rfl rfl HF.2 rfl) rfl ⟨rfl, both_below HB3.out (Nat.le_refl _) _ _ _ _ _ _ _⟩
  · rw [if_neg (by omega)]
    have hq0 : ((q : Int) == 0) = false := by rw [beq_eq_false_iff_ne]; omega
    have hxs : (s.extract 1 q).size ≤ 1048576 := by simp; omega
    have HU := Lib.hid fun w => unescape_any (s.extract 1 q) hxs w
    have hbd := une_bd (s.extract 1 q).size (s.extract 1 q).data.toList 0 [] (by rw [size_list]; omega)
    have HSTEP : Hid (∀ w3, Below (boxT w).heap.size (boxT w) w3 → Below w.heap.size w w3 ∧ w3.heap[w.heap.size]? = some (.cells #[.int .i64 0, .int .i64 0, .string ⟨#[]⟩, .int .i64 0, .bool false] 33 (0, 0)) ∧ w3.heap[w.heap.size + 1]? = some (.cells #[.int .i64 0, .int .i64 0] 26 (0, 0)) ∧ w.heap.size + 1 < w3.heap.size) := fun w3 hb3 =>
      ⟨HB.out.trans (hb3.mono HB.out.size), keep HM.out.1 hb3, keep HM.out.2 hb3, lt_of_block (keep HM.out.2 hb3)⟩
    rcases hbd with ⟨r, hr, hrl⟩ | ⟨n, hr, hrl⟩
    · have hu : uneS (s.extract 1 q) = (r, -1) := hr
      rw [hu] at HU ⊢
      have hv : uneV (r, -1) = .tuple #[.string ⟨r.toArray⟩, .agg #[.int .i64 0, .int .i64 0]] := by unfold uneV; rw [if_pos (show (-1 : Int) < 0 by decide)]
      rw [hv] at HU
      rw [if_pos (show (-1 : Int) < 0 by decide), HHD.out]
      have hrl2 : r.length ≤ 1048576 := by rw [size_list] at hrl; simp at hrl; simp at hxs; omega
      have hrs : (⟨r.toArray⟩ : ByteArray).size = r.length := size_mk r
      obtain ⟨R, hR⟩ : ∃ R : ByteArray, R = ⟨r.toArray⟩ := ⟨_, rfl⟩
      have hRl : R.data.toList = r := by rw [hR]
      rw [← hR] at HU hrs ⊢
      rw [← hrs]
      have HRL := Lib.hid hRl
      have h34 : (s[0] = 34) ↔ s[0].toNat = 34 := u8_eq
      clear hu hr hrl hv hR hrs hRl hxs
      by_cases hq34 : s[0].toNat = 34
      · rw [if_pos (by rw [h34.2 hq34])]
        have e34 : ((s[0].toNat : Int) == 34) = true := by rw [beq_iff_eq]; omega
        clear h34
        go_enter Tryd.func42, Tryd.ntmps42
        go_wp2_with fail
        refine (HQ.out _).mono ?_
        rintro e w3 ⟨rfl, hb3⟩
        have hb3' : Below (boxT w).heap.size (boxT w) w3 := hb3
        clear hb3
        go_wp2_with fail
        refine (HU.out _).mono ?_
        rintro e w4 ⟨rfl, hb4⟩
        obtain ⟨hB4, k2, k4, hl4⟩ := HSTEP.out w4 (hb3'.trans (hb4.mono hb3'.size))
        obtain ⟨HB5, k2', k4', hl5⟩ := HSTEP.out (w4.alloc (.cells #[.int .i64 0, .int .i64 0] 26)) ((hb3'.trans (hb4.mono hb3'.size)).alloc (by have := hb3'.size; have := hb4.size; omega) _)
        have HB5 := Lib.hid HB5
        have HK := Lib.hid (And.intro k2' k4')
        clear hb3' hb4 hB4 k2 k4 k2' k4' hl5 hl4
        go_upto_region 9 with (fail)
        generalize w4.alloc (.cells #[.int .i64 0, .int .i64 0] 26) = W5 at *
        obtain ⟨c0, c1, c2, c3, c4, c5, c6, f0, f1, f2, f3, f4, f5, f6⟩ := seven HK.out.1 HK.out.2
        go_wp2_with fail
        (try simp only [Exit.inBlock, Exit.then])
        have HF := both_facts HK.out.1 HK.out.2 (.int .i64 4) (.int .i64 0) (.string R) (.int .i64 0) (.bool false) (.int .i64 0) (.int .i64 0)
        refine bodyPost_ret (results_tnf rfl _ _ w.heap.size (w.heap.size + 1) _ _ rfl HF.1 rfl rfl HF.2 rfl) rfl ⟨rfl, both_below HB5.out (Nat.le_refl _) _ _ _ _ _ _ _⟩
      · rw [if_neg (fun h => hq34 (h34.1 (by simpa using h)))]
        have e34 : ((s[0].toNat : Int) == 34) = false := by rw [beq_eq_false_iff_ne]; omega
        clear h34
        by_cases h1 : R.size = 1
        · rw [if_pos h1]
          have hsq : q + 1 ≤ s.size := by omega
          have hcl : (s.extract 0 (q + 1)).size ≤ 281474976710656 := by simp; omega
          have HC := Lib.hid fun w => clone_any (s.extract 0 (q + 1)) hcl w
          have hR0 : 0 < R.size := by omega
          have hRb := byte_lt R 0 hR0
          have hhd : (r.headD 0) = R[0] := by
            have hd0 := drop_byte R 0 hR0
            rw [List.drop_zero, HRL.out] at hd0
            rw [hd0]; rfl
          rw [hhd]
          have e1 : ((R.size : Int) != 1) = false := by rw [h1]; rfl
          clear hcl hhd
          go_enter Tryd.func42, Tryd.ntmps42
          go_wp2_with fail
          refine (HQ.out _).mono ?_
          rintro e w3 ⟨rfl, hb3⟩
          have hb3' : Below (boxT w).heap.size (boxT w) w3 := hb3
          clear hb3
          go_wp2_with fail
          refine (HU.out _).mono ?_
          rintro e w4 ⟨rfl, hb4⟩
          obtain ⟨hB4, k2, k4, hl4⟩ := HSTEP.out w4 (hb3'.trans (hb4.mono hb3'.size))
          obtain ⟨HB5, k2', k4', hl5⟩ := HSTEP.out (w4.alloc (.cells #[.int .i64 0, .int .i64 0] 26)) ((hb3'.trans (hb4.mono hb3'.size)).alloc (by have := hb3'.size; have := hb4.size; omega) _)
          have HB5 := Lib.hid HB5
          have HK := Lib.hid (And.intro k2' k4')
          clear hb3' hb4 hB4 k2 k4 k2' k4' hl5 hl4
          go_upto_region 12 with (fail)
          generalize w4.alloc (.cells #[.int .i64 0, .int .i64 0] 26) = W5 at *
          have HKd : Hid (W5.drew.heap[w.heap.size]? = some (.cells #[.int .i64 0, .int .i64 0, .string ⟨#[]⟩, .int .i64 0, .bool false] 33 (0, 0)) ∧ W5.drew.heap[w.heap.size + 1]? = some (.cells #[.int .i64 0, .int .i64 0] 26 (0, 0))) := HK.out
          have HB5d := Lib.hid HB5.out.drew
          have hqn : ((q + 1 : Nat) : Int) = (q : Int) + 1 := by omega
          have hwr : IntKind.i64.wrap ((R[0].toNat : Nat) : Int) = ((R[0].toNat : Nat) : Int) := by rw [IntKind.wrap_i64]; omega
          go_region_with (go_at_call 36; refine (HC.out _).mono ?_; rintro e w6 ⟨rfl, hb6⟩; have HB6 := (by first | exact Lib.hid (HB5d.out.trans (hb6.mono HB5d.out.size)) | exact Lib.hid (HB5.out.trans (hb6.mono HB5.out.size)) : Hid (Below w.heap.size w w6)); have HK6 := (by first | exact Lib.hid (And.intro (keep HKd.out.1 hb6) (keep HKd.out.2 hb6)) | exact Lib.hid (And.intro (keep HK.out.1 hb6) (keep HK.out.2 hb6)) : Hid (w6.heap[w.heap.size]? = some (.cells #[.int .i64 0, .int .i64 0, .string ⟨#[]⟩, .int .i64 0, .bool false] 33 (0, 0)) ∧ w6.heap[w.heap.size + 1]? = some (.cells #[.int .i64 0, .int .i64 0] 26 (0, 0)))); obtain ⟨c0, c1, c2, c3, c4, c5, c6, f0, f1, f2, f3, f4, f5, f6⟩ := seven HK6.out.1 HK6.out.2; clear hb6)
          all_goals clear hwr hqn c0 c1 c2 c3 c4 c5 c6 f0 f1 f2 f3 f4 f5 f6
          all_goals go_wp2_with fail
          all_goals (try simp only [Exit.inBlock, Exit.then])
          all_goals have HF := both_facts HK6.out.1 HK6.out.2 (.int .i64 3) (.int .i64 0) (.string (s.extract 0 (q + 1))) (.int .i64 ((R[0].toNat : Nat) : Int)) (.bool false) (.int .i64 0) (.int .i64 0)
          all_goals exact bodyPost_ret (results_tnf rfl _ _ w.heap.size (w.heap.size + 1) _ _ rfl HF.1 rfl rfl HF.2 rfl) rfl ⟨rfl, both_below HB6.out (Nat.le_refl _) _ _ _ _ _ _ _⟩
        · rw [if_neg h1]
          have e1 : ((R.size : Int) != 1) = true := by rw [bne_iff_ne]; omega
          have e1' : ¬ (R.size : Int) = 1 := by omega
          go_enter Tryd.func42, Tryd.ntmps42
          go_wp2_with fail
          refine (HQ.out _).mono ?_
          rintro e w3 ⟨rfl, hb3⟩
          have hb3' : Below (boxT w).heap.size (boxT w) w3 := hb3
          clear hb3
          go_wp2_with fail
          refine (HU.out _).mono ?_
          rintro e w4 ⟨rfl, hb4⟩
          obtain ⟨hB4, k2, k4, hl4⟩ := HSTEP.out w4 (hb3'.trans (hb4.mono hb3'.size))
          obtain ⟨HB5, k2', k4', hl5⟩ := HSTEP.out (w4.alloc (.cells #[.int .i64 0, .int .i64 0] 26)) ((hb3'.trans (hb4.mono hb3'.size)).alloc (by have := hb3'.size; have := hb4.size; omega) _)
          have HB5 := Lib.hid HB5
          have HK := Lib.hid (And.intro k2' k4')
          clear hb3' hb4 hB4 k2 k4 k2' k4' hl5 hl4
          go_upto_region 11 with (fail)
          generalize w4.alloc (.cells #[.int .i64 0, .int .i64 0] 26) = W5 at *
          obtain ⟨c0, c1, c2, c3, c4, c5, c6, f0, f1, f2, f3, f4, f5, f6⟩ := seven HK.out.1 HK.out.2
          go_wp2_with fail
          (try simp only [Exit.inBlock, Exit.then])
          have HF := both_facts HK.out.1 HK.out.2 (.int .i64 0) (.int .i64 0) (.string ⟨#[]⟩) (.int .i64 0) (.bool false) (.int .i64 5) (.int .i64 0)
          refine bodyPost_ret (results_tnf rfl _ _ w.heap.size (w.heap.size + 1) _ _ rfl HF.1 rfl rfl HF.2 rfl) rfl ⟨rfl, both_below HB5.out (Nat.le_refl _) _ _ _ _ _ _ _⟩
    · have hu : uneS (s.extract 1 q) = ([], (n : Int)) := hr
      rw [hu] at HU ⊢
      have hn : (n : Int) < 1048576 := by rw [size_list] at hrl; omega
      rw [if_neg (by show ¬ (n : Int) < 0; omega)]
      have hv : uneV ([], (n : Int)) = .tuple #[.string ⟨#[]⟩, .agg #[.int .i64 20, .int .i64 n]] := by unfold uneV; rw [if_neg (by show ¬ (n : Int) < 0; omega)]
      rw [hv] at HU
      clear hu hr hrl hv
      go_enter Tryd.func42, Tryd.ntmps42
      go_wp2_with fail
      refine (HQ.out _).mono ?_
      rintro e w3 ⟨rfl, hb3⟩
      have hb3' : Below (boxT w).heap.size (boxT w) w3 := hb3
      clear hb3
      go_wp2_with fail
      refine (HU.out _).mono ?_
      rintro e w4 ⟨rfl, hb4⟩
      obtain ⟨hB4, k2, k4, hl4⟩ := HSTEP.out w4 (hb3'.trans (hb4.mono hb3'.size))
      have HB4 := Lib.hid hB4
      have HK := Lib.hid (And.intro k2 k4)
      clear hb3' hb4 hB4 k2 k4
      go_wp2_with fail
      have hA := (Below.refl w4.heap.size w4).alloc (Nat.le_refl _) (.cells #[.int .i64 20, .int .i64 n] 26)
      have m5 := heap_alloc_new w4 (.cells #[.int .i64 20, .int .i64 n] 26)
      have k2 := keep HK.out.1 hA
      have k4 := keep HK.out.2 hA
      have HB5 := Lib.hid (HB4.out.trans (hA.mono HB4.out.size))
      have n1 : ¬ w4.heap.size = w.heap.size := by omega
      have n2 : ¬ w4.heap.size = w.heap.size + 1 := by omega
      have n3 : ¬ w.heap.size = w4.heap.size := by omega
      have n4 : ¬ w.heap.size + 1 = w4.heap.size := by omega
      clear hA hl4 HK HB4
      generalize w4.heap.size = g5 at *
      generalize w4.alloc (.cells #[.int .i64 20, .int .i64 n] 26) = W5 at *
      obtain ⟨d0, d1, _, _⟩ := fault_facts m5
      obtain ⟨c0, c1, c2, c3, c4, c5, c6, f0, f1, f2, f3, f4, f5, f6⟩ := seven k2 k4
      have HK := Lib.hid (And.intro k2 k4)
      clear k2 k4 m5
      go_region
      have HF := both_drew HK.out.1 HK.out.2 (.int .i64 0) (.int .i64 0) (.string ⟨#[]⟩) (.int .i64 0) (.bool false) (.int .i64 20) (.int .i64 (1 + (n : Int)))
      clear c0 c1 c2 c3 c4 c5 c6 f0 f1 f2 f3 f4 f5 f6 d0 d1
      have hE := (both_below HB5.out (Nat.le_refl _) (.int .i64 0) (.int .i64 0) (.string ⟨#[]⟩) (.int .i64 0) (.bool false) (.int .i64 20) (.int .i64 (1 + (n : Int)))).drew
      unfold both at HF hE
      have HF' := Lib.hid HF
      have HE := Lib.hid hE
      clear HF hE
      go_wp2_with fail
      (try simp only [Exit.inBlock, Exit.then])
      refine bodyPost_ret (results_tnf rfl _ _ w.heap.size (w.heap.size + 1) _ _ rfl HF'.out.1 rfl rfl HF'.out.2 rfl) rfl ⟨rfl, HE.out⟩
end Go.Proofs.YthjmlgbnpnfkgaaDoor.Lx
