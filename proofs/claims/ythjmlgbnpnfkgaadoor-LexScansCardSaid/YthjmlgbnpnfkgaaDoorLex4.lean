/- Contracts of lex.sign, named. -/
import Derived.Test.YthjmlgbnpnfkgaaDoorLex3
set_option linter.unusedVariables false
namespace Go.Proofs.YthjmlgbnpnfkgaaDoor.Lx
open Go.RowKit Go.ChangeShapes Go.WideShapes Go.ChangeAt Go.Proofs.YthjmlgbnpnfkgaaDoor.Nu

/-- How many bytes the longest sign has with which a text begins. -/
def sg (l : List UInt8) : Nat := if 3 ≤ l.length ∧ signs.contains (l.take 3) = true then 3 else if 2 ≤ l.length ∧ signs.contains (l.take 2) = true then 2 else if 1 ≤ l.length ∧ signs.contains (l.take 1) = true then 1 else 0
theorem sg_at {l : List UInt8} {k : Nat} (h1 : 1 ≤ k) (h3 : k ≤ 3) (hk : k ≤ l.length) (hs : signs.contains (l.take k) = true) (hn : ∀ j, k < j → j ≤ 3 → j ≤ l.length → signs.contains (l.take j) = false) : sg l = k := by
  unfold sg
  have hk' : k = 1 ∨ k = 2 ∨ k = 3 := by omega
  rcases hk' with rfl | rfl | rfl
  · rw [if_neg (fun h => by have := hn 3 (by omega) (by omega) h.1; rw [this] at h; cases h.2), if_neg (fun h => by have := hn 2 (by omega) (by omega) h.1; rw [this] at h; cases h.2), if_pos ⟨hk, hs⟩]
  · rw [if_neg (fun h => by have := hn 3 (by omega) (by omega) h.1; rw [this] at h; cases h.2), if_pos ⟨hk, hs⟩]
  · rw [if_pos ⟨hk, hs⟩]
theorem sg_none {l : List UInt8} (hn : ∀ j, 0 < j → j ≤ 3 → j ≤ l.length → signs.contains (l.take j) = false) : sg l = 0 := by
  unfold sg
  rw [if_neg (fun h => by have := hn 3 (by omega) (by omega) h.1; rw [this] at h; cases h.2), if_neg (fun h => by have := hn 2 (by omega) (by omega) h.1; rw [this] at h; cases h.2), if_neg (fun h => by have := hn 1 (by omega) (by omega) h.1; rw [this] at h; cases h.2)]
theorem sg_le (l : List UInt8) : sg l ≤ l.length ∧ sg l ≤ 3 := by
  unfold sg
  split
  · omega
  · split
    · omega
    · split <;> omega
def signV (x : ByteArray) (n : Nat) : Value := if n = 0 then badV 80 0 else retV 5 x 0 n 0 0
set_option maxRecDepth 100000 in
set_option maxHeartbeats 2000000 in
theorem sign_any (s : ByteArray) (hs : s.size ≤ 1048576) (w : World) :
    Calls Tryd.prog 45 #[.string s] w fun e w' => e = .returned (signV (s.extract 0 (sg s.data.toList)) (sg s.data.toList)) ∧ Below w.heap.size w w' := by
  have hz := size_list s
  have HAT : Hid (∀ k, 1 ≤ k → k ≤ 3 → k ≤ s.size → signs.contains (s.data.toList.take k) = true → (∀ j, k < j → j ≤ 3 → j ≤ s.size → signs.contains (s.data.toList.take j) = false) → sg s.data.toList = k) := fun k h1 h3 hk h hn => sg_at h1 h3 (by omega) h (fun j a b c => hn j a b (by omega))
  have HNO : Hid ((∀ j, 0 < j → j ≤ 3 → j ≤ s.size → signs.contains (s.data.toList.take j) = false) → sg s.data.toList = 0) := fun hn => sg_none (fun j a b c => hn j a b (by omega))
  have HB := Lib.hid (boxT_below w)
  obtain ⟨m2, m4, mz⟩ := boxT_facts w
  have HM := Lib.hid (And.intro m2 m4)
  clear m2 m4 hz mz
  generalize sg s.data.toList = G at *
  go_enter Tryd.func45, Tryd.ntmps45
  go_wp2_with fail
  go_loop [5] (fun i => ∃ k : Nat, k ≤ s.size ∧ k ≤ 3 ∧ i = .int .i64 (k : Int) ∧ Hid (∀ j, k < j → j ≤ 3 → j ≤ s.size → signs.contains (s.data.toList.take j) = false)) (fun i => (intOf i).toNat)
  case atStart => exact ⟨min 3 s.size, by omega, by omega, by go_num, fun j a b c => by omega⟩
  case round =>
    obtain ⟨k, hk, hk3, rfl, HK⟩ := hrel
    by_cases h0 : 0 < k
    · have HI := Lib.hid fun w => isSign_any (s.extract 0 k) w
      have HTK : Hid ((s.extract 0 k).toList = s.data.toList.take k) := by show _ = _; rw [ByteArray.toList_eq, take_list]
      cases hc : signs.contains (s.extract 0 k).toList
      · rw [hc] at HI
        have hc' := hc
        rw [HTK.out] at hc'
        have HK2 : Hid (∀ j, k - 1 < j → j ≤ 3 → j ≤ s.size → signs.contains (s.data.toList.take j) = false) := fun j a b c => by
          by_cases e : j = k
          · subst e; exact hc'
          · exact HK.out j (by omega) b c
        clear hc hc'
        go_wp2_with fail
        refine (HI.out _).mono ?_
        rintro e w' ⟨rfl, rfl⟩
        go_wp2_with fail
        go_round
        case rel => exact ⟨k - 1, by omega, by omega, by go_num, HK2⟩
        case measure => simp [intOf]; omega
      · rw [hc] at HI
        have hc' := hc
        rw [HTK.out] at hc'
        have HG := Lib.hid (HAT.out k h0 hk3 hk hc' HK.out)
        have HC := Lib.hid fun w => clone_any (s.extract 0 k) (by simp; omega) w
        clear hc hc'
        go_wp2_with fail
        refine (HI.out _).mono ?_
        rintro e w' ⟨rfl, rfl⟩
        go_wp2_with fail
        refine (HC.out _).mono ?_
        rintro e w3 ⟨rfl, hb3⟩
        have hb3' : Below (boxT w).heap.size (boxT w) w3 := hb3
        have k2 := keep HM.out.1 hb3'
        have k4 := keep HM.out.2 hb3'
        have HB3 := Lib.hid (HB.out.trans (hb3'.mono HB.out.size))
        obtain ⟨c0, c1, c2, c3, c4, c5, c6, f0, f1, f2, f3, f4, f5, f6⟩ := seven k2 k4
        have HK' := Lib.hid (And.intro k2 k4)
        clear k2 k4 hb3 hb3'
        go_wp2_with fail
        (try simp only [Exit.inBlock, Exit.then])
        have HF := both_facts HK'.out.1 HK'.out.2 (.int .i64 5) (.int .i64 0) (.string (s.extract 0 k)) (.int .i64 0) (.bool false) (.int .i64 0) (.int .i64 0)
        refine bodyPost_ret (results_tnf rfl _ _ w.heap.size (w.heap.size + 1) _ _ rfl HF.1 rfl rfl HF.2 rfl) rfl ⟨?_, both_below HB3.out (Nat.le_refl _) _ _ _ _ _ _ _⟩
        rw [HG.out]
        unfold signV
        rw [if_neg (by omega)]
        rfl
    · have hk0 : k = 0 := by omega
      subst hk0
      have HG := Lib.hid (HNO.out HK.out)
      go_wp2_with fail
      (try simp only [Exit.inBlock, Exit.then])
      have HF := two_new w (.cells #[.int .i64 0, .int .i64 0, .string ⟨#[]⟩, .int .i64 0, .bool false] 33) (.cells #[.int .i64 80, .int .i64 0] 26)
      refine bodyPost_ret (results_tnf rfl _ _ w.heap.size (w.heap.size + 1) _ _ rfl HF.1 rfl rfl HF.2.1 rfl) rfl ⟨?_, HF.2.2⟩
      rw [HG.out]
      rfl
def namV (x : ByteArray) (n : Nat) : Value := retV (if kws.contains x.toList = true then 2 else 1) x 0 n 0 0
theorem five {W : World} {g : Nat} {x0 x1 x2 x3 x4 : Value} (h2 : W.heap[g]? = some (.cells #[x0, x1, x2, x3, x4] 33 (0, 0))) :
    W.cell? ⟨g, 0, none⟩ = some x0 ∧ W.cell? ⟨g, 1, none⟩ = some x1 ∧ W.cell? ⟨g, 2, none⟩ = some x2 ∧ W.cell? ⟨g, 3, none⟩ = some x3 ∧ W.cell? ⟨g, 4, none⟩ = some x4 := by
  refine ⟨?_, ?_, ?_, ?_, ?_⟩ <;> simp [World.cell?, h2]
set_option maxRecDepth 100000 in
set_option maxHeartbeats 2000000 in
theorem named_any (s : ByteArray) (hs : s.size ≤ 1048576) (w : World) :
    Calls Tryd.prog 44 #[.string s] w fun e w' => e = .returned (namV (s.extract 0 (wl s.data.toList)) (wl s.data.toList)) ∧ Below w.heap.size w w' := by
  have hle := wl_le s.data.toList
  rw [size_list] at hle
  have HW := Lib.hid fun w => wordLen_any s hs w
  have HC := Lib.hid fun w => clone_any (s.extract 0 (wl s.data.toList)) (by simp; omega) w
  have HX : Hid ((s.extract 0 (wl s.data.toList)).size = wl s.data.toList) := by show _ = _; simp; omega
  have HKW := Lib.hid fun w => keyword_any (s.extract 0 (wl s.data.toList)) w
  have HB := Lib.hid (boxT_below w)
  obtain ⟨m2, m4, mz⟩ := boxT_facts w
  have HM := Lib.hid (And.intro m2 m4)
  clear m2 m4 mz
  unfold namV
  generalize wl s.data.toList = n at *
  generalize hxe : s.extract 0 n = x at *
  cases hkw : kws.contains x.toList
  · rw [hkw] at HKW
    rw [if_neg (by simp)]
    clear hkw
    go_enter Tryd.func44, Tryd.ntmps44
    go_wp2_with fail
    refine (HW.out _).mono ?_
    rintro e w' ⟨rfl, rfl⟩
    go_wp2_with fail
    refine (HC.out _).mono ?_
    rintro e w3 ⟨rfl, hb3⟩
    have hb3' : Below (boxT w).heap.size (boxT w) w3 := hb3
    have k2 := keep HM.out.1 hb3'
    have k4 := keep HM.out.2 hb3'
    have HB3 := Lib.hid (HB.out.trans (hb3'.mono HB.out.size))
    have HK := Lib.hid (And.intro k2 k4)
    have hl4 : w.heap.size + 1 < w3.heap.size := lt_of_block k4
    clear k2 k4 hb3 hb3'
    go_wp2_with fail
    refine (HKW.out _).mono ?_
    rintro e w' ⟨rfl, rfl⟩
    go_wp2_with fail
    have hA := (Below.refl w3.heap.size w3).alloc (Nat.le_refl _) (.cells #[.int .i64 1, .int .i64 0, .string x, .int .i64 0, .bool false] 33)
    have m5 := heap_alloc_new w3 (.cells #[.int .i64 1, .int .i64 0, .string x, .int .i64 0, .bool false] 33)
    have k2 := keep HK.out.1 hA
    have k4 := keep HK.out.2 hA
    have HB5 := Lib.hid (HB3.out.trans (hA.mono HB3.out.size))
    have n1 : ¬ w3.heap.size = w.heap.size := by omega
    have n2 : ¬ w3.heap.size = w.heap.size + 1 := by omega
    have n3 : ¬ w.heap.size = w3.heap.size := by omega
    have n4 : ¬ w.heap.size + 1 = w3.heap.size := by omega
    clear hA hl4 HK HB3
    generalize w3.heap.size = g5 at *
    generalize w3.alloc (.cells #[.int .i64 1, .int .i64 0, .string x, .int .i64 0, .bool false] 33) = W5 at *
    obtain ⟨d0, d1, d2, d3, d4⟩ := five m5
    obtain ⟨c0, c1, c2, c3, c4, c5, c6, f0, f1, f2, f3, f4, f5, f6⟩ := seven k2 k4
    have HK := Lib.hid (And.intro k2 k4)
    clear k2 k4 m5
    go_region
    have HF := both_drew HK.out.1 HK.out.2 (.int .i64 1) (.int .i64 0) (.string x) (.int .i64 0) (.bool false) (.int .i64 0) (.int .i64 0)
    clear c0 c1 c2 c3 c4 c5 c6 f0 f1 f2 f3 f4 f5 f6 d0 d1 d2 d3 d4
    have hE := (both_below HB5.out (Nat.le_refl _) (.int .i64 1) (.int .i64 0) (.string x) (.int .i64 0) (.bool false) (.int .i64 0) (.int .i64 0)).drew
    unfold both at HF hE
    have HF' := Lib.hid HF
    have HE := Lib.hid hE
    clear HF hE
    go_wp2_with fail
    (try simp only [Exit.inBlock, Exit.then])
    refine bodyPost_ret (results_tnf rfl _ _ w.heap.size (w.heap.size + 1) _ _ rfl HF'.out.1 rfl rfl HF'.out.2 rfl) rfl ⟨?_, HE.out⟩
    show Ending.returned (.tuple #[_, .int .i64 (x.size : Int), _]) = _
    rw [HX.out]
    rfl
  · rw [hkw] at HKW
    rw [if_pos rfl]
    clear hkw
    go_enter Tryd.func44, Tryd.ntmps44
    go_wp2_with fail
    refine (HW.out _).mono ?_
    rintro e w' ⟨rfl, rfl⟩
    go_wp2_with fail
    refine (HC.out _).mono ?_
    rintro e w3 ⟨rfl, hb3⟩
    have hb3' : Below (boxT w).heap.size (boxT w) w3 := hb3
    have k2 := keep HM.out.1 hb3'
    have k4 := keep HM.out.2 hb3'
    have HB3 := Lib.hid (HB.out.trans (hb3'.mono HB.out.size))
    have HK := Lib.hid (And.intro k2 k4)
    have hl4 : w.heap.size + 1 < w3.heap.size := lt_of_block k4
    clear k2 k4 hb3 hb3'
    go_wp2_with fail
    refine (HKW.out _).mono ?_
    rintro e w' ⟨rfl, rfl⟩
    go_wp2_with fail
    have hA := (Below.refl w3.heap.size w3).alloc (Nat.le_refl _) (.cells #[.int .i64 2, .int .i64 0, .string x, .int .i64 0, .bool false] 33)
    have m5 := heap_alloc_new w3 (.cells #[.int .i64 2, .int .i64 0, .string x, .int .i64 0, .bool false] 33)
    have k2 := keep HK.out.1 hA
    have k4 := keep HK.out.2 hA
    have HB5 := Lib.hid (HB3.out.trans (hA.mono HB3.out.size))
    have n1 : ¬ w3.heap.size = w.heap.size := by omega
    have n2 : ¬ w3.heap.size = w.heap.size + 1 := by omega
    have n3 : ¬ w.heap.size = w3.heap.size := by omega
    have n4 : ¬ w.heap.size + 1 = w3.heap.size := by omega
    clear hA hl4 HK HB3
    generalize w3.heap.size = g5 at *
    generalize w3.alloc (.cells #[.int .i64 2, .int .i64 0, .string x, .int .i64 0, .bool false] 33) = W5 at *
    obtain ⟨d0, d1, d2, d3, d4⟩ := five m5
    obtain ⟨c0, c1, c2, c3, c4, c5, c6, f0, f1, f2, f3, f4, f5, f6⟩ := seven k2 k4
    have HK := Lib.hid (And.intro k2 k4)
    clear k2 k4 m5
    go_region
    have HF := both_drew HK.out.1 HK.out.2 (.int .i64 2) (.int .i64 0) (.string x) (.int .i64 0) (.bool false) (.int .i64 0) (.int .i64 0)
    clear c0 c1 c2 c3 c4 c5 c6 f0 f1 f2 f3 f4 f5 f6 d0 d1 d2 d3 d4
    have hE := (both_below HB5.out (Nat.le_refl _) (.int .i64 2) (.int .i64 0) (.string x) (.int .i64 0) (.bool false) (.int .i64 0) (.int .i64 0)).drew
    unfold both at HF hE
    have HF' := Lib.hid HF
    have HE := Lib.hid hE
    clear HF hE
    go_wp2_with fail
    (try simp only [Exit.inBlock, Exit.then])
    refine bodyPost_ret (results_tnf rfl _ _ w.heap.size (w.heap.size + 1) _ _ rfl HF'.out.1 rfl rfl HF'.out.2 rfl) rfl ⟨?_, HE.out⟩
    show Ending.returned (.tuple #[_, .int .i64 (x.size : Int), _]) = _
    rw [HX.out]
    rfl
end Go.Proofs.YthjmlgbnpnfkgaaDoor.Lx
