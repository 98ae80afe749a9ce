/- What functions that answer a token, a number and a fault leave; contracts of lex.digits, named, sign, quoteEnd, quoted, first. -/
import Derived.Test.YthjmlgbnpnfkgaaDoorLex2
import Derived.Test.YthjmlgbnpnfkgaaDoorUne2
import Derived.BigRegion
set_option linter.unusedVariables false
namespace Go.Proofs.YthjmlgbnpnfkgaaDoor.Lx
open Go.RowKit Go.ChangeShapes Go.WideShapes Go.ChangeAt Go.Proofs.YthjmlgbnpnfkgaaDoor.Nu

theorem A.infoT : (Tryd.prog.info? 33).map (·.size) = some 5 := by kernel_rfl
theorem A.infoF : (Tryd.prog.info? 26).map (·.size) = some 2 := by kernel_rfl
theorem keep {w w' : World} {g : Nat} {A : Obj} (h : w.heap[g]? = some A) (hb : Below w.heap.size w w') : w'.heap[g]? = some A := (hb.block _ (lt_of_block h)).trans h
theorem set_heap {w : World} {g o k : Nat} {v : Value} (h : k ≠ g) : (w.setCell ⟨g, o, none⟩ v).heap[k]? = w.heap[k]? := by
  simp only [World.setCell, Array.getElem?_modify]
  rw [if_neg (fun e => h e.symm)]
theorem set_at {w : World} {g o : Nat} {cs : Array Value} {T : TypeId} {fr : Nat × Nat} {v : Value} (h : w.heap[g]? = some (.cells cs T fr)) : (w.setCell ⟨g, o, none⟩ v).heap[g]? = some (.cells (cs.setIfInBounds o v) T fr) := by
  simp [World.setCell, Array.getElem?_modify, h]
/-- A token's box, a fault's box, and what is stored into both. -/
def both (W : World) (g : Nat) (y0 y1 y2 y3 y4 z0 z1 : Value) : World :=
  ((((((W.setCell ⟨g, 0, none⟩ y0).setCell ⟨g, 1, none⟩ y1).setCell ⟨g, 2, none⟩ y2).setCell ⟨g, 3, none⟩ y3).setCell ⟨g, 4, none⟩ y4).setCell ⟨g + 1, 0, none⟩ z0).setCell ⟨g + 1, 1, none⟩ z1
theorem both_facts {W : World} {g : Nat} {x0 x1 x2 x3 x4 u0 u1 : Value} (h2 : W.heap[g]? = some (.cells #[x0, x1, x2, x3, x4] 33 (0, 0))) (h4 : W.heap[g + 1]? = some (.cells #[u0, u1] 26 (0, 0))) (y0 y1 y2 y3 y4 z0 z1 : Value) :
    (both W g y0 y1 y2 y3 y4 z0 z1).heap[g]? = some (.cells #[y0, y1, y2, y3, y4] 33 (0, 0)) ∧ (both W g y0 y1 y2 y3 y4 z0 z1).heap[g + 1]? = some (.cells #[z0, z1] 26 (0, 0)) := by
  have n1 : g ≠ g + 1 := by omega
  have n2 : g + 1 ≠ g := by omega
  unfold both
  refine ⟨?_, ?_⟩
  · rw [set_heap n1, set_heap n1, set_at (set_at (set_at (set_at (set_at h2))))]; rfl
  · have h5 := h4
    rw [← set_heap (w := W) (g := g) (o := 0) (v := y0) n2, ← set_heap (g := g) (o := 1) (v := y1) n2, ← set_heap (g := g) (o := 2) (v := y2) n2, ← set_heap (g := g) (o := 3) (v := y3) n2, ← set_heap (g := g) (o := 4) (v := y4) n2] at h5
    rw [set_at (set_at h5)]; rfl
theorem drew_heap (w : World) : w.drew.heap = w.heap := rfl
theorem both_drew {W : World} {g : Nat} {x0 x1 x2 x3 x4 u0 u1 : Value} (h2 : W.heap[g]? = some (.cells #[x0, x1, x2, x3, x4] 33 (0, 0))) (h4 : W.heap[g + 1]? = some (.cells #[u0, u1] 26 (0, 0))) (y0 y1 y2 y3 y4 z0 z1 : Value) :
    (both W g y0 y1 y2 y3 y4 z0 z1).drew.heap[g]? = some (.cells #[y0, y1, y2, y3, y4] 33 (0, 0)) ∧ (both W g y0 y1 y2 y3 y4 z0 z1).drew.heap[g + 1]? = some (.cells #[z0, z1] 26 (0, 0)) := by
  rw [drew_heap]; exact both_facts h2 h4 _ _ _ _ _ _ _
theorem both_below {w W : World} {g : Nat} (h : Below w.heap.size w W) (hg : w.heap.size ≤ g) (y0 y1 y2 y3 y4 z0 z1 : Value) : Below w.heap.size w (both W g y0 y1 y2 y3 y4 z0 z1) :=
  ((((((h.setCell (p := ⟨g, 0, none⟩) hg _).setCell (p := ⟨g, 1, none⟩) hg _).setCell (p := ⟨g, 2, none⟩) hg _).setCell (p := ⟨g, 3, none⟩) hg _).setCell (p := ⟨g, 4, none⟩) hg _).setCell (p := ⟨g + 1, 0, none⟩) (Nat.le_succ_of_le hg) _).setCell (p := ⟨g + 1, 1, none⟩) (Nat.le_succ_of_le hg) _
theorem results_tnf {fn : Func} {p q s : Tmp} (h : fn.results = #[.cell p 33, .tmp q, .cell s 26]) (tmps : Array Value) (w : World) (g1 g2 : Nat) (cs1 cs2 : Array Value)
    (hp1 : tmps.getD p undef = .pointer (some ⟨g1, 0, none⟩)) (hg1 : w.heap[g1]? = some (.cells cs1 33 (0, 0))) (hi1 : cs1.size = 5)
    (hp2 : tmps.getD s undef = .pointer (some ⟨g2, 0, none⟩)) (hg2 : w.heap[g2]? = some (.cells cs2 26 (0, 0))) (hi2 : cs2.size = 2) :
    (results fn tmps).run Tryd.prog w = .ok (.tuple #[.agg cs1, tmps.getD q undef, .agg cs2]) w := by
  have hp1' : tmps[p]?.getD undef = .pointer (some ⟨g1, 0, none⟩) := by simpa using hp1
  have hp2' : tmps[s]?.getD undef = .pointer (some ⟨g2, 0, none⟩) := by simpa using hp2
  simp [results, h, hp1', hp2', asAddr, run_loadVar_row w g1 _ _ cs1 (0, 0) _ hg1 Tryd.underlying33 rfl (by rw [hi1]; exact A.infoT), run_loadVar_row w g2 _ _ cs2 (0, 0) _ hg2 Tryd.underlying26 rfl (by rw [hi2]; exact A.infoF)]
/-- A token (but for where it stands), how many bytes it has, and a fault. -/
def retV (k : Int) (x : ByteArray) (v : Int) (n c a : Int) : Value := .tuple #[.agg #[.int .i64 k, .int .i64 0, .string x, .int .i64 v, .bool false], .int .i64 n, .agg #[.int .i64 c, .int .i64 a]]
def badV (c a : Int) : Value := retV 0 ⟨#[]⟩ 0 0 c a
def boxT (w : World) : World := (w.alloc (.cells #[.int .i64 0, .int .i64 0, .string ⟨#[]⟩, .int .i64 0, .bool false] 33)).alloc (.cells #[.int .i64 0, .int .i64 0] 26)
theorem boxT_below (w : World) : Below w.heap.size w (boxT w) := ((Below.refl _ _).alloc (Nat.le_refl _) _).alloc (by simp) _
theorem boxT_facts (w : World) : (boxT w).heap[w.heap.size]? = some (.cells #[.int .i64 0, .int .i64 0, .string ⟨#[]⟩, .int .i64 0, .bool false] 33 (0, 0)) ∧ (boxT w).heap[w.heap.size + 1]? = some (.cells #[.int .i64 0, .int .i64 0] 26 (0, 0)) ∧ (boxT w).heap.size = w.heap.size + 1 + 1 := by
  have hs : (w.alloc (.cells #[.int .i64 0, .int .i64 0, .string ⟨#[]⟩, .int .i64 0, .bool false] 33)).heap.size = w.heap.size + 1 := by simp
  refine ⟨?_, ?_, by simp [boxT]⟩
  · unfold boxT
    rw [Below.heap_alloc _ _ _ (by rw [hs]; omega)]
    exact heap_alloc_new w _
  · have := heap_alloc_new (w.alloc (.cells #[.int .i64 0, .int .i64 0, .string ⟨#[]⟩, .int .i64 0, .bool false] 33)) (.cells #[.int .i64 0, .int .i64 0] 26)
    rw [hs] at this
    exact this
theorem two_new (w : World) (A B : Obj) : ((w.alloc A).alloc B).heap[w.heap.size]? = some A ∧ ((w.alloc A).alloc B).heap[w.heap.size + 1]? = some B ∧ Below w.heap.size w ((w.alloc A).alloc B) := by
  have hs : (w.alloc A).heap.size = w.heap.size + 1 := by simp
  refine ⟨?_, ?_, ((Below.refl _ _).alloc (Nat.le_refl _) _).alloc (by simp) _⟩
  · rw [Below.heap_alloc _ _ _ (by rw [hs]; omega)]
    exact heap_alloc_new w _
  · have := heap_alloc_new (w.alloc A) B
    rw [hs] at this
    exact this
theorem clone_any (s : ByteArray) (hs : s.size ≤ 281474976710656) (w : World) : Calls Tryd.prog 36 #[.string s] w fun e w' => e = .returned (.string s) ∧ Below w.heap.size w w' := by
  go_enter Tryd.func36, Tryd.ntmps36
  go_wp2_with fail
  refine (Tryd.stringslite_Clone s _ hs).mono ?_
  rintro e w' ⟨rfl, hb⟩
  go_wp2_with fail
  go_ret
  exact ⟨rfl, hb⟩
/-- The cells of the two boxes, as the walk wants them. -/
theorem seven {W : World} {g : Nat} {x0 x1 x2 x3 x4 u0 u1 : Value} (h2 : W.heap[g]? = some (.cells #[x0, x1, x2, x3, x4] 33 (0, 0))) (h4 : W.heap[g + 1]? = some (.cells #[u0, u1] 26 (0, 0))) :
    W.cell? ⟨g, 0, none⟩ = some x0 ∧ W.cell? ⟨g, 1, none⟩ = some x1 ∧ W.cell? ⟨g, 2, none⟩ = some x2 ∧ W.cell? ⟨g, 3, none⟩ = some x3 ∧ W.cell? ⟨g, 4, none⟩ = some x4 ∧ W.cell? ⟨g + 1, 0, none⟩ = some u0 ∧ W.cell? ⟨g + 1, 1, none⟩ = some u1 ∧
    W.frozen? ⟨g, 0, none⟩ = false ∧ W.frozen? ⟨g, 1, none⟩ = false ∧ W.frozen? ⟨g, 2, none⟩ = false ∧ W.frozen? ⟨g, 3, none⟩ = false ∧ W.frozen? ⟨g, 4, none⟩ = false ∧ W.frozen? ⟨g + 1, 0, none⟩ = false ∧ W.frozen? ⟨g + 1, 1, none⟩ = false := by
  refine ⟨?_, ?_, ?_, ?_, ?_, ?_, ?_, ?_, ?_, ?_, ?_, ?_, ?_, ?_⟩ <;> simp [World.cell?, World.frozen?, h2, h4]

theorem wl_all : ∀ (l : List UInt8), ∀ c ∈ l.take (wl l), isW c = true
  | [], c, h => by simp at h
  | x :: l, c, h => by
    cases hx : isW x
    · rw [wl_no hx] at h; simp at h
    · rw [wl_yes hx, List.take_succ_cons] at h
      rcases List.mem_cons.1 h with rfl | h
      · exact hx
      · exact wl_all l c h
theorem wl_no45 (l : List UInt8) : (45 : UInt8) ∉ l.take (wl l) := fun h => by
  have := wl_all l 45 h
  exact absurd this (by decide)
theorem take_list (s : ByteArray) (n : Nat) : (s.extract 0 n).data.toList = s.data.toList.take n := by rw [Lib.extract_data]; rfl
def digV (l : List UInt8) (x : ByteArray) (n : Nat) : Value := if (numV l).2 = 0 then retV 3 x (numV l).1 n 0 0 else badV (numV l).2 0
set_option maxRecDepth 100000 in
set_option maxHeartbeats 1000000 in
theorem digits_any (s : ByteArray) (hs : s.size ≤ 1048576) (h0 : 0 < wl s.data.toList) (w : World) :
    Calls Tryd.prog 41 #[.string s] w fun e w' => e = .returned (digV (s.data.toList.take (wl s.data.toList)) (s.extract 0 (wl s.data.toList)) (wl s.data.toList)) ∧ Below w.heap.size w w' := by
  have hle := wl_le s.data.toList
  rw [size_list] at hle
  have HW := Lib.hid fun w => wordLen_any s hs w
  have hx : (s.extract 0 (wl s.data.toList)).size = wl s.data.toList := by simp; omega
  have HN := Lib.hid fun w => number_any (s.extract 0 (wl s.data.toList)) (by omega) (by omega) (by rw [take_list]; exact wl_no45 _) w
  have HC := Lib.hid fun w => clone_any (s.extract 0 (wl s.data.toList)) (by omega) w
  rw [take_list] at HN
  unfold digV
  generalize numV (s.data.toList.take (wl s.data.toList)) = q at *
  obtain ⟨v, er⟩ := q
  simp only at HN ⊢
  generalize wl s.data.toList = n at *
  have HX := Lib.hid hx
  clear hx
  have HB := Lib.hid (boxT_below w)
  obtain ⟨m2, m4, mz⟩ := boxT_facts w
  by_cases he : er = 0
  · rw [if_pos he]
    subst he
    have HM := Lib.hid (And.intro m2 m4)
    clear m2 m4
    go_enter Tryd.func41, Tryd.ntmps41
    go_wp2_with fail
    refine (HW.out _).mono ?_
    rintro e w' ⟨rfl, rfl⟩
    go_wp2_with fail
    refine (HN.out _).mono ?_
    rintro e w' ⟨rfl, rfl⟩
    go_wp2_with fail
    refine (HC.out _).mono ?_
    rintro e w3 ⟨rfl, hb3⟩
    have hb3' : Below (boxT w).heap.size (boxT w) w3 := hb3
    have k2 := keep HM.out.1 hb3'
    have k4 := keep HM.out.2 hb3'
    have HB3 := Lib.hid (HB.out.trans (hb3'.mono HB.out.size))
    obtain ⟨c0, c1, c2, c3, c4, c5, c6, f0, f1, f2, f3, f4, f5, f6⟩ := seven k2 k4
    have HK := Lib.hid (And.intro k2 k4)
    clear k2 k4 hb3 hb3'
    go_wp2_with fail
    have HF := both_facts HK.out.1 HK.out.2 (.int .i64 3) (.int .i64 0) (.string (s.extract 0 n)) (.int .i64 v) (.bool false) (.int .i64 0) (.int .i64 0)
    refine bodyPost_ret (results_tnf rfl _ _ w.heap.size (w.heap.size + 1) _ _ rfl HF.1 rfl rfl HF.2 rfl) rfl ⟨rfl, both_below HB3.out (Nat.le_refl _) _ _ _ _ _ _ _⟩
  · rw [if_neg he]
    have he2 : (((er : Nat) : Int) != 0) = true := by rw [bne_iff_ne]; omega
    have he3 : ¬ ((er : Nat) : Int) = 0 := by omega
    clear m2 m4
    go_enter Tryd.func41, Tryd.ntmps41
    go_wp2_with fail
    refine (HW.out _).mono ?_
    rintro e w' ⟨rfl, rfl⟩
    go_wp2_with fail
    refine (HN.out _).mono ?_
    rintro e w' ⟨rfl, rfl⟩
    go_wp2_with fail
    have HF := two_new w (.cells #[.int .i64 0, .int .i64 0, .string ⟨#[]⟩, .int .i64 0, .bool false] 33) (.cells #[.int .i64 er, .int .i64 0] 26)
    (try simp only [Exit.inBlock, Exit.then])
    refine bodyPost_ret (results_tnf rfl _ _ w.heap.size (w.heap.size + 1) _ _ rfl HF.1 rfl rfl HF.2.1 rfl) rfl ⟨rfl, HF.2.2⟩

/-- Where a quote ends. -/
def qeF (q : UInt8) : List UInt8 → Nat → Bool → Nat
  | [], _, _ => 0
  | c :: l, at_, b => if c = 10 then 0 else if c = q ∧ b = false then at_ else qeF q l (at_ + 1) (c == 92 && !b)
theorem qe_stop {q c : UInt8} {l : List UInt8} {a : Nat} {b : Bool} (h : c = 10) : qeF q (c :: l) a b = 0 := by rw [qeF, if_pos h]
theorem qe_here {q c : UInt8} {l : List UInt8} {a : Nat} {b : Bool} (h : ¬ c = 10) (h2 : c = q ∧ b = false) : qeF q (c :: l) a b = a := by rw [qeF, if_neg h, if_pos h2]
theorem qe_on {q c : UInt8} {l : List UInt8} {a : Nat} {b : Bool} (h : ¬ c = 10) (h2 : ¬ (c = q ∧ b = false)) : qeF q (c :: l) a b = qeF q l (a + 1) (c == 92 && !b) := by rw [qeF, if_neg h, if_neg h2]
def qe (l : List UInt8) : Nat := match l with
  | [] => 0
  | q :: m => qeF q m 1 false
theorem qeF_lt (q : UInt8) : ∀ (l : List UInt8) (a : Nat) (b : Bool), 0 < a → qeF q l a b = 0 ∨ (a ≤ qeF q l a b ∧ qeF q l a b < a + l.length)
  | [], a, b, h => Or.inl rfl
  | c :: l, a, b, h => by
    rw [qeF]
    split
    · exact Or.inl rfl
    · split
      · right; rw [List.length_cons]; omega
      · rcases qeF_lt q l (a + 1) (c == 92 && !b) (by omega) with e | ⟨e1, e2⟩
        · exact Or.inl e
        · right; rw [List.length_cons]; omega
theorem u8_eq {a b : UInt8} : a = b ↔ a.toNat = b.toNat := UInt8.toNat_inj.symm
set_option maxRecDepth 100000 in
set_option maxHeartbeats 2000000 in
theorem quoteEnd_any (s : ByteArray) (hs : s.size ≤ 1048576) (h0 : 0 < s.size) (w : World) :
    Calls Tryd.prog 58 #[.string s] w fun e w' => e = .returned (.int .i64 ((qe s.data.toList : Nat) : Int)) ∧ Below w.heap.size w w' := by
  have hd0 := drop_byte s 0 h0
  rw [List.drop_zero] at hd0
  have hqe : qe s.data.toList = qeF s[0] (s.data.toList.drop 1) 1 false := by
    conv => lhs; rw [hd0]
    rfl
  rw [hqe]
  obtain ⟨R, hR⟩ : ∃ R, R = qeF s[0] (s.data.toList.drop 1) 1 false := ⟨_, rfl⟩
  rw [← hR]
  have HR := Lib.hid hR
  have hq := byte_lt s 0 h0
  clear hd0 hqe hR
  go_enter Tryd.func58, Tryd.ntmps58
  go_wp2_with fail
  go_loopw [3, 4] (fun b i wr => ∃ (k : Nat) (bb : Bool), 1 ≤ k ∧ k ≤ s.size ∧ i = .int .i64 (k : Int) ∧ b = .bool bb ∧ Hid (R = qeF s[0] (s.data.toList.drop k) k bb) ∧ Below w.heap.size w wr) (fun _ i _ => s.size - (intOf i).toNat)
  case atStart => exact ⟨1, false, by omega, by omega, rfl, rfl, HR.out, Below.refl _ _⟩
  case round =>
    obtain ⟨k, bb, hk1, hk, rfl, rfl, HU, hb⟩ := hrel
    by_cases hlt : k < s.size
    · have hc := byte_lt s k hlt
      have hU := HU.out
      rw [drop_byte s k hlt] at hU
      by_cases h10 : s[k] = 10
      · rw [qe_stop h10] at hU
        have e10 : ((s[k].toNat : Int) != 10) = false := by rw [h10]; rfl
        have e10b : ((s[k].toNat : Int) == 10) = true := by rw [h10]; rfl
        have HU2 := Lib.hid hU
        clear hU HU h10
        go_wp2_with fail
        go_ret
        exact ⟨ret_i64 (by rw [HU2.out]; rfl), hb⟩
      · have n10 : ¬ s[k].toNat = 10 := fun h => h10 (u8_eq.2 h)
        have e10 : ((s[k].toNat : Int) != 10) = true := by rw [bne_iff_ne]; omega
        have e10b : ((s[k].toNat : Int) == 10) = false := by rw [beq_eq_false_iff_ne]; omega
        by_cases hq2 : s[k] = s[0]
        · have eq : ((s[k].toNat : Int) == (s[0].toNat : Int)) = true := by rw [hq2]; simp
          cases bb
          · rw [qe_here h10 ⟨hq2, rfl⟩] at hU
            have HU2 := Lib.hid hU
            clear hU HU h10 hq2
            go_wp2_with fail
            go_quiet (fail)
            go_wp2_with fail
            go_ret
            exact ⟨ret_i64 (by rw [HU2.out]), below_drewN hb _⟩
          · rw [qe_on h10 (by simp)] at hU
            have hz : (s[k] == 92 && !true) = false := by simp
            rw [hz] at hU
            have HU2 := Lib.hid hU
            clear hU HU h10 hq2 hz
            go_wp2_with fail
            go_quiet (fail)
            go_wp2_with fail
            all_goals
              go_roundw
              case rel => exact ⟨k + 1, false, by omega, by omega, by go_num, rfl, HU2, below_drewN hb _⟩
              case measure => simp [intOf]; omega
        · have nq : ¬ s[k].toNat = s[0].toNat := fun h => hq2 (u8_eq.2 h)
          have eq : ((s[k].toNat : Int) == (s[0].toNat : Int)) = false := by rw [beq_eq_false_iff_ne]; omega
          rw [qe_on h10 (fun h => hq2 h.1)] at hU
          by_cases h92 : s[k] = 92
          · have e92 : ((s[k].toNat : Int) == 92) = true := by rw [h92]; rfl
            cases bb
            · have hz : (s[k] == 92 && !false) = true := by rw [h92]; rfl
              rw [hz] at hU
              have HU2 := Lib.hid hU
              clear hU HU h10 hq2 hz h92
              go_wp2_with fail
              go_quiet (fail)
              go_wp2_with fail
              go_roundw
              case rel => exact ⟨k + 1, true, by omega, by omega, by go_num, rfl, HU2, below_drewN hb _⟩
              case measure => simp [intOf]; omega
            · have hz : (s[k] == 92 && !true) = false := by simp
              rw [hz] at hU
              have HU2 := Lib.hid hU
              clear hU HU h10 hq2 hz h92
              go_wp2_with fail
              go_quiet (fail)
              go_wp2_with fail
              go_roundw
              case rel => exact ⟨k + 1, false, by omega, by omega, by go_num, rfl, HU2, below_drewN hb _⟩
              case measure => simp [intOf]; omega
          · have n92 : ¬ s[k].toNat = 92 := fun h => h92 (u8_eq.2 h)
            have e92 : ((s[k].toNat : Int) == 92) = false := by rw [beq_eq_false_iff_ne]; omega
            have hz : (s[k] == 92 && !bb) = false := by rw [beq_eq_false_iff_ne.2 h92]; rfl
            rw [hz] at hU
            have HU2 := Lib.hid hU
            clear hU HU h10 hq2 hz h92
            go_wp2_with fail
            go_quiet (fail)
            go_wp2_with fail
            go_roundw
            case rel => exact ⟨k + 1, false, by omega, by omega, by go_num, rfl, HU2, below_drewN hb _⟩
            case measure => simp [intOf]; omega
    · have hR0 : R = 0 := by rw [HU.out, drop_end s k (by omega)]; rfl
      have HR0 := Lib.hid hR0
      clear hR0
      go_wp2_with fail
      go_ret
      exact ⟨ret_i64 (by rw [HR0.out]; rfl), hb⟩
end Go.Proofs.YthjmlgbnpnfkgaaDoor.Lx
