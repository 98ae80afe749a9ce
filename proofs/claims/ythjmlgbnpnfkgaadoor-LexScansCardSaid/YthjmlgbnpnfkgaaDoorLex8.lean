/- Contract of lex.Scan. -/
import Derived.Test.YthjmlgbnpnfkgaaDoorLex7
import Derived.Laws.AppendOwnNone
import Derived.Laws.OwnMore
set_option linter.unusedVariables false
namespace Go.Proofs.YthjmlgbnpnfkgaaDoor.Lx
open Go.RowKit Go.ChangeShapes Go.WideShapes Go.ChangeAt Go.Proofs.YthjmlgbnpnfkgaaDoor.Nu

structure Tk where
  k : Int
  a : Int
  x : List UInt8
  v : Int
  b : Bool
def celT (t : Tk) : List Value := [.int .i64 t.k, .int .i64 t.a, .string ⟨t.x.toArray⟩, .int .i64 t.v, .bool t.b]
def flatT (L : List Tk) : List Value := L.flatMap celT
theorem flatT_append (L M : List Tk) : flatT (L ++ M) = flatT L ++ flatT M := List.flatMap_append ..
theorem flatT_one (t : Tk) : flatT [t] = celT t := by simp [flatT]
theorem flatT_len : ∀ L : List Tk, (flatT L).length = L.length * 5
  | [] => rfl
  | t :: L => by
    have : flatT (t :: L) = celT t ++ flatT L := rfl
    rw [this, List.length_append, flatT_len L]; simp [celT]; omega
theorem celT_cells (t : Tk) : ∀ u ∈ celT t, u.oneCell' = true := by
  intro u hu
  simp [celT] at hu
  rcases hu with rfl | rfl | rfl | rfl | rfl <;> rfl
def gap (l : List UInt8) (e : Nat) : Nat × Bool × Bool := gapF l.length (l.drop e) e false
def scanF : Nat → List UInt8 → Nat → List Tk → List Tk × Int × Int
  | 0, _, _, _ => ([], 0, 0)
  | f + 1, l, e, acc =>
    if (gap l e).2.2 = false then ([], 5, ((gap l e).1 : Int))
    else if (gap l e).1 = l.length then (acc ++ [⟨6, ((gap l e).1 : Int), [], 0, (gap l e).2.1⟩], 0, 0)
    else if acc.length = 65536 then ([], 2, ((gap l e).1 : Int))
    else if (frs (l.drop (gap l e).1)).c = 0 then scanF f l ((gap l e).1 + (frs (l.drop (gap l e).1)).n) (acc ++ [⟨(frs (l.drop (gap l e).1)).k, ((gap l e).1 : Int), (frs (l.drop (gap l e).1)).x, (frs (l.drop (gap l e).1)).v, (gap l e).2.1⟩])
    else ([], (frs (l.drop (gap l e).1)).c, ((gap l e).1 : Int) + (frs (l.drop (gap l e).1)).a)
def scan (l : List UInt8) : List Tk × Int × Int := if 262144 < l.length then ([], 2, 0) else scanF (l.length + 1) l 0 []
theorem gapF_le : ∀ (f : Nat) (l : List UInt8) (a : Nat) (b : Bool), a ≤ (gapF f l a b).1 ∧ (gapF f l a b).1 ≤ a + l.length
  | 0, l, a, b => by rw [gapF]; simp
  | f + 1, [], a, b => by rw [gap_nil]; simp
  | f + 1, c :: m, a, b => by
    by_cases h1 : c = 10
    · rw [gap_line h1]
      have := gapF_le f m (a + 1) true
      rw [List.length_cons]; omega
    · by_cases h2 : c = 32 ∨ c = 9 ∨ c = 13
      · rw [gap_blank h1 h2]
        have := gapF_le f m (a + 1) b
        rw [List.length_cons]; omega
      · by_cases h3 : c = 35 ∨ Lib.hasPrefix (c :: m) [47, 47] = true
        · rw [gap_note h1 h2 h3]
          have h4 := ll_pos (m := m) h1
          have := gapF_le f ((c :: m).drop (ll (c :: m))) (a + ll (c :: m)) b
          rw [List.length_drop] at this; omega
        · by_cases h4 : Lib.hasPrefix (c :: m) [47, 42] = true
          · by_cases h5 : nl (c :: m) = 0
            · rw [gap_open h1 h2 h3 h4 h5]; simp
            · rw [gap_long h1 h2 h3 h4 h5]
              have h6 := nl_le (c :: m)
              have := gapF_le f ((c :: m).drop (nl (c :: m))) (a + nl (c :: m)) (b || ((c :: m).take (nl (c :: m))).contains 10)
              rw [List.length_drop] at this; omega
          · rw [gap_end h1 h2 h3 h4]; simp
theorem gap_le (l : List UInt8) (e : Nat) (h : e ≤ l.length) : e ≤ (gap l e).1 ∧ (gap l e).1 ≤ l.length := by
  have := gapF_le l.length (l.drop e) e false
  rw [List.length_drop] at this
  unfold gap; omega
theorem numV_codes (l : List UInt8) : (numV l).2 = 0 ∨ (numV l).2 ≠ 0 := by omega
theorem qe_lt (l : List UInt8) : qe l = 0 ∨ (1 ≤ qe l ∧ qe l < l.length) := by
  cases l with
  | nil => left; rfl
  | cons q m =>
    have := qeF_lt q m 1 false (by decide)
    show qeF q m 1 false = 0 ∨ (1 ≤ qeF q m 1 false ∧ qeF q m 1 false < (q :: m).length)
    rw [List.length_cons]; omega
theorem inq_bd (l : List UInt8) (q : Nat) (h : q < l.length) : (inq l q).2 < 0 ∨ (0 ≤ (inq l q).2 ∧ (inq l q).2 < l.length) := by
  unfold inq
  rcases une_bd (q - 1) ((l.drop 1).take (q - 1)) 0 [] (by rw [List.length_take]; omega) with ⟨r, h1, _⟩ | ⟨n, h1, h2⟩
  · rw [h1]; left; exact (show (-1 : Int) < 0 by decide)
  · rw [h1]; right
    rw [List.length_take, List.length_drop] at h2
    show (0 : Int) ≤ (n : Int) ∧ (n : Int) < (l.length : Int); omega
/-- How a token's bytes and a fault's place are bounded. -/
theorem frs_bd (c : UInt8) (l : List UInt8) : ((frs (c :: l)).c = 0 ∧ 1 ≤ (frs (c :: l)).n ∧ (frs (c :: l)).n ≤ (c :: l).length) ∨ ((frs (c :: l)).c ≠ 0 ∧ 0 ≤ (frs (c :: l)).a ∧ (frs (c :: l)).a ≤ (c :: l).length) := by
  rw [frs_cons]
  by_cases h1 : dgB c.toNat = true
  · rw [if_pos h1]
    have hw : 1 ≤ wl (c :: l) := by rw [wl_yes (by unfold isW; rw [h1]; rfl)]; omega
    have := wl_le (c :: l)
    unfold frD
    split
    · left; exact ⟨rfl, hw, this⟩
    · rename_i h; right; exact ⟨by show (((numV ((c :: l).take (wl (c :: l)))).2 : Nat) : Int) ≠ 0; omega, by show (0 : Int) ≤ 0; decide, by show (0 : Int) ≤ _; omega⟩
  · rw [if_neg h1]
    by_cases h2 : c = 39 ∨ c = 34
    · rw [if_pos h2]
      unfold frQ
      by_cases h3 : qe (c :: l) = 0
      · rw [if_pos h3]; right; exact ⟨by show (5 : Int) ≠ 0; decide, by show (0 : Int) ≤ 0; decide, by show (0 : Int) ≤ _; omega⟩
      · rw [if_neg h3]
        have h4 := (qe_lt (c :: l)).resolve_left h3
        rcases inq_bd (c :: l) (qe (c :: l)) h4.2 with h5 | ⟨h5, h6⟩
        · rw [if_pos h5]
          split
          · left; exact ⟨rfl, by show 1 ≤ qe (c :: l) + 1; omega, by show qe (c :: l) + 1 ≤ _; omega⟩
          · split
            · left; exact ⟨rfl, by show 1 ≤ qe (c :: l) + 1; omega, by show qe (c :: l) + 1 ≤ _; omega⟩
            · right; exact ⟨by show (5 : Int) ≠ 0; decide, by show (0 : Int) ≤ 0; decide, by show (0 : Int) ≤ _; omega⟩
        · rw [if_neg (by omega)]
          right
          refine ⟨by show (20 : Int) ≠ 0; decide, by show (0 : Int) ≤ 1 + _; omega, ?_⟩
          show 1 + (inq (c :: l) (qe (c :: l))).2 ≤ _
          omega
    · rw [if_neg h2]
      by_cases h3 : stB c.toNat = true
      · rw [if_pos h3]
        have hw : 1 ≤ wl (c :: l) := by rw [wl_yes (by unfold isW; rw [h3]; simp)]; omega
        have := wl_le (c :: l)
        left; exact ⟨rfl, hw, this⟩
      · rw [if_neg h3]
        have := sg_le (c :: l)
        unfold frS
        split
        · right; exact ⟨by show (80 : Int) ≠ 0; decide, by show (0 : Int) ≤ 0; decide, by show (0 : Int) ≤ _; omega⟩
        · left; exact ⟨rfl, by show 1 ≤ sg (c :: l); omega, this.1⟩
theorem A.infoTT : (Tryd.prog.info? 33).map (fun i => (i.zero, i.size, i.bytes)) = some (some (.agg #[.int .i64 0, .int .i64 0, .string ⟨#[]⟩, .int .i64 0, .bool false]), 5, 48) := by kernel_rfl
theorem row_shape {B e size n : Nat} {v : Value} {w : World} {xs : List Value} (h : w.ownsRow B e size v n xs) : ∃ ad cap, v = .slice ad n cap := by
  rcases h.2 with ⟨rfl, rfl⟩ | ⟨g, cap, cur, rfl, _⟩
  · exact ⟨none, 0, rfl⟩
  · exact ⟨_, cap, rfl⟩
theorem cell_below {B b i : Nat} {v : Value} {W W' : World} (h : Below B W W') (hb : b < B) (hc : W.cell? ⟨b, i, none⟩ = some v) : W'.cell? ⟨b, i, none⟩ = some v := by
  rw [← hc]
  exact World.cell?_of_block (h.block b hb)
theorem own_low {B B' e size n : Nat} {v : Value} {w : World} {xs : List Value} (h : w.ownsRow B e size v n xs) (hB : B' ≤ B) : w.ownsRow B' e size v n xs := by
  refine ⟨h.1, ?_⟩
  rcases h.2 with h1 | ⟨g, c, cur, hv, hb, rest⟩
  · exact Or.inl h1
  · exact Or.inr ⟨g, c, cur, hv, Nat.le_trans hB hb, rest⟩
theorem cells_new (W : World) (t : Tk) : ∀ (j : Nat) (u : Value), (celT t)[j]? = some u → (W.alloc (.cells #[.int .i64 t.k, .int .i64 t.a, .string ⟨t.x.toArray⟩, .int .i64 t.v, .bool t.b] 33)).cell? ((⟨W.heap.size, 0, none⟩ : Addr).add j) = some u := by
  intro j u hj
  rw [Go.WideShapes.add_plain, Nat.zero_add, cell_of_row _ _ _ _ _ _ (heap_alloc_new W _)]
  simpa [celT] using hj
theorem row_apart {B e size n g : Nat} {v : Value} {w : World} {xs : List Value} (h : w.ownsRow B e size v n xs) (hg : g < B) : some g ≠ v.ownBlock := fun e' => by
  have := (h.lt g e'.symm).1; omega
theorem row_set2 {B e size n g o o2 : Nat} {x v v2 : Value} {w : World} {xs : List Value} {cs : Array Value} {T : TypeId} {fr : Nat × Nat} (h : w.ownsRow B e size x n xs) (hg : w.heap[g]? = some (.cells cs T fr)) (ht : T ≠ e) : ((w.setCell ⟨g, o, none⟩ v).setCell ⟨g, o2, none⟩ v2).ownsRow B e size x n xs := by
  have hne : x.ownBlock ≠ some g := fun e' => by
    rcases h.2 with ⟨hv, _⟩ | ⟨g', c, cur, hv, _, hh, _⟩
    · rw [hv] at e'; cases e'
    · rw [hv] at e'; simp [Value.ownBlock] at e'; subst e'
      rw [hg] at hh; simp only [Option.some.injEq, Obj.cells.injEq] at hh; exact ht hh.2.1
  have h1 := World.ownsRow.kept (w' := w.setCell ⟨g, o, none⟩ v) (row := some g) h ⟨rfl, rfl, rfl, by simp [World.setCell], fun k _ hk => set_heap (fun e => hk (congrArg some e))⟩ (.inr hne)
  exact World.ownsRow.kept (w' := (w.setCell ⟨g, o, none⟩ v).setCell ⟨g, o2, none⟩ v2) (row := some g) h1 ⟨rfl, rfl, rfl, by simp [World.setCell], fun k _ hk => set_heap (fun e => hk (congrArg some e))⟩ (.inr hne)
theorem row_below {B e size n : Nat} {v : Value} {w w' : World} {xs : List Value} (h : w.ownsRow B e size v n xs) (hb : Below w.heap.size w w') : w'.ownsRow B e size v n xs :=
  World.ownsRow.kept (row := none) h ⟨hb.os, hb.tape, hb.output, hb.size, fun k hk _ => hb.block k hk⟩ (Classical.em _)
/-- What Scan leaves. -/
def Scanned (w : World) (R : List Tk × Int × Int) (x : Ending) (w' : World) : Prop :=
  ∃ v, x = .returned (.tuple #[v, .agg #[.int .i64 R.2.1, .int .i64 R.2.2]]) ∧ w'.ownsRow w.heap.size 33 5 v R.1.length (flatT R.1) ∧ Below w.heap.size w w'
set_option maxRecDepth 100000 in
set_option maxHeartbeats 8000000 in
theorem scan_any (s : ByteArray) (m : Int) (w : World) (hm : w.cell? ⟨0, 0, none⟩ = some (.int .i64 m)) (hlen : s.size ≤ 9223372036854775807) :
    Calls Tryd.prog 10 #[.string s] w (Scanned w (scan s.data.toList)) := by
  obtain ⟨i0, hi, hz0, hz1, hz2⟩ := info_parts A.infoTT
  have h0 : 0 < w.heap.size := by
    refine Nat.pos_of_ne_zero fun h => ?_
    have e : w.heap = #[] := Array.eq_empty_of_size_eq_zero h
    simp [World.cell?, e] at hm
  have HM := Lib.hid hm
  clear hm
  have hq0 := heap_alloc_new w (.cells #[.int .i64 0, .int .i64 0] 26)
  have HQ0 := Lib.hid hq0
  have HE0 := Lib.hid ((Below.refl w.heap.size w).alloc (Nat.le_refl _) (.cells #[.int .i64 0, .int .i64 0] 26))
  clear hq0
  unfold scan
  rw [size_list]
  by_cases hbig : 262144 < s.size
  · rw [if_pos hbig]
    go_enter Tryd.func10, Tryd.ntmps10
    go_wp2_with fail
    refine bodyPost_ret (results_two rfl _ _ w.heap.size 26 #[.int .i64 2, .int .i64 0] (0, 0) _ rfl (heap_alloc_new w _) Tryd.underlying26 rfl A.infoF) rfl ?_
    exact ⟨.slice none 0 0, rfl, World.ownsRow_nil _ _ _ _, (Below.refl _ _).alloc (Nat.le_refl _) _⟩
  · rw [if_neg hbig]
    have hs : s.size ≤ 1048576 := by omega
    obtain ⟨R, hR⟩ : ∃ R, R = scanF (s.size + 1) s.data.toList 0 [] := ⟨_, rfl⟩
    rw [← hR]
    have HR := Lib.hid hR
    clear hR
    go_enter Tryd.func10, Tryd.ntmps10
    go_wp2_with fail
    go_loopw [4, 5] (fun v i wr => ∃ (e f : Nat) (acc : List Tk), e ≤ s.size ∧ s.size + 1 ≤ f + e ∧ acc.length ≤ 65536 ∧ i = .int .i64 (e : Int) ∧ Hid (R = scanF f s.data.toList e acc) ∧ Hid (wr.ownsRow (w.heap.size + 1) 33 5 v acc.length (flatT acc)) ∧ Hid (wr.heap[w.heap.size]? = some (.cells #[.int .i64 0, .int .i64 0] 26 (0, 0))) ∧ Below w.heap.size w wr) (fun _ i _ => s.size - (intOf i).toNat)
    case atStart => exact ⟨0, s.size + 1, [], by omega, by omega, by simp, rfl, HR.out, World.ownsRow_nil _ _ _ _, HQ0.out, HE0.out⟩
    case round =>
      obtain ⟨e, f, acc, he, hf, hacc, rfl, HU, HO, HQ, hb⟩ := hrel
      have zr := hb.size
      have hql : w.heap.size < wr.heap.size := lt_of_block HQ.out
      obtain ⟨c0, c1, f0, f1⟩ := fault_facts HQ.out
      obtain ⟨f, rfl⟩ : ∃ g, f = g + 1 := ⟨f - 1, by omega⟩
      have hU := HU.out
      rw [scanF] at hU
      have hgl := gap_le s.data.toList e (by rw [size_list]; exact he)
      have HBT : Hid (∀ w, w.cell? ⟨0, 0, none⟩ = some (.int .i64 m) → Calls Tryd.prog 20 #[.string s, .int .i64 (e : Int)] w fun e' w' => e' = .returned (.tuple #[.int .i64 ((gap s.data.toList e).1 : Int), .bool (gap s.data.toList e).2.1, .bool (gap s.data.toList e).2.2]) ∧ w = w') := fun w hm => by
        have := between_any s hs e he s.size (by omega) m w hm
        unfold gap; rw [size_list]; exact this
      rw [size_list] at hgl hU
      have hcell := cell_below hb h0 HM.out
      generalize gap s.data.toList e = g at *
      obtain ⟨at_, ln, ok⟩ := g
      simp only at hU hgl HBT
      obtain ⟨hg1, hg2⟩ := hgl
      obtain ⟨ad, cap, rfl⟩ := row_shape HO.out
      cases ok
      · rw [if_pos rfl] at hU
        have HU2 := Lib.hid hU
        have HX := Lib.hid (HBT.out wr hcell)
        clear hU hcell HU
        go_wp2_with fail
        refine HX.out.mono ?_
        rintro e' w1 ⟨rfl, rfl⟩
        go_wp2_with fail
        (try simp only [Exit.inBlock, Exit.then])
        refine bodyPost_ret (results_two rfl _ _ w.heap.size 26 #[.int .i64 5, .int .i64 (at_ : Int)] (0, 0) _ rfl (heap_fault HQ.out _ _) Tryd.underlying26 rfl A.infoF) rfl ?_
        rw [HU2.out]
        exact ⟨.slice none 0 0, rfl, World.ownsRow_nil _ _ _ _, (hb.setCell (by simp) _).setCell (by simp) _⟩
      · rw [if_neg (by simp)] at hU
        by_cases hend : at_ = s.size
        · rw [if_pos hend] at hU
          subst hend
          have HU2 := Lib.hid hU
          have HX := Lib.hid (HBT.out wr hcell)
          clear hU hcell HU
          go_wp2_with fail
          refine HX.out.mono ?_
          rintro e' w1 ⟨rfl, rfl⟩
          go_wp2_with (at_builtin; refine wpList_append_own _ rfl _ _ 23 rfl (w.heap.size + 1) 33 i0 (.agg #[.int .i64 0, .int .i64 0, .string ⟨#[]⟩, .int .i64 0, .bool false]) 5 48 Tryd.underlying23 hi hz0 hz1 hz2 rfl (by decide) (.slice ad acc.length cap) acc.length (flatT acc) rfl (HO.out.alloc _) ⟨wr.heap.size, 0, none⟩ 1 1 (celT ⟨6, (s.size : Int), [], 0, ln⟩) rfl rfl (cells_new wr ⟨6, (s.size : Int), [], 0, ln⟩) (celT_cells _) ?c3 ?c4 ?c5 ?_)
          case c3 => unfold maxLen; omega
          case c4 => omega
          case c5 => simp; omega
          intro v' w4 hown' hgrow _
          have hq4 : w4.heap[w.heap.size]? = some (.cells #[.int .i64 0, .int .i64 0] 26 (0, 0)) := by
            rw [hgrow.block _ (by simp; omega) (row_apart HO.out (by omega)), Below.heap_alloc _ _ _ hql]; exact HQ.out
          obtain ⟨d0, d1, g0, g1⟩ := fault_facts hq4
          have hB4 : Below w.heap.size w w4 := (hb.alloc zr _).grown hgrow (by simp; omega) (fun k hk => by have := (HO.out.lt k hk).1; omega)
          have hO4 := own_low hown' (show w.heap.size ≤ w.heap.size + 1 by omega)
          have hO5 := row_set2 (o := 0) (o2 := 1) (v := .int .i64 0) (v2 := .int .i64 0) hO4 hq4 (by decide)
          have HO5 := Lib.hid hO5
          have HQ4 := Lib.hid hq4
          have HB4 := Lib.hid hB4
          clear hO4 hO5 hq4 hB4 hown' hgrow
          go_wp2_with fail
          (try simp only [Exit.inBlock, Exit.then])
          refine bodyPost_ret (results_two rfl _ _ w.heap.size 26 #[.int .i64 0, .int .i64 0] (0, 0) _ rfl (heap_fault HQ4.out _ _) Tryd.underlying26 rfl A.infoF) rfl ?_
          rw [HU2.out]
          refine ⟨v', rfl, ?_, (HB4.out.setCell (by simp) _).setCell (by simp) _⟩
          show World.ownsRow _ _ _ _ _ (acc ++ [_]).length (flatT (acc ++ [_]))
          rw [flatT_append, flatT_one, List.length_append]
          exact HO5.out
        · rw [if_neg hend] at hU
          have hne : ((at_ : Int) == (s.size : Int)) = false := by rw [beq_eq_false_iff_ne]; omega
          have hlt : at_ < s.size := by omega
          by_cases hful : acc.length = 65536
          · rw [if_pos hful] at hU
            have HU2 := Lib.hid hU
            have HX := Lib.hid (HBT.out wr hcell)
            have hfl : ((acc.length : Int) == 65536) = true := by rw [hful]; rfl
            clear hU hcell HU hend hful
            go_wp2_with fail
            refine HX.out.mono ?_
            rintro e' w1 ⟨rfl, rfl⟩
            go_wp2_with fail
            (try simp only [Exit.inBlock, Exit.then])
            refine bodyPost_ret (results_two rfl _ _ w.heap.size 26 #[.int .i64 2, .int .i64 (at_ : Int)] (0, 0) _ rfl (heap_fault HQ.out _ _) Tryd.underlying26 rfl A.infoF) rfl ?_
            rw [HU2.out]
            exact ⟨.slice none 0 0, rfl, World.ownsRow_nil _ _ _ _, (hb.setCell (by simp) _).setCell (by simp) _⟩
          · rw [if_neg hful] at hU
            have hfl : ((acc.length : Int) == 65536) = false := by rw [beq_eq_false_iff_ne]; omega
            have HFU := Lib.hid (show acc.length + 1 ≤ 65536 by omega)
            have hxl : (s.extract at_ s.size).data.toList = s.data.toList.drop at_ := by rw [Lib.extract_data]; exact List.take_of_length_le (by simp)
            have hxz : (s.extract at_ s.size).size = s.size - at_ := by simp
            have HF : Hid (∀ w, Calls Tryd.prog 21 #[.string (s.extract at_ s.size)] w fun e' w' => e' = .returned (frs (s.data.toList.drop at_)).val ∧ Below w.heap.size w w') := fun w => by
              have := first_any (s.extract at_ s.size) (by omega) (by omega) w
              rw [hxl] at this; exact this
            have hbd := frs_bd s[at_] (s.data.toList.drop (at_ + 1))
            rw [← drop_byte s at_ hlt, List.length_drop, size_list] at hbd
            generalize frs (s.data.toList.drop at_) = F at *
            have HX := Lib.hid (HBT.out wr hcell)
            unfold Fst.val retV at HF
            clear hxl hxz hcell hend hful
            rcases hbd with ⟨hc0, hn1, hn2⟩ | ⟨hc0, ha1, ha2⟩
            · rw [if_pos hc0] at hU
              have HU2 := Lib.hid hU
              rw [hc0] at HF
              clear hU HU hc0
              go_wp2_with fail
              refine HX.out.mono ?_
              rintro e' w1 ⟨rfl, rfl⟩
              go_wp2_with fail
              refine (HF.out _).mono ?_
              rintro e' w6 ⟨rfl, hb6⟩
              have hB7 := (two_new w6 (.cells #[.int .i64 F.k, .int .i64 (at_ : Int), .string ⟨F.x.toArray⟩, .int .i64 F.v, .bool ln] 33) (.cells #[.int .i64 0, .int .i64 F.a] 26))
              obtain ⟨m5, _, hB7⟩ := hB7
              have hwb := hb6.trans (hB7.mono hb6.size)
              have HO7 := Lib.hid (row_below HO.out hwb)
              have HQ7 := Lib.hid (keep HQ.out hwb)
              have HB7 := Lib.hid (hb.trans (hwb.mono zr))
              clear hB7 hwb hb6
              go_upto_region 16 with (fail)
              generalize (w6.alloc (.cells #[.int .i64 F.k, .int .i64 (at_ : Int), .string ⟨F.x.toArray⟩, .int .i64 F.v, .bool ln] 33)).alloc (.cells #[.int .i64 0, .int .i64 F.a] 26) = W7 at *
              obtain ⟨d0, d1, d2, d3, d4⟩ := five m5
              have z7 := HB7.out.size
              clear m5
              go_wp2_with (at_builtin; refine wpList_append_own _ rfl _ _ 23 rfl (w.heap.size + 1) 33 i0 (.agg #[.int .i64 0, .int .i64 0, .string ⟨#[]⟩, .int .i64 0, .bool false]) 5 48 Tryd.underlying23 hi hz0 hz1 hz2 rfl (by decide) (.slice ad acc.length cap) acc.length (flatT acc) rfl (HO7.out.alloc _) ⟨W7.heap.size, 0, none⟩ 1 1 (celT ⟨F.k, (at_ : Int), F.x, F.v, ln⟩) rfl rfl (cells_new W7 ⟨F.k, (at_ : Int), F.x, F.v, ln⟩) (celT_cells _) ?c3 ?c4 ?c5 ?_)
              case c3 => unfold maxLen; omega
              case c4 => omega
              case c5 => have := lt_of_block HQ7.out; simp; omega
              intro v' w4 hown' hgrow _
              have hql7 : w.heap.size < W7.heap.size := lt_of_block HQ7.out
              have hq4 : w4.heap[w.heap.size]? = some (.cells #[.int .i64 0, .int .i64 0] 26 (0, 0)) := by
                rw [hgrow.block _ (by simp; omega) (row_apart HO7.out (by omega)), Below.heap_alloc _ _ _ hql7]; exact HQ7.out
              have hB4 : Below w.heap.size w w4 := (HB7.out.alloc z7 _).grown hgrow (by simp; omega) (fun k hk => by have := (HO7.out.lt k hk).1; omega)
              have hO4 : w4.ownsRow (w.heap.size + 1) 33 5 v' (acc ++ [(⟨F.k, (at_ : Int), F.x, F.v, ln⟩ : Tk)]).length (flatT (acc ++ [(⟨F.k, (at_ : Int), F.x, F.v, ln⟩ : Tk)])) := by
                rw [flatT_append, flatT_one, List.length_append]; exact hown'
              have HO4 := Lib.hid hO4
              have HQ4 := Lib.hid hq4
              have HB4 := Lib.hid hB4
              clear hO4 hq4 hB4 hown' hgrow d0 d1 d2 d3 d4
              go_wp2_with fail
              go_roundw
              case rel => exact ⟨at_ + F.n, f, acc ++ [⟨F.k, (at_ : Int), F.x, F.v, ln⟩], by omega, by omega, by rw [List.length_append]; exact HFU.out, by go_num, HU2, HO4, HQ4, HB4.out⟩
              case measure => simp [intOf]; omega
            · rw [if_neg hc0] at hU
              have HU2 := Lib.hid hU
              have hcn : ((F.c) != 0) = true := by rw [bne_iff_ne]; exact hc0
              have ha3 : F.a ≤ 1048576 := by omega
              clear hU HU
              go_wp2_with fail
              refine HX.out.mono ?_
              rintro e' w1 ⟨rfl, rfl⟩
              go_wp2_with fail
              refine (HF.out _).mono ?_
              rintro e' w6 ⟨rfl, hb6⟩
              have hB7 := (two_new w6 (.cells #[.int .i64 F.k, .int .i64 0, .string ⟨F.x.toArray⟩, .int .i64 F.v, .bool false] 33) (.cells #[.int .i64 F.c, .int .i64 F.a] 26))
              obtain ⟨_, m6, hB7⟩ := hB7
              have hwb := hb6.trans (hB7.mono hb6.size)
              have HQ7 := Lib.hid (keep HQ.out hwb)
              have HB7 := Lib.hid (hb.trans (hwb.mono zr))
              have hn : w.heap.size < w6.heap.size := by have := hb6.size; omega
              have n1 : ¬ w.heap.size = w6.heap.size + 1 := by omega
              have n2 : ¬ w6.heap.size + 1 = w.heap.size := by omega
              clear hB7 hwb hb6 hn
              go_wp2_with fail
              generalize (w6.alloc (.cells #[.int .i64 F.k, .int .i64 0, .string ⟨F.x.toArray⟩, .int .i64 F.v, .bool false] 33)).alloc (.cells #[.int .i64 F.c, .int .i64 F.a] 26) = W7 at *
              generalize w6.heap.size + 1 = g6 at *
              obtain ⟨d0, d1, _, _⟩ := fault_facts m6
              clear c0 c1 f0 f1
              obtain ⟨c0, c1, f0, f1⟩ := fault_facts HQ7.out
              clear m6
              go_region
              have hfin := heap_fault HQ7.out (.int .i64 F.c) (.int .i64 ((at_ : Int) + F.a))
              have hfd : (((W7.setCell ⟨w.heap.size, 0, none⟩ (.int .i64 F.c)).setCell ⟨w.heap.size, 1, none⟩ (.int .i64 ((at_ : Int) + F.a))).drew).heap[w.heap.size]? = some (.cells #[.int .i64 F.c, .int .i64 ((at_ : Int) + F.a)] 26 (0, 0)) := hfin
              have HFD := Lib.hid hfd
              have HBD := Lib.hid (((HB7.out.setCell (p := ⟨w.heap.size, 0, none⟩) (Nat.le_refl _) (.int .i64 F.c)).setCell (p := ⟨w.heap.size, 1, none⟩) (Nat.le_refl _) (.int .i64 ((at_ : Int) + F.a))).drew)
              clear hfin hfd c0 c1 f0 f1 d0 d1
              go_wp2_with fail
              (try simp only [Exit.inBlock, Exit.then])
              refine bodyPost_ret (results_two rfl _ _ w.heap.size 26 #[.int .i64 F.c, .int .i64 ((at_ : Int) + F.a)] (0, 0) _ rfl HFD.out Tryd.underlying26 rfl A.infoF) rfl ?_
              rw [HU2.out]
              exact ⟨.slice none 0 0, rfl, World.ownsRow_nil _ _ _ _, HBD.out⟩
end Go.Proofs.YthjmlgbnpnfkgaaDoor.Lx
