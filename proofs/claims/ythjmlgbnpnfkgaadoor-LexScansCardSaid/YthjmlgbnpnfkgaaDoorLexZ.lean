/- Contract of dreyref08.Scan. -/
import Derived.Test.YthjmlgbnpnfkgaaDoorLexW
set_option linter.unusedVariables false
namespace Go.Proofs.YthjmlgbnpnfkgaaDoor.Lx
open Go.RowKit Go.ChangeShapes Go.WideShapes Go.ChangeAt Go.Proofs.YthjmlgbnpnfkgaaDoor.Nu

theorem A.infoRTT : (Tryd.prog.info? 34).map (fun i => (i.zero, i.size, i.bytes)) = some (some (.agg #[.int .i64 0, .int .i64 0, .string ⟨#[]⟩, .int .i64 0, .bool false]), 5, 48) := by kernel_rfl
theorem rcells_new (W : World) (t : Tk) : ∀ (j : Nat) (u : Value), (celT t)[j]? = some u → (W.alloc (.cells #[.int .i64 t.k, .int .i64 t.a, .string ⟨t.x.toArray⟩, .int .i64 t.v, .bool t.b] 34)).cell? ((⟨W.heap.size, 0, none⟩ : Addr).add j) = some u := by
  intro j u hj
  rw [Go.WideShapes.add_plain, Nat.zero_add, cell_of_row _ _ _ _ _ _ (heap_alloc_new W _)]
  simpa [celT] using hj
theorem five5 {W : World} {g : Nat} {T : TypeId} {x0 x1 x2 x3 x4 : Value} (h2 : W.heap[g]? = some (.cells #[x0, x1, x2, x3, x4] T (0, 0))) :
    W.cell? ⟨g, 0, none⟩ = some x0 ∧ W.cell? ⟨g, 1, none⟩ = some x1 ∧ W.cell? ⟨g, 2, none⟩ = some x2 ∧ W.cell? ⟨g, 3, none⟩ = some x3 ∧ W.cell? ⟨g, 4, none⟩ = some x4 := by
  refine ⟨?_, ?_, ?_, ?_, ?_⟩ <;> simp [World.cell?, h2]
/-- What dreyref08.Scan leaves. -/
def RScanned (w : World) (R : List Tk × Int × Int) (x : Ending) (w' : World) : Prop :=
  ∃ v, x = .returned (.tuple #[v, .int .i64 R.2.1, .int .i64 R.2.2]) ∧ w'.ownsRow w.heap.size 34 5 v R.1.length (flatT R.1) ∧ Below w.heap.size w w'
theorem ret_three {a b c : Value} {x y z : Value} (h1 : a = x) (h2 : b = y) (h3 : c = z) : Ending.returned (.tuple #[a, b, c]) = .returned (.tuple #[x, y, z]) := by rw [h1, h2, h3]
set_option maxRecDepth 100000 in
set_option maxHeartbeats 8000000 in
theorem rscan_any (s : ByteArray) (w : World) (hs : s.size ≤ 2000) : Calls Tryd.prog 11 #[.string s] w (RScanned w (scan s.data.toList)) := by
  obtain ⟨i0, hi, hz0, hz1, hz2⟩ := info_parts A.infoRTT
  have hsz := size_list s
  have HGP : Hid (∀ e, e ≤ s.size → ∀ W, Calls Tryd.prog 14 #[.string (s.extract e s.size)] W fun x w' => x = .returned (.tuple #[.int .i64 (if (gap s.data.toList e).2.2 = true then ((gap s.data.toList e).1 : Int) - e else 0), .bool ((gap s.data.toList e).2.2 && (gap s.data.toList e).2.1), .int .i64 (if (gap s.data.toList e).2.2 = true then -1 else ((gap s.data.toList e).1 : Int) - e)]) ∧ W = w') := fun e he W => by
    have h := rgap_any (s.extract e s.size) (by simp; omega) W
    have hl := Lib.extract_to_end s e
    have hz : (s.extract e s.size).size = (s.data.toList.drop e).length := by rw [← size_list, hl]
    rw [hl, hz] at h
    rw [gap_piece s.data.toList e (by omega)]
    unfold gapR at h
    refine h.mono ?_
    rintro x w' ⟨h2, h3⟩
    refine ⟨?_, h3⟩
    rw [h2]
    dsimp only
    congr 3
    · split <;> simp
  have HFR : Hid (∀ n, n < s.size → ∀ W, Calls Tryd.prog 15 #[.string (s.extract n s.size)] W fun x w' => FR (frs (s.data.toList.drop n)) x ∧ Below W.heap.size W w') := fun n hn W => by
    have h := rfront_any (s.extract n s.size) (by simp; omega) (by simp; omega) W
    rw [Lib.extract_to_end s n] at h
    exact h
  obtain ⟨R, hR⟩ : ∃ R, R = scanF (s.size + 1) s.data.toList 0 [] := ⟨_, rfl⟩
  have hR2 : scan s.data.toList = R := by unfold scan; rw [if_neg (by omega), hsz, hR]
  rw [hR2]
  have HR := Lib.hid hR
  clear hR hR2
  go_enter Tryd.func11, Tryd.ntmps11
  go_wp2_with fail
  go_loopw [5, 6, 7, 8, 9, 10, 11, 12, 13] (fun v i _ _ _ _ _ _ _ wr => ∃ (e f : Nat) (acc : List Tk), e ≤ s.size ∧ s.size + 1 ≤ f + e ∧ acc.length ≤ e ∧ i = .int .i64 (e : Int) ∧ Hid (R = scanF f s.data.toList e acc) ∧ Hid (wr.ownsRow w.heap.size 34 5 v acc.length (flatT acc)) ∧ Below w.heap.size w wr) (fun _ i _ _ _ _ _ _ _ _ => s.size - (intOf i).toNat)
  case atStart => exact ⟨0, s.size + 1, [], by omega, by omega, by simp, rfl, HR.out, World.ownsRow_nil _ _ _ _, Below.refl _ _⟩
  case round =>
    obtain ⟨e, f, acc, he, hf, hacc, rfl, HU, HO, hb⟩ := hrel
    have zr := hb.size
    obtain ⟨f, rfl⟩ : ∃ g, f = g + 1 := ⟨f - 1, by omega⟩
    have hU := HU.out
    rw [scanF_succ] at hU
    have hgl := gap_le s.data.toList e (by omega)
    have HG := Lib.hid (HGP.out e he)
    generalize gap s.data.toList e = g at *
    obtain ⟨n, ln, ok⟩ := g
    unfold stp at hU
    dsimp only at hU hgl HG
    obtain ⟨hg1, hg2⟩ := hgl
    obtain ⟨d, hd⟩ : ∃ d, n = e + d := ⟨n - e, by omega⟩
    have hed : e + d ≤ 2000 := by omega
    have hni : (n : Int) = (e : Int) + (d : Int) := by omega
    obtain ⟨ad, cap, rfl⟩ := row_shape HO.out
    cases ok
    · rw [if_pos rfl, hni] at hU
      have HU2 := Lib.hid hU
      have HG2 : Hid (∀ W, Calls Tryd.prog 14 #[.string (s.extract e s.size)] W fun x w' => x = .returned (.tuple #[.int .i64 0, .bool false, .int .i64 (d : Int)]) ∧ W = w') := fun W => (HG.out W).mono fun x w' ⟨h1, h2⟩ => ⟨by rw [h1]; simp; omega, h2⟩
      clear hU HU HG hni hd hg1 hg2 HGP HFR
      go_wp2_with fail
      refine (HG2.out _).mono ?_
      rintro x w1 ⟨rfl, rfl⟩
      go_wp2_with fail
      (try simp only [Exit.inBlock, Exit.then])
      refine bodyPost_ret (results_three rfl _ _) rfl ?_
      rw [HU2.out]
      exact ⟨.slice none 0 0, rfl, World.ownsRow_nil _ _ _ _, hb⟩
    · rw [if_neg (by simp)] at hU
      have HG2 : Hid (∀ W, Calls Tryd.prog 14 #[.string (s.extract e s.size)] W fun x w' => x = .returned (.tuple #[.int .i64 (d : Int), .bool ln, .int .i64 (-1)]) ∧ W = w') := fun W => (HG.out W).mono fun x w' ⟨h1, h2⟩ => ⟨by rw [h1]; simp; omega, h2⟩
      by_cases hend : n = s.size
      · rw [if_pos (by omega), hni] at hU
        have HU2 := Lib.hid hU
        have hq : ((e : Int) + (d : Int) == (s.size : Int)) = true := by rw [beq_iff_eq]; omega
        clear hU HU HG hd hg1 hg2 HGP HFR hend hni
        go_wp2_with fail
        refine (HG2.out _).mono ?_
        rintro x w1 ⟨rfl, rfl⟩
        go_wp2_with (at_builtin; refine wpList_append_own _ rfl _ _ 29 rfl w.heap.size 34 i0 (.agg #[.int .i64 0, .int .i64 0, .string ⟨#[]⟩, .int .i64 0, .bool false]) 5 48 Tryd.underlying29 hi hz0 hz1 hz2 rfl (by decide) (.slice ad acc.length cap) acc.length (flatT acc) rfl (HO.out.alloc _) ⟨wr.heap.size, 0, none⟩ 1 1 (celT ⟨6, (e : Int) + (d : Int), [], 0, ln⟩) rfl rfl (rcells_new wr ⟨6, (e : Int) + (d : Int), [], 0, ln⟩) (celT_cells _) ?c3 ?c4 ?c5 ?_)
        case c3 => unfold maxLen; omega
        case c4 => omega
        case c5 => simp; omega
        intro v' w4 hown' hgrow _
        have hB4 : Below w.heap.size w w4 := (hb.alloc zr _).grown hgrow (by simp; omega) (fun k hk => by have := (HO.out.lt k hk).1; omega)
        have HO4 := Lib.hid hown'
        have HB4 := Lib.hid hB4
        clear hB4 hown' hgrow
        go_wp2_with fail
        (try simp only [Exit.inBlock, Exit.then])
        refine bodyPost_ret (results_three rfl _ _) rfl ?_
        rw [HU2.out]
        refine ⟨v', rfl, ?_, HB4.out⟩
        show World.ownsRow _ _ _ _ _ (acc ++ [_]).length (flatT (acc ++ [_]))
        rw [flatT_append, flatT_one, List.length_append]
        exact HO4.out
      · rw [if_neg (by omega), if_neg (by omega)] at hU
        have hq : ((e : Int) + (d : Int) == (s.size : Int)) = false := by rw [beq_eq_false_iff_ne]; omega
        have hfl : ((acc.length : Int) == 65536) = false := by rw [beq_eq_false_iff_ne]; omega
        have HF := Lib.hid (HFR.out n (by omega))
        have hdl : e + d < s.size := by omega
        have hbd := frs_bd s[n] (s.data.toList.drop (n + 1))
        rw [← drop_byte s n (by omega), List.length_drop, size_list] at hbd
        rw [hni] at hU
        have hxe : s.extract n s.size = s.extract (e + d) s.size := by rw [hd]
        rw [hxe] at HF
        generalize frs (s.data.toList.drop n) = F at *
        rcases hbd with ⟨hc0, hn1, hn2⟩ | ⟨hc0, ha1, ha2⟩
        · rw [if_pos hc0, hd] at hU
          rw [hd] at hn2
          have HU2 := Lib.hid hU
          have HF2 : Hid (∀ W, Calls Tryd.prog 15 #[.string (s.extract (e + d) s.size)] W fun x w' => x = .returned (.tuple #[.agg #[.int .i64 F.k, .int .i64 0, .string ⟨F.x.toArray⟩, .int .i64 F.v, .bool false], .int .i64 (F.n : Int), .int .i64 0, .int .i64 F.a]) ∧ Below W.heap.size W w') := fun W => by
            refine (HF.out W).mono ?_
            rintro x w' ⟨⟨k, v, j, y, h2, h3⟩, h4⟩
            obtain ⟨e1, e2, e3, e4⟩ := h3 hc0
            exact ⟨by rw [h2, hc0, e1, e2, e3, e4], h4⟩
          clear hU HU hc0 hd hg1 hg2 HGP HFR hend hni hxe HF HG
          go_wp2_with fail
          refine (HG2.out _).mono ?_
          rintro x w1 ⟨rfl, rfl⟩
          go_wp2_with fail
          refine (HF2.out _).mono ?_
          rintro x w6 ⟨rfl, hb6⟩
          have hB7 := (Below.refl w6.heap.size w6).alloc (Nat.le_refl _) (.cells #[.int .i64 F.k, .int .i64 ((e : Int) + (d : Int)), .string ⟨F.x.toArray⟩, .int .i64 F.v, .bool ln] 34)
          have m5 := heap_alloc_new w6 (.cells #[.int .i64 F.k, .int .i64 ((e : Int) + (d : Int)), .string ⟨F.x.toArray⟩, .int .i64 F.v, .bool ln] 34)
          have hwb := hb6.trans (hB7.mono hb6.size)
          have HO7 := Lib.hid (row_below HO.out hwb)
          have HB7 := Lib.hid (hb.trans (hwb.mono zr))
          clear hB7 hwb hb6 HG2 HF2
          go_upto_region 17 with (fail)
          generalize w6.alloc (.cells #[.int .i64 F.k, .int .i64 ((e : Int) + (d : Int)), .string ⟨F.x.toArray⟩, .int .i64 F.v, .bool ln] 34) = W7 at *
          obtain ⟨d0, d1, d2, d3, d4⟩ := five5 m5
          have z7 := HB7.out.size
          clear m5
          go_wp2_with (at_builtin; refine wpList_append_own _ rfl _ _ 29 rfl w.heap.size 34 i0 (.agg #[.int .i64 0, .int .i64 0, .string ⟨#[]⟩, .int .i64 0, .bool false]) 5 48 Tryd.underlying29 hi hz0 hz1 hz2 rfl (by decide) (.slice ad acc.length cap) acc.length (flatT acc) rfl (HO7.out.alloc _) ⟨W7.heap.size, 0, none⟩ 1 1 (celT ⟨F.k, (e : Int) + (d : Int), F.x, F.v, ln⟩) rfl rfl (rcells_new W7 ⟨F.k, (e : Int) + (d : Int), F.x, F.v, ln⟩) (celT_cells _) ?c3 ?c4 ?c5 ?_)
          case c3 => unfold maxLen; omega
          case c4 => omega
          case c5 => simp; omega
          intro v' w4 hown' hgrow _
          have hB4 : Below w.heap.size w w4 := (HB7.out.alloc z7 _).grown hgrow (by simp; omega) (fun k hk => by have := (HO7.out.lt k hk).1; omega)
          have hO4 : w4.ownsRow w.heap.size 34 5 v' (acc ++ [(⟨F.k, (e : Int) + (d : Int), F.x, F.v, ln⟩ : Tk)]).length (flatT (acc ++ [(⟨F.k, (e : Int) + (d : Int), F.x, F.v, ln⟩ : Tk)])) := by
            rw [flatT_append, flatT_one, List.length_append]; exact hown'
          have HO4 := Lib.hid hO4
          have HB4 := Lib.hid hB4
          clear hO4 hB4 hown' hgrow d0 d1 d2 d3 d4
          go_wp2_with fail
          go_roundw
          case rel => exact ⟨e + d + F.n, f, acc ++ [⟨F.k, (e : Int) + (d : Int), F.x, F.v, ln⟩], by omega, by omega, by rw [List.length_append, List.length_singleton]; omega, by go_num, HU2, HO4, HB4.out⟩
          case measure => simp [intOf]; omega
        · rw [if_neg hc0] at hU
          have HU2 := Lib.hid hU
          have hcn : ((F.c) != 0) = true := by rw [bne_iff_ne]; exact hc0
          have ha3 : F.a ≤ 2000 := by omega
          have HF2 : Hid (∀ W, Calls Tryd.prog 15 #[.string (s.extract (e + d) s.size)] W fun x w' => (∃ (k v j : Int) (y : ByteArray), x = .returned (.tuple #[.agg #[.int .i64 k, .int .i64 0, .string y, .int .i64 v, .bool false], .int .i64 j, .int .i64 F.c, .int .i64 F.a])) ∧ Below W.heap.size W w') := fun W => by
            refine (HF.out W).mono ?_
            rintro x w' ⟨⟨k, v, j, y, h2, h3⟩, h4⟩
            exact ⟨⟨k, v, j, y, h2⟩, h4⟩
          clear hU HU hc0 hd hg1 hg2 HGP HFR hend hni hxe HF HG
          go_wp2_with fail
          refine (HG2.out _).mono ?_
          rintro x w1 ⟨rfl, rfl⟩
          go_wp2_with fail
          refine (HF2.out _).mono ?_
          rintro x w6 ⟨⟨k0, v0, j0, y0, rfl⟩, hb6⟩
          have HB6 := Lib.hid (hb.trans (hb6.mono zr))
          clear hb6 HG2 HF2
          go_wp2_with fail
          (try simp only [Exit.inBlock, Exit.then])
          refine bodyPost_ret (results_three rfl _ _) rfl ?_
          rw [HU2.out]
          exact ⟨.slice none 0 0, rfl, World.ownsRow_nil _ _ _ _, HB6.out.alloc HB6.out.size _⟩
end Go.Proofs.YthjmlgbnpnfkgaaDoor.Lx
