/- Contract of dreyref08.Front: numbers, signs. -/
import Derived.Test.YthjmlgbnpnfkgaaDoorLexO
import Derived.Test.YthjmlgbnpnfkgaaDoorLexJ
import Derived.Test.YthjmlgbnpnfkgaaDoorRuneL
set_option linter.unusedVariables false
namespace Go.Proofs.YthjmlgbnpnfkgaaDoor.Lx
open Go.RowKit Go.ChangeShapes Go.WideShapes Go.ChangeAt Go.Proofs.YthjmlgbnpnfkgaaDoor.Nu

theorem A.infoRT : (Tryd.prog.info? 34).map (·.size) = some 5 := by kernel_rfl
theorem results_f4 {fn : Func} {p q r s : Tmp} (h : fn.results = #[.cell p 34, .tmp q, .tmp r, .tmp s]) (tmps : Array Value) (w : World) (g1 : Nat) (cs1 : Array Value)
    (hp1 : tmps.getD p undef = .pointer (some ⟨g1, 0, none⟩)) (hg1 : w.heap[g1]? = some (.cells cs1 34 (0, 0))) (hi1 : cs1.size = 5) :
    (results fn tmps).run Tryd.prog w = .ok (.tuple #[.agg cs1, tmps.getD q undef, tmps.getD r undef, tmps.getD s undef]) w := by
  have hp1' : tmps[p]?.getD undef = .pointer (some ⟨g1, 0, none⟩) := by simpa using hp1
  simp [results, h, hp1', asAddr, run_loadVar_row w g1 _ _ cs1 (0, 0) _ hg1 Tryd.underlying34 rfl (by rw [hi1]; exact A.infoRT)]
/-- A token's box, and what is stored into it. -/
def tokW (W : World) (g : Nat) (y0 y1 y2 y3 y4 : Value) : World :=
  ((((W.setCell ⟨g, 0, none⟩ y0).setCell ⟨g, 1, none⟩ y1).setCell ⟨g, 2, none⟩ y2).setCell ⟨g, 3, none⟩ y3).setCell ⟨g, 4, none⟩ y4
theorem tokW_at {W : World} {g : Nat} {x0 x1 x2 x3 x4 : Value} {T : TypeId} (h2 : W.heap[g]? = some (.cells #[x0, x1, x2, x3, x4] T (0, 0))) (y0 y1 y2 y3 y4 : Value) :
    (tokW W g y0 y1 y2 y3 y4).heap[g]? = some (.cells #[y0, y1, y2, y3, y4] T (0, 0)) := by
  unfold tokW
  rw [set_at (set_at (set_at (set_at (set_at h2))))]; rfl
theorem tokW_below {w W : World} {g : Nat} (h : Below w.heap.size w W) (hg : w.heap.size ≤ g) (y0 y1 y2 y3 y4 : Value) : Below w.heap.size w (tokW W g y0 y1 y2 y3 y4) :=
  ((((h.setCell (p := ⟨g, 0, none⟩) hg _).setCell (p := ⟨g, 1, none⟩) hg _).setCell (p := ⟨g, 2, none⟩) hg _).setCell (p := ⟨g, 3, none⟩) hg _).setCell (p := ⟨g, 4, none⟩) hg _
theorem fiveF {W : World} {g : Nat} {x0 x1 x2 x3 x4 : Value} {T : TypeId} (h2 : W.heap[g]? = some (.cells #[x0, x1, x2, x3, x4] T (0, 0))) :
    W.frozen? ⟨g, 0, none⟩ = false ∧ W.frozen? ⟨g, 1, none⟩ = false ∧ W.frozen? ⟨g, 2, none⟩ = false ∧ W.frozen? ⟨g, 3, none⟩ = false ∧ W.frozen? ⟨g, 4, none⟩ = false ∧
    W.cell? ⟨g, 0, none⟩ = some x0 ∧ W.cell? ⟨g, 1, none⟩ = some x1 ∧ W.cell? ⟨g, 2, none⟩ = some x2 ∧ W.cell? ⟨g, 3, none⟩ = some x3 ∧ W.cell? ⟨g, 4, none⟩ = some x4 :=
  ⟨Lib.frozen_of_heap h2 0, Lib.frozen_of_heap h2 1, Lib.frozen_of_heap h2 2, Lib.frozen_of_heap h2 3, Lib.frozen_of_heap h2 4, by simp [World.cell?, h2], by simp [World.cell?, h2], by simp [World.cell?, h2], by simp [World.cell?, h2], by simp [World.cell?, h2]⟩
/-- What Front answers, by what 'frs' tells. -/
def FR (F : Fst) (e : Ending) : Prop := ∃ (k v n : Int) (x : ByteArray), e = .returned (.tuple #[.agg #[.int .i64 k, .int .i64 0, .string x, .int .i64 v, .bool false], .int .i64 n, .int .i64 F.c, .int .i64 F.a]) ∧ (F.c = 0 → k = F.k ∧ v = F.v ∧ n = F.n ∧ x = ⟨F.x.toArray⟩)
def zerT (w : World) : World := w.alloc (.cells #[.int .i64 0, .int .i64 0, .string ⟨#[]⟩, .int .i64 0, .bool false] 34)
theorem wl_step {l : List UInt8} {k : Nat} {c : UInt8} {m : List UInt8} (h : wl l = k + wl (l.drop k)) (hd : l.drop k = c :: m) (hm : m = l.drop (k + 1)) : (isW c = true → wl l = (k + 1) + wl (l.drop (k + 1))) ∧ (isW c = false → wl l = k) := by
  rw [hd] at h
  refine ⟨fun h1 => ?_, fun h1 => ?_⟩
  · rw [h, wl_yes h1, hm]; omega
  · rw [h, wl_no h1]; rfl
set_option maxRecDepth 100000 in
set_option maxHeartbeats 4000000 in
theorem front_dig (s : ByteArray) (hs : s.size ≤ 2100) (h0 : 0 < s.size) (hdg : dgB s[0].toNat = true) (w : World) :
    Calls Tryd.prog 15 #[.string s] w fun e w' => FR (frD s.data.toList) e ∧ Below w.heap.size w w' := by
  have hle := wl_le s.data.toList
  rw [size_list] at hle
  have hd0 := drop_byte s 0 h0
  rw [List.drop_zero] at hd0
  have hpos : 0 < wl s.data.toList := by rw [hd0, wl_yes (by unfold isW; rw [hdg]; rfl)]; omega
  have hc0 := byte_lt s 0 h0
  have hd48 : 48 ≤ s[0].toNat ∧ s[0].toNat ≤ 57 := by simpa [dgB] using hdg
  have q48 : (48 : Int) ≤ (s[0].toNat : Int) := by omega
  have q57 : (s[0].toNat : Int) ≤ 57 := by omega
  have HW0 : Hid (wl s.data.toList = 0 + wl (s.data.toList.drop 0)) := by show _ = _; rw [List.drop_zero]; omega
  have hb : Below w.heap.size w (zerT w) := (Below.refl _ _).alloc (Nat.le_refl _) _
  have hm : (zerT w).heap[w.heap.size]? = _ := heap_alloc_new w _
  have HN := Lib.hid fun W => rnum_any (s.extract 0 (wl s.data.toList)) (by simp; omega) (by simp; omega) W
  rw [take_list] at HN
  unfold numR at HN
  obtain ⟨F, hF⟩ : ∃ F, frD s.data.toList = F := ⟨_, rfl⟩
  rw [hF]
  have hF2 : F.c = ((numV (s.data.toList.take (wl s.data.toList))).2 : Int) ∧ F.a = 0 ∧ ((numV (s.data.toList.take (wl s.data.toList))).2 = 0 → F.k = 3 ∧ F.x = s.data.toList.take (wl s.data.toList) ∧ F.v = (numV (s.data.toList.take (wl s.data.toList))).1 ∧ F.n = wl s.data.toList) := by
    rw [← hF]
    unfold frD
    by_cases h : (numV (s.data.toList.take (wl s.data.toList))).2 = 0
    · rw [if_pos h, h]; exact ⟨rfl, rfl, fun _ => ⟨rfl, rfl, rfl, rfl⟩⟩
    · rw [if_neg h]; exact ⟨rfl, rfl, fun h2 => absurd h2 h⟩
  clear hF
  generalize numV (s.data.toList.take (wl s.data.toList)) = q at *
  have hxe : s.extract 0 (wl s.data.toList) = ⟨(s.data.toList.take (wl s.data.toList)).toArray⟩ := ext_mk s _
  have HXE := Lib.hid hxe
  generalize hT : s.data.toList.take (wl s.data.toList) = T at *
  generalize hwl : wl s.data.toList = n at *
  have HFF := Lib.hid hF2
  clear hd0 hdg hd48 hT hxe hF2
  go_enter Tryd.func15, Tryd.ntmps15
  go_wp2_with fail
  rw [show w.alloc (.cells #[.int .i64 0, .int .i64 0, .string ⟨#[]⟩, .int .i64 0, .bool false] 34) = zerT w from rfl]
  have HB := Lib.hid hb
  have HM := Lib.hid hm
  clear hb hm
  generalize zerT w = W at *
  go_loop [7] (fun i => ∃ k : Nat, k ≤ s.size ∧ i = .int .i64 (k : Int) ∧ Hid (n = k + wl (s.data.toList.drop k))) (fun i => s.size - (intOf i).toNat)
  case atStart => exact ⟨0, by omega, rfl, HW0.out⟩
  case round =>
    obtain ⟨k, hk, rfl, HU⟩ := hrel
    by_cases hlt : k < s.size
    · have hdk := drop_byte s k hlt
      have hck := byte_lt s k hlt
      have hst := wl_step (l := s.data.toList) (k := k) (by rw [hwl]; exact HU.out) hdk rfl
      rw [hwl] at hst
      have HIN : Hid (Calls Tryd.prog 26 #[.int .u8 (s[k].toNat : Int)] W fun e w' => e = .returned (.bool (isW s[k])) ∧ W = w') := inner_any s[k].toNat hck W
      have hs0 : (s[0].toNat : Int) = (s[0].toNat : Int) := rfl
      clear hdk HU
      generalize hy : s[k] = c at *
      by_cases hw : isW c = true
      · have HU2 := Lib.hid (hst.1 hw)
        rw [hw] at HIN
        clear hst hw
        go_wp2_with fail
        refine HIN.out.mono ?_
        rintro e' w1 ⟨rfl, rfl⟩
        go_wp2_with fail
        go_round
        case rel => exact ⟨k + 1, by omega, by go_num, HU2⟩
        case measure => simp [intOf]; omega
      · rw [Bool.not_eq_true] at hw
        have hnk := hst.2 hw
        rw [hw] at HIN
        clear hst hw
        subst hnk
        go_wp2_with fail
        refine HIN.out.mono ?_
        rintro e' w1 ⟨rfl, rfl⟩
        clear HIN
        go_wp2_with fail
        refine (HN.out _).mono ?_
        rintro e' w3 ⟨rfl, hb3⟩
        have hm3 : w3.heap[w.heap.size]? = _ := (hb3.block _ (lt_of_block HM.out)).trans HM.out
        have HB3 := Lib.hid (HB.out.trans (hb3.mono HB.out.size))
        obtain ⟨z0, z1, z2, z3, z4, _, _, _, _, _⟩ := fiveF hm3
        have HM3 := Lib.hid hm3
        clear hm3 hb3
        go_wp2_with fail
        (try simp only [Exit.inBlock, Exit.then])
        have HF := tokW_at HM3.out (.int .i64 3) (.int .i64 0) (.string (s.extract 0 n)) (.int .i64 q.1) (.bool false)
        refine bodyPost_ret (results_f4 rfl _ _ w.heap.size _ rfl HF rfl) rfl ⟨?_, tokW_below HB3.out (Nat.le_refl _) _ _ _ _ _⟩
        exact ⟨3, q.1, n, s.extract 0 n, by rw [HFF.out.1, HFF.out.2.1]; rfl, fun h => by
          have h2 := HFF.out.2.2 (by have := HFF.out.1; omega)
          exact ⟨h2.1.symm, h2.2.2.1.symm, by rw [h2.2.2.2], by rw [h2.2.1]; exact HXE.out⟩⟩
    · have hnk : n = k := by
        have h := HU.out
        rw [List.drop_eq_nil_of_le (by rw [size_list]; omega)] at h
        simpa [wl] using h
      clear HU
      subst hnk
      go_wp2_with fail
      refine (HN.out _).mono ?_
      rintro e' w3 ⟨rfl, hb3⟩
      have hm3 : w3.heap[w.heap.size]? = _ := (hb3.block _ (lt_of_block HM.out)).trans HM.out
      have HB3 := Lib.hid (HB.out.trans (hb3.mono HB.out.size))
      obtain ⟨z0, z1, z2, z3, z4, _, _, _, _, _⟩ := fiveF hm3
      have HM3 := Lib.hid hm3
      clear hm3 hb3
      go_wp2_with fail
      (try simp only [Exit.inBlock, Exit.then])
      have HF := tokW_at HM3.out (.int .i64 3) (.int .i64 0) (.string (s.extract 0 n)) (.int .i64 q.1) (.bool false)
      refine bodyPost_ret (results_f4 rfl _ _ w.heap.size _ rfl HF rfl) rfl ⟨?_, tokW_below HB3.out (Nat.le_refl _) _ _ _ _ _⟩
      exact ⟨3, q.1, n, s.extract 0 n, by rw [HFF.out.1, HFF.out.2.1]; rfl, fun h => by
        have h2 := HFF.out.2.2 (by have := HFF.out.1; omega)
        exact ⟨h2.1.symm, h2.2.2.1.symm, by rw [h2.2.2.2], by rw [h2.2.1]; exact HXE.out⟩⟩
end Go.Proofs.YthjmlgbnpnfkgaaDoor.Lx
