/- Each of a whole tree. -/
import Derived.Test.YtaonojimpfhkfaaAstEb
import Derived.Deep.DeepCutAuto
import Derived.Laws.EntriesVeiled
namespace Go.Proofs.Ytaonojimpfhkfaa.As
open Go.RowKit Go.ChangeShapes Go.WideShapes Go.ChangeAt

theorem fnil (fid : FuncId) (caps : Array Value) : ∀ W, (binOp .eql 50 (.func (.func fid) #[] caps) .nilFunc).run Try.prog W = .ok (.bool false) W := fun _ => rfl
theorem wk_mk {bt B0 bw bm cap N : Nat} {A : Option Addr} {fv : Value} {W : World} {L : List Nd} {AB : Array Value} (hN : L.length = N) (hAB : ((List.replicate N false).map Value.bool).toArray = AB) (hw : W.heap[bw]? = some (.cells #[.slice A N cap, .slice (some ⟨bm, 0, none⟩) N N, fv] 69 (0, 0))) (hm : W.heap[bm]? = some (.cells AB 4 (0, 0))) (h1 : B0 ≤ bw) (h2 : B0 ≤ bm) (h3 : bt ≤ B0) (hT : Tr W bt A L) :
    Wk bt B0 bw bm A cap fv W L (List.replicate N false) := by
  subst hN hAB
  exact ⟨hw, hm, h1, h2, h3, hT⟩
set_option maxRecDepth 100000 in
set_option maxHeartbeats 8000000 in
theorem each_any {bt cap M : Nat} {A : Option Addr} {L : List Nd} {fid : FuncId} {caps : Array Value} {ans : Nat → Bool} {St : List Nat → World → Prop} {w : World} (hc : (chk PW L).1 = 0) (hz : Szd L) (hT : Tr w bt A L) (hb : bt ≤ w.heap.size) (hM : L.length = M + 1) (hY : Yld bt w.heap.size L.length fid caps ans St) (hS : St [] w) :
    Calls Try.prog 17 #[.agg #[.slice A L.length cap], .int .i64 (M : Int), .func (.func fid) #[] caps] w fun e w' => e = .returned (.bool (takeE ans 0 (pre L L.length (M : Int))).2) ∧ St (takeE ans 0 (pre L L.length (M : Int))).1 w' ∧ Below bt w w' := by
  obtain ⟨D, hu⟩ := chk_upto hc
  have hk := chk_kin hc
  have HW := Lib.hid (bel1 w (.cells #[.slice A L.length cap] 24))
  have HN1 := Lib.hid (new1 w (.cells #[.slice A L.length cap] 24))
  have HS := Lib.hid hS
  have HT := Lib.hid hT
  have hLb : (M : Int) ≤ 1000000 := by have := hz.1; omega
  have hsw : w.heap.size + 1 = (w.alloc (.cells #[.slice A L.length cap] 24)).heap.size := by simp
  have HSW := Lib.hid hsw
  have hlM : ((L.length : Nat) : Int) = (M : Int) + 1 := by omega
  clear hT hS hsw
  go_enter Try.func17, Try.ntmps17
  have hnil := fnil fid caps
  go_upto_region 5 with fail
  have f0 := cell_of_one HN1.out
  rw [hM] at HW HN1 HSW f0
  generalize w.alloc (.cells #[.slice A (M + 1) cap] 24) = W0 at *
  obtain ⟨ib, hib, hb0, hb1, hb2⟩ := info_parts As.A.infoB
  have mkB : ∀ W, (Instr.makeSlice 59 (.int .i64 ((M : Int) + 1)) (.int .i64 ((M : Int) + 1))).run Try.prog W = .ok (.slice (some ⟨W.heap.size, 0, none⟩) (M + 1) (M + 1)) (W.alloc (.cells (((List.replicate (M + 1) false).map Value.bool).toArray) 4)) := fun W => by
    have := run_makeSlice (P := Try.prog) W 59 4 ib _ Try.underlying59 hib hb0 .i64 .i64 ((M + 1 : Nat) : Int) ((M + 1 : Nat) : Int) (by omega) (by omega) (by rw [hb1]; simp; omega) (by rw [hb2]; omega) (by omega)
    rw [hb1] at this
    rw [show (((List.replicate (M + 1) false).map Value.bool).toArray) = madeCells (Value.bool false).cells ((M + 1) * 1) by
      apply Array.toList_inj.1
      show _ = (madeCells #[.bool false] ((M + 1) * 1)).toList
      rw [Nat.mul_one, toList_madeCells_one, List.map_replicate]]
    exact this
  generalize hAB : ((List.replicate (M + 1) false).map Value.bool).toArray = AB at *
  have HAB := Lib.hid hAB
  have HMM := Lib.hid hM
  clear hAB hib hb0 hb1 hb2
  have hlt : w.heap.size < W0.heap.size := by have := HSW.out; omega
  have HTW : Hid (Tr W0 bt A L) := HT.out.keep (Nat.le_refl _) fun b hb' => HW.out.block b (by omega)
  go_cut [7] (fun s7 wx => ∃ bw bm : Nat, s7 = .pointer (some ⟨bw, 0, none⟩) ∧ Hid (Wk bt w.heap.size bw bm A cap (.func (.func fid) #[] caps) wx L (List.replicate (M + 1) false)) ∧ Hid (Below W0.heap.size W0 wx))
  case first =>
    have g1 : ∀ o1 : Obj, (W0.alloc o1).cell? ⟨w.heap.size, 0, none⟩ = some (.slice A (M + 1) cap) := fun o1 => (World.cell?_of_block (a := ⟨w.heap.size, 0, none⟩) ((bel1 W0 o1).block _ hlt)).trans f0
    have g2 : ∀ o1 o2 : Obj, ((W0.alloc o1).alloc o2).cell? ⟨w.heap.size, 0, none⟩ = some (.slice A (M + 1) cap) := fun o1 o2 => (World.cell?_of_block (a := ⟨w.heap.size, 0, none⟩) ((bel2 W0 o1 o2).block _ hlt)).trans f0
    go_region
    · go_wp2_with fail
      go_meet
      case rel => exact ⟨W0.heap.size + 1, W0.heap.size, rfl, wk_mk HMM.out HAB.out (new2 W0 _ _) ((heap_alloc_old _ _ (by simp)).trans (new1 W0 _)) (by omega) (by omega) hb (HTW.out.keep (Nat.le_refl _) fun b hb' => (bel2 W0 _ _).block b (by omega)), (bel2 _ _ _).drew⟩
    · go_wp2_with fail
      go_meet
      case rel => exact ⟨W0.heap.size, W0.heap.size + 1, rfl, wk_mk HMM.out HAB.out ((heap_alloc_old _ _ (by simp)).trans (new1 W0 _)) (new2 W0 _ _) (by omega) (by omega) hb (HTW.out.keep (Nat.le_refl _) fun b hb' => (bel2 W0 _ _).block b (by omega)), (bel2 _ _ _).drew⟩
  case rest =>
    obtain ⟨bw, bm, rfl, HWK, HB0⟩ := hcut
    have HFR := Lib.hid (from_any hk hz hu hY L.length (M : Int) 0 [] (List.replicate (M + 1) false) wc HWK.out (by rw [List.length_replicate]; exact HMM.out.symm) (hY.keep _ _ _ HS.out (HW.out.trans (HB0.out.mono HW.out.size))) (by omega) (by omega) (by omega) (by omega) (fun _ => by rw [Int.toNat_natCast]; have := (hu.dp M _ (by omega) (List.getElem?_eq_getElem (by omega))).2.1; omega) fun x hx => by
      have hxN : x < M + 1 := by
        obtain ⟨_, hd⟩ := mem_pre _ _ _ hx
        have := hd.le hk
        omega
      exact ⟨by rw [List.getElem?_replicate, if_pos hxN], by simp⟩)
    clear mkB f0 hnil
    go_wp2_with fail
    refine HFR.out.mono ?_
    rintro e w2 ⟨rfl, K2, hw2, _, _, hs2, hb2⟩
    have HS2 := Lib.hid hs2
    have HZ2 := Lib.hid (((HW.out.trans (HB0.out.mono HW.out.size)).mono hb).trans hb2)
    clear hw2 hs2 hb2
    go_wp2_with fail
    go_ret
    refine ⟨?_, HS2.out, HZ2.out⟩
    rw [HMM.out]; rfl
end Go.Proofs.Ytaonojimpfhkfaa.As
