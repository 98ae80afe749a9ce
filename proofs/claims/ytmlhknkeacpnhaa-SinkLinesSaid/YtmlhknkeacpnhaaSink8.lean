/- The walk of SinkReads. -/
import Derived.Test.YtmlhknkeacpnhaaSink6
set_option linter.unusedVariables false
namespace Go.Proofs.Ytmlhknkeacpnhaa.Sk
open Go.RowKit Go.ChangeShapes Go.WideShapes Go.ChangeAt

theorem strS_below {B : Nat} {ad : Option Addr} {w w' : World} {L : List ByteArray} (h : StrS B ad w L) (hB : B ≤ w.heap.size) (hb : Below w.heap.size w w') : StrS B ad w' L :=
  strS_fr (T := fun _ => False) h (fr_below hb hB) id
theorem strS_get {B : Nat} {ad : Option Addr} {w w' : World} {L : List ByteArray} (h : StrS B ad w L) {k : Nat} (hk : k < L.length) (hb : Below w.heap.size w w') : ∃ g o, ad = some ⟨g, o, none⟩ ∧ w'.cell? ⟨g, o + k, none⟩ = some (.string L[k]) := by
  rcases h with rfl | ⟨g, o, rfl, hg, _, hc⟩
  · simp at hk
  · exact ⟨g, o, rfl, cell_below hb hg (hc k hk)⟩
theorem strS_move {B : Nat} {ad : Option Addr} {w w' : World} {L : List ByteArray} (h : StrS w.heap.size ad w L) (hb : Below w.heap.size w w') : StrS w.heap.size ad w' L := strS_below h (Nat.le_refl _) hb
theorem pos_of {w : World} {v : Value} (hm : w.cell? ⟨0, 0, none⟩ = some v) : 0 < w.heap.size := by
  refine Nat.pos_of_ne_zero fun h => ?_
  have e : w.heap = #[] := Array.eq_empty_of_size_eq_zero h
  simp [World.cell?, e] at hm
theorem maxLen_le {n : Nat} (h : n ≤ maxLen) : n ≤ 9223372036854775807 := by unfold maxLen at h; omega

set_option maxRecDepth 100000 in
set_option maxHeartbeats 4000000 in
theorem sinkReads_walk (w : World) (ad : Option Addr) (cap : Nat) (L : List ByteArray) (hl : L.length ≤ maxLen) (hy : ∀ y ∈ L, y.size ≤ 140737488351232) (hv : StrS w.heap.size ad w L) (a : Int) (ha : (Lit.int .i64 a).wf = true) (m : Int) (hm : w.cell? ⟨0, 0, none⟩ = some (.int .i64 m)) :
    Calls Try.prog 5 #[.slice ad L.length cap, .int .i64 a] w fun e w' => e = .returned (.bool true) ∧ Below w.heap.size w w' := by
  have h0 := pos_of hm
  obtain ⟨a1, a2⟩ := i64_range ha
  have HT := Lib.hid (prints_any m w hm)
  have HM := Lib.hid hm
  have HS := Lib.hid hv
  have HY : Hid (∀ y ∈ L, y.size ≤ 281474976710656) := fun y h => by have := hy y h; omega
  clear hm hv hy ha
  have hcs : 100 < L.length ∨ (L.length ≤ 100 ∧ a < 0) ∨ (L.length ≤ 100 ∧ 0 ≤ a ∧ 5 < a) ∨ (L.length ≤ 100 ∧ 0 ≤ a ∧ a ≤ 5) := by omega
  have hl := maxLen_le hl
  rcases hcs with hcs | ⟨hcs, hcs2⟩ | ⟨hcs, hcs2, hcs3⟩ | ⟨hcs, hcs2, hcs3⟩
  · go_enter Try.func5, Try.ntmps5
    go_wp2_with fail
    refine HT.out.mono ?_
    rintro e w1 ⟨rfl, hb1⟩
    go_wp2_with fail
    go_ret
    exact ⟨rfl, hb1⟩
  · go_enter Try.func5, Try.ntmps5
    go_wp2_with fail
    refine HT.out.mono ?_
    rintro e w1 ⟨rfl, hb1⟩
    go_wp2_with fail
    go_ret
    exact ⟨rfl, hb1⟩
  · go_enter Try.func5, Try.ntmps5
    go_wp2_with fail
    refine HT.out.mono ?_
    rintro e w1 ⟨rfl, hb1⟩
    go_wp2_with fail
    go_ret
    exact ⟨rfl, hb1⟩
  · obtain ⟨n, rfl⟩ := Int.eq_ofNat_of_zero_le hcs2
    go_enter Try.func5, Try.ntmps5
    go_wp2_with fail
    refine HT.out.mono ?_
    rintro e w1 ⟨rfl, hb1⟩
    have z1 := hb1.size
    have HS1 := Lib.hid (strS_move (B := 0) HS.out hb1)
    go_wp2_with fail
    refine (read_any (B := w.heap.size) (L := L) _ (by omega) HY.out HS1.out).mono ?_
    rintro e w2 ⟨b, rfl, hr2, hb2⟩
    have hb02 := hb1.trans (hb2.mono z1)
    have HR2 := Lib.hid (isR_low hr2 z1)
    clear hr2 hb2 hb1 HS1
    have hlen : ((L.length : Int) == (L.length : Int)) = true := by simp
    go_wp2_with fail
    go_loopw [29] (fun i wr => ∃ k : Nat, k ≤ L.length ∧ i = .int .i64 (k : Int) ∧ Hid (IsR w.heap.size b wr L k) ∧ Below w.heap.size w wr) (fun i _ => L.length - (intOf i).toNat)
    case atStart => exact ⟨0, by omega, rfl, HR2.out, hb02⟩
    case round =>
      obtain ⟨k, hk, rfl, HR, hb⟩ := hrel
      have zr := hb.size
      by_cases hlt : k < L.length
      · obtain ⟨g, o, rfl, hc⟩ := strS_get HS.out hlt hb
        have HN := Lib.hid (next_yes hlt (by omega) zr HR.out)
        generalize L[k] = x at *
        go_wp2_with fail
        refine HN.out.mono ?_
        rintro e w3 ⟨rfl, hr3, hf3⟩
        have HR3 := Lib.hid hr3
        have HB3 := Lib.hid (hb.trans hf3.b)
        clear hr3 hf3
        go_wp2_with fail
        refine (taken_any HR3.out).mono ?_
        rintro e wx ⟨rfl, rfl⟩
        go_wp2_with fail
        go_roundw
        case rel => exact ⟨k + 1, by omega, by go_num, HR3.out, HB3.out⟩
        case measure => simp [intOf]; omega
      · have hkl : k = L.length := by omega
        subst hkl
        go_wp2_with fail
        go_loopw [55] (fun i wr => ∃ q : Nat, q ≤ n ∧ i = .int .i64 (q : Int) ∧ Hid (IsR w.heap.size b wr L L.length) ∧ Below w.heap.size w wr) (fun i _ => n - (intOf i).toNat)
        case atStart => exact ⟨0, by omega, rfl, HR.out, hb⟩
        case round =>
          obtain ⟨q, hq, rfl, HRq, hbq⟩ := hrel
          have zq := hbq.size
          by_cases hqn : q < n
          · go_wp2_with fail
            refine (next_no HRq.out).mono ?_
            rintro e w3 ⟨rfl, hb3⟩
            have HR3 := Lib.hid (isR_below HRq.out hb3)
            have HB3 := Lib.hid (hbq.trans (hb3.mono zq))
            clear hb3
            go_wp2_with fail
            refine (taken_any HR3.out).mono ?_
            rintro e wx ⟨rfl, rfl⟩
            go_wp2_with fail
            go_roundw
            case rel => exact ⟨q + 1, by omega, by go_num, HR3.out, HB3.out⟩
            case measure => simp [intOf]; omega
          · go_wp2_with fail
            go_ret
            exact ⟨rfl, hbq⟩
end Go.Proofs.Ytmlhknkeacpnhaa.Sk
