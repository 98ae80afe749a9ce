/- The walk of SinkBuilds. -/
import Derived.Test.YtmlhknkeacpnhaaSinkC
set_option linter.unusedVariables false
namespace Go.Proofs.Ytmlhknkeacpnhaa.Sk
open Go.RowKit Go.ChangeShapes Go.WideShapes Go.ChangeAt

theorem brun_fits : ∀ (L : List ByteArray) (t : List UInt8), t.length + total L ≤ 1048576 → brun L (t, false) = (t ++ catB L, false)
  | [], t, _ => by rw [brun, catB, List.append_nil]
  | x :: L, t, h => by
    rw [total] at h
    rw [brun, b1_no (by rintro (h' | h'); · cases h'
                        · have : 1048576 - t.length < x.data.toList.length := h'
                          rw [size_list] at this; omega), brun_fits L _ (by simp only [List.length_append, size_list]; omega), catB, ← List.append_assoc]
    rfl
theorem join_cat : ∀ L : List ByteArray, Lib.join (L.map (·.data.toList)) [] = catB L
  | [] => rfl
  | x :: L => by
    have := join_cat L
    unfold Lib.join at this ⊢
    rw [catB, ← this]
    cases L with
    | nil => simp [bys]
    | cons y L => simp [bys]
theorem join_any {B : Nat} {ad : Option Addr} {cap : Nat} {L : List ByteArray} (w : World) (hL : L.length ≤ 1000) (hc : L.length ≤ cap) (ht : total L ≤ 1000000) (h : StrS B ad w L) (Z : ByteArray) (hZ : bys Z = catB L) :
    Calls Try.prog 24 #[.slice ad L.length cap, .string ⟨#[]⟩] w fun e w' => e = .returned (.string Z) ∧ Below w.heap.size w w' := by
  have hZ2 : (⟨(catB L).toArray⟩ : ByteArray) = Z := by rw [← hZ]; exact Lib.mk_data Z
  rcases h with rfl | ⟨g, o, rfl, hg, _, hcc⟩
  · refine (Try.strings_Join_none ad cap ⟨#[]⟩ w).mono ?_
    rintro e w' ⟨rfl, rfl⟩
    exact ⟨by rw [← hZ2]; rfl, Below.refl _ _⟩
  · have hj := join_cat L
    refine (Try.strings_Join g o cap L ⟨#[]⟩ w (fun j x hx => ?_) hg (by omega) hc (by rw [show (⟨#[]⟩ : ByteArray).data.toList = [] from rfl, hj, catB_total]; omega)).mono ?_
    · obtain ⟨hj, rfl⟩ := List.getElem?_eq_some_iff.1 hx
      exact hcc j hj
    · rintro e w' ⟨rfl, hb⟩
      exact ⟨by rw [show (⟨#[]⟩ : ByteArray).data.toList = [] from rfl, hj, hZ2], hb⟩
theorem btext_bys {B b : Nat} {T : ByteArray} {long : Bool} (w : World) (h : IsB B b w (bys T) long) : Calls Try.prog 25 #[.pointer (some ⟨b, 0, none⟩)] w fun e w' => e = .returned (.tuple #[.string T, .int .i64 (codB long)]) ∧ Below w.heap.size w w' :=
  (btext_any w h).mono fun e w' ⟨h1, h2⟩ => ⟨by rw [h1, show (⟨(bys T).toArray⟩ : ByteArray) = T from Lib.mk_data T], h2⟩
theorem repeat_x (c : Nat) (hc : c ≤ 2000000) : ∃ X : ByteArray, X.size = c ∧ ∀ w, Calls Try.prog 26 #[.string ⟨#[120]⟩, .int .i64 (c : Int)] w fun e w' => e = .returned (.string X) ∧ Below w.heap.size w w' :=
  ⟨⟨(Lib.repeatL (⟨#[120]⟩ : ByteArray).data.toList c).toArray⟩, by rw [size_mk, Lib.repeatL_length]; exact Nat.mul_one c, fun w => Try.strings_Repeat ⟨#[120]⟩ c w (by omega) (by have : (⟨#[120]⟩ : ByteArray).size = 1 := rfl; rw [this]; omega)⟩

set_option maxRecDepth 100000 in
set_option maxHeartbeats 8000000 in
theorem sinkBuilds_near (w : World) (ad : Option Addr) (cap : Nat) (LL : List (List ByteArray)) (hl : LL.length ≤ 40) (hok : ∀ L ∈ LL, okL L) (hv : StrSS w.heap.size ad w LL) (n : Nat) (hn : n ≤ 3) (hsm : sm LL = true) (m : Int) (hm : w.cell? ⟨0, 0, none⟩ = some (.int .i64 m)) :
    Calls Try.prog 6 #[.slice ad LL.length cap, .int .i64 (n : Int)] w fun e w' => e = .returned (.bool true) ∧ Below w.heap.size w w' := by
  have HT := Lib.hid (prints_any m w hm)
  have HS := Lib.hid hv
  have HO := Lib.hid hok
  have HSM := Lib.hid fun wz hb => small_any (cap := cap) w wz (by omega) (fun L hL => by have := (hok L hL).1; omega) hv hb
  rw [hsm] at HSM
  clear hm hv hok hsm
  go_enter Try.func6, Try.ntmps6
  go_wp2_with fail
  refine HT.out.mono ?_
  rintro e w1 ⟨rfl, hb1⟩
  have z1 := hb1.size
  have HM1 := Lib.hid (HSM.out _ hb1)
  have HB1 := Lib.hid (hb1.alloc z1 (.cells #[.slice none 0 0, .bool false] 44))
  have hbn : IsB w.heap.size w1.heap.size (w1.alloc (.cells #[.slice none 0 0, .bool false] 44)) (bys ⟨#[]⟩) false := isB_new z1
  have HN1 := Lib.hid hbn
  clear hb1 hbn
  go_wp2_with fail
  refine HM1.out.mono ?_
  rintro e wx ⟨rfl, rfl⟩
  go_wp2_with fail
  go_loopw [6, 28] (fun x i wr => ∃ (k : Nat) (A : ByteArray), k ≤ LL.length ∧ i = .int .i64 (k : Int) ∧ x = .string A ∧ A.size ≤ k * 4000 ∧ Hid (IsB w.heap.size w1.heap.size wr (bys A) false) ∧ Below w.heap.size w wr) (fun _ i _ => LL.length - (intOf i).toNat)
  case atStart => exact ⟨0, ⟨#[]⟩, by omega, rfl, rfl, Nat.zero_le _, HN1.out, HB1.out⟩
  case round =>
    obtain ⟨k, A, hk, rfl, rfl, hA, HI, hb⟩ := hrel
    have zr := hb.size
    have hA2 : A.size ≤ 160000 := by have : k * 4000 ≤ 40 * 4000 := Nat.mul_le_mul_right _ (by omega); omega
    by_cases hlt : k < LL.length
    · obtain ⟨g, o, adj, capj, rfl, hc, hcp, hs⟩ := strSS_at HS.out hb hlt
      have hokk := HO.out LL[k] (List.getElem_mem hlt)
      have HSL := Lib.hid hs
      clear hs
      generalize LL[k] = L at *
      have htot := okL_total hokk
      have hL20 := hokk.1
      have HP := Lib.hid (add_any (L := L) (cap := capj) wr (by rw [bys_size]; omega) (by rw [bys_size]; omega) (by omega) zr HSL.out HI.out)
      rw [brun_fits L (bys A) (by rw [bys_size]; omega)] at HP
      obtain ⟨Z, hZ⟩ : ∃ Z : ByteArray, bys Z = catB L := ⟨⟨(catB L).toArray⟩, by simp [bys]⟩
      have hZs : Z.size ≤ 4000 := by rw [← bys_size, hZ, catB_total]; exact htot
      have hAZ : (A ++ Z).size ≤ (k + 1) * 4000 := by rw [ByteArray.size_append]; omega
      have hbz : bys A ++ catB L = bys (A ++ Z) := by rw [← hZ]; simp [bys]
      rw [hbz] at HP
      have HJ := Lib.hid fun wz hs => join_any (B := w.heap.size) (ad := adj) (cap := capj) (L := L) wz (by omega) hcp (by omega) hs Z hZ
      have HAZ := Lib.hid hAZ
      clear hokk hZ hAZ hbz
      unfold codB at HP
      go_wp2_with fail
      refine HP.out.mono ?_
      rintro e w3 ⟨rfl, hi3, hf3⟩
      have HI3 := Lib.hid hi3
      have HB3 := Lib.hid (hb.trans hf3.b)
      have HS3 := Lib.hid (strS_fr HSL.out hf3 tb_str)
      have z3 := HB3.out.size
      clear hi3 hf3
      go_wp2_with fail
      refine (HJ.out _ HS3.out).mono ?_
      rintro e w4 ⟨rfl, hb4⟩
      have HI4 := Lib.hid (isB_below HI3.out hb4)
      have HB4 := Lib.hid (HB3.out.trans (hb4.mono z3))
      clear hb4
      go_wp2_with fail
      go_roundw
      case rel => exact ⟨k + 1, A ++ Z, by omega, by go_num, rfl, HAZ.out, HI4.out, HB4.out⟩
      case measure => simp [intOf]; omega
    · have hkl : k = LL.length := by omega
      subst hkl
      have hcs : (1048576 : Int) - (A.size : Int) + (n : Int) = ((1048576 - A.size + n : Nat) : Int) := by omega
      obtain ⟨X, hX, hrep⟩ := repeat_x (1048576 - A.size + n) (by omega)
      rw [← hcs] at hrep
      have HREP := Lib.hid hrep
      have hX2 : A.size + X.size = 1048576 + n := by omega
      have HX := Lib.hid hX2
      have hXb : X.size ≤ 2000000 := by omega
      clear hcs hrep hX hX2
      go_wp2_with fail
      refine (btext_bys _ HI.out).mono ?_
      rintro e w3 ⟨rfl, hb3⟩
      have HI3 := Lib.hid (isB_below HI.out hb3)
      have HB3 := Lib.hid (hb.trans (hb3.mono zr))
      have z3 := HB3.out.size
      clear hb3
      unfold codB
      go_wp2_with fail
      refine (HREP.out _).mono ?_
      rintro e w4 ⟨rfl, hb4⟩
      have HI4 := Lib.hid (isB_below (isB_below HI3.out hb4) ((Below.refl _ _).alloc (Nat.le_refl _) (.cells #[.string X] 9)))
      have hb04 := HB3.out.trans (hb4.mono z3)
      have HB4 := Lib.hid (hb04.alloc hb04.size (.cells #[.string X] 9))
      have z4 := hb04.size
      clear hb4 hb04
      have HA4 := Lib.hid (add_any (B := w.heap.size) (b := w1.heap.size) (L := [X]) (cap := 1) (t := bys A) (long := false) (w4.alloc (.cells #[.string X] 9)) (by rw [bys_size]; omega) (by rw [bys_size]; simp only [total]; omega) (by simp) (by simp; omega) strS_one HI4.out)
      by_cases hn0 : n = 0
      · have he : brun [X] (bys A, false) = (bys (A ++ X), false) := by
          rw [brun_fits [X] (bys A) (by rw [bys_size]; simp only [total]; have := HX.out; omega)]
          simp [catB, bys]
        rw [he] at HA4
        subst hn0
        have hsz : ((A ++ X).size : Int) = 1048576 := by rw [ByteArray.size_append]; have := HX.out; omega
        have HPX : Hid (∀ w, Calls Try.prog 27 #[.string (A ++ X), .string A] w fun e w' => e = .returned (.bool true) ∧ w = w') := fun w => (Try.strings_HasPrefix (A ++ X) A w).mono fun e w' ⟨h1, h2⟩ => ⟨by
          rw [h1]; congr 2; unfold Lib.hasPrefix; simp, h2.symm⟩
        clear he
        generalize A ++ X = Y at *
        go_wp2_with fail
        refine HA4.out.mono ?_
        rintro e w5 ⟨rfl, hi5, hf5⟩
        have HI5 := Lib.hid hi5
        have HB5 := Lib.hid (HB4.out.trans hf5.b)
        have z5 := HB5.out.size
        clear hi5 hf5
        unfold codB
        go_wp2_with fail
        refine (btext_bys _ HI5.out).mono ?_
        rintro e w6 ⟨rfl, hb6⟩
        have HB6 := Lib.hid (HB5.out.trans (hb6.mono z5))
        clear hb6
        unfold codB
        go_wp2_with fail
        refine (HPX.out _).mono ?_
        rintro e wx ⟨rfl, rfl⟩
        go_wp2_with fail
        go_ret
        exact ⟨rfl, HB6.out⟩
      · have he : brun [X] (bys A, false) = (bys ⟨#[]⟩, true) := by
          rw [brun, brun, b1_yes (.inr (by show 1048576 - (bys A).length < _; rw [bys_size, size_list]; have := HX.out; omega))]
          rfl
        rw [he] at HA4
        have hn1 : ((n : Int) == 0) = false := by rw [beq_eq_false_iff_ne]; omega
        clear he
        go_wp2_with fail
        refine HA4.out.mono ?_
        rintro e w5 ⟨rfl, hi5, hf5⟩
        have HI5 := Lib.hid hi5
        have HB5 := Lib.hid (HB4.out.trans hf5.b)
        have z5 := HB5.out.size
        clear hi5 hf5
        unfold codB
        go_wp2_with fail
        refine (btext_bys _ HI5.out).mono ?_
        rintro e w6 ⟨rfl, hb6⟩
        have HI6 := Lib.hid (isB_below HI5.out hb6)
        have HB6 := Lib.hid (HB5.out.trans (hb6.mono z5))
        have z6 := HB6.out.size
        clear hb6
        unfold codB
        go_wp2_with fail
        refine (add_any (B := w.heap.size) (L := []) (cap := 0) _ (by decide) (by decide) (by decide) z6 (.inl rfl) HI6.out).mono ?_
        rintro e w7 ⟨rfl, hi7, hf7⟩
        have HB7 := Lib.hid (HB6.out.trans hf7.b)
        clear hi7 hf7
        rw [show codB (brun [] (bys ⟨#[]⟩, true)).2 = 2 from rfl]
        go_wp2_with fail
        go_ret
        exact ⟨rfl, HB7.out⟩
set_option maxRecDepth 100000 in
set_option maxHeartbeats 2000000 in
theorem sinkBuilds_walk (w : World) (ad : Option Addr) (cap : Nat) (LL : List (List ByteArray)) (hl : LL.length ≤ maxLen) (hly : ∀ L ∈ LL, L.length ≤ maxLen) (hv : StrSS w.heap.size ad w LL) (a : Int) (ha : (Lit.int .i64 a).wf = true) (m : Int) (hm : w.cell? ⟨0, 0, none⟩ = some (.int .i64 m)) :
    Calls Try.prog 6 #[.slice ad LL.length cap, .int .i64 a] w fun e w' => e = .returned (.bool true) ∧ Below w.heap.size w w' := by
  obtain ⟨a1, a2⟩ := i64_range ha
  have hcs : sm LL = false ∨ (sm LL = true ∧ a < 0) ∨ (sm LL = true ∧ 0 ≤ a ∧ 3 < a) ∨ (sm LL = true ∧ 0 ≤ a ∧ a ≤ 3) := by
    cases sm LL <;> simp; omega
  have HT := Lib.hid (prints_any m w hm)
  have HSM := Lib.hid fun wz hb => small_any (cap := cap) w wz (maxLen_le hl) (fun L hL => maxLen_le (hly L hL)) hv hb
  rcases hcs with hcs | ⟨hcs, h2⟩ | ⟨hcs, h2, h3⟩ | ⟨hcs, h2, h3⟩
  case inr.inr.inr =>
    obtain ⟨h4, h5⟩ := sm_yes hcs
    obtain ⟨n, rfl⟩ := Int.eq_ofNat_of_zero_le h2
    exact sinkBuilds_near w ad cap LL h4 h5 hv n (by omega) hcs m hm
  all_goals
    rw [hcs] at HSM
    clear hm hv hcs ha hl hly
    go_enter Try.func6, Try.ntmps6
    go_wp2_with fail
    refine HT.out.mono ?_
    rintro e w1 ⟨rfl, hb1⟩
    have HM1 := Lib.hid (HSM.out _ hb1)
    have HB1 := Lib.hid hb1
    clear hb1
    go_wp2_with fail
    refine HM1.out.mono ?_
    rintro e wx ⟨rfl, rfl⟩
    go_wp2_with fail
    go_ret
    exact ⟨rfl, HB1.out⟩
end Go.Proofs.Ytmlhknkeacpnhaa.Sk
