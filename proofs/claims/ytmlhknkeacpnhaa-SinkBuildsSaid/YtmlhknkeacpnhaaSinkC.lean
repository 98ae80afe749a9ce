/- The walk of SinkPrints. -/
import Derived.Test.YtmlhknkeacpnhaaSinkA
set_option linter.unusedVariables false
namespace Go.Proofs.Ytmlhknkeacpnhaa.Sk
open Go.RowKit Go.ChangeShapes Go.WideShapes Go.ChangeAt

/-- Texts behind each other. -/
def catB : List ByteArray → List UInt8
  | [] => []
  | x :: L => bys x ++ catB L
theorem catB_append : ∀ (a b : List ByteArray), catB (a ++ b) = catB a ++ catB b
  | [], b => rfl
  | x :: a, b => by rw [List.cons_append, catB, catB, catB_append a b, List.append_assoc]
theorem catB_take (L : List ByteArray) (k : Nat) (h : k < L.length) : catB (L.take (k + 1)) = catB (L.take k) ++ bys L[k] := by
  rw [List.take_succ_eq_append_getElem h, catB_append, catB, catB, List.append_nil]
theorem catB_total : ∀ L : List ByteArray, (catB L).length = total L
  | [] => rfl
  | x :: L => by rw [catB, List.length_append, bys_size, catB_total L, total]
theorem total_ok : ∀ {L : List ByteArray} {n : Nat}, (∀ x ∈ L, x.size ≤ n) → total L ≤ L.length * n
  | [], n, _ => by simp [total]
  | x :: L, n, h => by
    have h1 := h x List.mem_cons_self
    have h2 := total_ok (L := L) (n := n) fun y hy => h y (List.mem_cons_of_mem _ hy)
    rw [total, List.length_cons, Nat.succ_mul]; omega
theorem okL_total {L : List ByteArray} (h : okL L) : total L ≤ 4000 := by
  have h1 := total_ok h.2
  have h2 := h.1
  have : L.length * 200 ≤ 20 * 200 := Nat.mul_le_mul_right _ h2
  omega
theorem prun_full {r : Nat} : ∀ (L : List ByteArray) (t : List UInt8), t.length = r → prun r L (t, true) = (t, true)
  | [], t, _ => rfl
  | x :: L, t, h => by
    rw [prun]
    by_cases hx : r - t.length < x.data.toList.length
    · rw [pr1_yes hx]
      have : t ++ x.data.toList.take (r - t.length) = t := by rw [h]; simp
      rw [this]; exact prun_full L t h
    · rw [pr1_no hx]
      have hz : x.data.toList = [] := List.eq_nil_of_length_eq_zero (by omega)
      rw [hz, List.append_nil]; exact prun_full L t h
theorem prun_law {r : Nat} : ∀ (L : List ByteArray) (t : List UInt8), t.length ≤ r → prun r L (t, false) = ((t ++ catB L).take r, decide (r < (t ++ catB L).length))
  | [], t, h => by
    rw [prun, catB, List.append_nil, List.take_of_length_le h, decide_eq_false (by omega)]
  | x :: L, t, h => by
    rw [prun, catB, ← List.append_assoc]
    by_cases hx : r - t.length < x.data.toList.length
    · have hx' : r - t.length < (bys x).length := hx
      rw [pr1_yes hx, prun_full L _ (by simp only [List.length_append, List.length_take]; omega)]
      have hl : r < (t ++ bys x ++ catB L).length := by simp only [List.length_append]; omega
      rw [decide_eq_true hl, List.append_assoc, List.take_append, List.take_of_length_le h, List.take_append_of_le_length (by omega)]
      rfl
    · have hx' : ¬ r - t.length < (bys x).length := hx
      rw [pr1_no hx]
      exact prun_law L (t ++ bys x) (by simp only [List.length_append]; omega)
theorem ext_all {A : ByteArray} {r : Nat} (h : A.size ≤ r) : A.extract 0 r = A := bytes_ext (by rw [Lib.extract_data, List.drop_zero]; exact List.take_of_length_le (by rw [size_list]; omega))
theorem text_bys {B b : Nat} {w : World} {T : ByteArray} {lim : Int} {full : Bool} (h : IsS B b w (bys T) lim full) : Calls Try.prog 12 #[.pointer (some ⟨b, 0, none⟩)] w fun e w' => e = .returned (.string T) ∧ w = w' :=
  (text_any h).mono fun e w' ⟨h1, h2⟩ => ⟨by rw [h1, show (⟨(bys T).toArray⟩ : ByteArray) = T from Lib.mk_data T], h2⟩
theorem len_bys {B b : Nat} {w : World} {T : ByteArray} {lim : Int} {full : Bool} (h : IsS B b w (bys T) lim full) : Calls Try.prog 13 #[.pointer (some ⟨b, 0, none⟩)] w fun e w' => e = .returned (.int .i64 (T.size : Int)) ∧ w = w' :=
  (slen_any h).mono fun e w' ⟨h1, h2⟩ => ⟨by rw [h1, bys_size], h2⟩
theorem left_bys {B b : Nat} {w : World} {T : ByteArray} {lim : Nat} {full : Bool} (ht : T.size ≤ lim) (hl : lim ≤ 9223372036854775807) (h : IsS B b w (bys T) lim full) : Calls Try.prog 15 #[.pointer (some ⟨b, 0, none⟩)] w fun e w' => e = .returned (.int .i64 ((lim : Int) - (T.size : Int))) ∧ Below w.heap.size w w' :=
  (left_any (by rw [bys_size]; exact ht) hl h).mono fun e w' ⟨h1, h2⟩ => ⟨by rw [h1, bys_size]; exact ret_i64 (by omega), h2⟩
theorem isS_maxed {w w' : World} {a : Int} {r : Nat} (hr : max a 0 = (r : Int)) (h : IsS w.heap.size w.heap.size w' [] (max a 0) false) {B : Nat} (hB : B ≤ w.heap.size) : IsS B w.heap.size w' (bys ⟨#[]⟩) (r : Int) false := by
  rw [hr] at h
  obtain ⟨⟨ad, cap, q1, q2⟩, q3⟩ := h
  exact ⟨⟨ad, cap, q1, own_low q2 hB⟩, Nat.le_trans hB q3⟩

set_option maxRecDepth 100000 in
set_option maxHeartbeats 8000000 in
theorem sinkPrints_near (w : World) (ad : Option Addr) (cap : Nat) (LL : List (List ByteArray)) (hl : LL.length ≤ 40) (hok : ∀ L ∈ LL, okL L) (hv : StrSS w.heap.size ad w LL) (a : Int) (r : Nat) (hr : max a 0 = (r : Int)) (hr2 : r ≤ 9223372036854775807) (hsm : sm LL = true) (m : Int) (hm : w.cell? ⟨0, 0, none⟩ = some (.int .i64 m)) :
    Calls Try.prog 3 #[.slice ad LL.length cap, .int .i64 a] w fun e w' => e = .returned (.bool true) ∧ Below w.heap.size w w' := by
  have HT := Lib.hid (prints_any m w hm)
  have HS := Lib.hid hv
  have HO := Lib.hid hok
  have HSM := Lib.hid fun wz hb => small_any (cap := cap) w wz (by omega) (fun L hL => by have := (hok L hL).1; omega) hv hb
  rw [hsm] at HSM
  have HR := Lib.hid hr
  clear hm hv hok hsm hr
  go_enter Try.func3, Try.ntmps3
  go_wp2_with fail
  refine HT.out.mono ?_
  rintro e w1 ⟨rfl, hb1⟩
  have z1 := hb1.size
  have HM1 := Lib.hid (HSM.out _ hb1)
  have HB1 := Lib.hid hb1
  clear hb1
  go_wp2_with fail
  refine HM1.out.mono ?_
  rintro e wx ⟨rfl, rfl⟩
  go_wp2_with fail
  refine (new_any a _).mono ?_
  rintro e w2 ⟨rfl, hs2, hb2⟩
  have HS2 := Lib.hid (isS_maxed HR.out hs2 z1)
  have HB2 := Lib.hid (HB1.out.trans (hb2.mono z1))
  clear hs2 hb2
  go_wp2_with fail
  simp only [HR.out]
  go_loopw [7, 8, 28] (fun x f i wr => ∃ (k : Nat) (A : ByteArray), k ≤ LL.length ∧ i = .int .i64 (k : Int) ∧ x = .string A ∧ f = .bool (decide (r < A.size)) ∧ A.size ≤ k * 4000 ∧ Hid (IsS w.heap.size w1.heap.size wr (bys (A.extract 0 r)) (r : Int) (decide (r < A.size))) ∧ Below w.heap.size w wr) (fun _ _ i _ => LL.length - (intOf i).toNat)
  case atStart => exact ⟨0, ⟨#[]⟩, by omega, rfl, rfl, by rw [decide_eq_false (by show ¬ r < 0; omega)], Nat.zero_le _, by
    rw [decide_eq_false (by show ¬ r < 0; omega)]
    have : (⟨#[]⟩ : ByteArray).extract 0 r = ⟨#[]⟩ := ext_all (Nat.zero_le _)
    rw [this]; exact HS2.out, HB2.out⟩
  case round =>
    obtain ⟨k, A, hk, rfl, rfl, rfl, hA, HI, hb⟩ := hrel
    have zr := hb.size
    by_cases hlt : k < LL.length
    · obtain ⟨g, o, adj, capj, rfl, hc, _, hs⟩ := strSS_at HS.out hb hlt
      have hokk := HO.out LL[k] (List.getElem_mem hlt)
      have HSL := Lib.hid hs
      clear hs
      generalize LL[k] = L at *
      have htot := okL_total hokk
      have hL20 := hokk.1
      have HX : Hid (∀ q (hq : q < L.length), L[q].size ≤ 200) := fun q hq => hokk.2 _ (List.getElem_mem hq)
      have hA2 : A.size ≤ 160000 := by have : k * 4000 ≤ 40 * 4000 := Nat.mul_le_mul_right _ (by omega); omega
      clear hokk
      by_cases hF : r < A.size
      · have hxs : (A.extract 0 r).size = r := by simp; omega
        have hrb : r ≤ 160000 := by omega
        have HI' := HI.out
        rw [decide_eq_true hF] at HI'
        have HP := Lib.hid (print_any (L := L) (cap := capj) wr (by rw [bys_size]; omega) hr2 (by rw [bys_size]; omega) (by omega) zr HSL.out HI')
        rw [prun_full L (bys (A.extract 0 r)) (by rw [bys_size]; exact hxs)] at HP
        have hdF : decide (r < A.size) = true := decide_eq_true hF
        clear HI HI'
        rw [hdF]
        go_wp2_with fail
        refine HP.out.mono ?_
        rintro e w3 ⟨rfl, hi3, hf3⟩
        have HI3 := Lib.hid hi3
        have HB3 := Lib.hid (hb.trans hf3.b)
        have z3 := HB3.out.size
        clear hi3 hf3 HP
        unfold cod
        generalize hT : A.extract 0 r = T at *
        have HTT := Lib.hid hT
        go_wp2_with fail
        refine (text_bys HI3.out).mono ?_
        rintro e wx ⟨rfl, rfl⟩
        go_wp2_with fail
        refine (len_bys HI3.out).mono ?_
        rintro e wx ⟨rfl, rfl⟩
        go_wp2_with fail
        refine (full_any HI3.out).mono ?_
        rintro e wx ⟨rfl, rfl⟩
        go_wp2_with fail
        refine (left_bys (by omega) hr2 HI3.out).mono ?_
        rintro e w5 ⟨rfl, hb5⟩
        have HI5 := Lib.hid (isS_below HI3.out hb5)
        have HB5 := Lib.hid (HB3.out.trans (hb5.mono z3))
        have z5 := HB5.out.size
        clear hb5
        go_wp2_with fail
        refine (left_bys (by omega) hr2 HI5.out).mono ?_
        rintro e w6 ⟨rfl, hb6⟩
        have HI4 := Lib.hid (isS_below HI5.out hb6)
        have HB4 := Lib.hid (HB5.out.trans (hb6.mono z5))
        clear hb6
        go_wp2_with fail
        clear hT
        go_roundw
        case rel => exact ⟨k + 1, A, by omega, by go_num, rfl, by rw [decide_eq_true hF], by omega, by rw [HTT.out, decide_eq_true hF]; exact HI4.out, HB4.out⟩
        case measure => simp [intOf]; omega
      · have hxs : A.extract 0 r = A := ext_all (by omega)
        have HI' := HI.out
        rw [decide_eq_false hF, hxs] at HI'
        have HP := Lib.hid (print_any (L := L) (cap := capj) wr (by rw [bys_size]; omega) hr2 (by rw [bys_size]; omega) (by omega) zr HSL.out HI')
        rw [prun_law L (bys A) (by rw [bys_size]; omega)] at HP
        obtain ⟨Y, hY⟩ : ∃ Y : ByteArray, bys Y = bys A ++ catB L := ⟨⟨(bys A ++ catB L).toArray⟩, by simp [bys]⟩
        rw [← hY, bys_size] at HP
        have hYs : Y.size = A.size + total L := by rw [← bys_size, hY, List.length_append, bys_size, catB_total]
        have hYe : (bys Y).take r = bys (Y.extract 0 r) := by simp [bys]
        rw [hYe] at HP
        have HYY := Lib.hid hY
        have hYb : Y.size ≤ 164000 := by omega
        have hYk : Y.size ≤ (k + 1) * 4000 := by omega
        have HYK := Lib.hid hYk
        have hdF : decide (r < A.size) = false := decide_eq_false hF
        have hYss := Lib.hid hYs
        clear HI HI' hY hYe hYk hYs hxs
        rw [hdF]
        go_wp2_with fail
        refine HP.out.mono ?_
        rintro e w3 ⟨rfl, hi3, hf3⟩
        have HI3 := Lib.hid hi3
        have HB3 := Lib.hid (hb.trans hf3.b)
        have HSL3 := Lib.hid (strS_fr HSL.out hf3 ts_str)
        have z3 := HB3.out.size
        clear hi3 hf3 HP HSL
        go_wp2_with fail
        go_loop [7, 39] (fun x i => ∃ (q : Nat) (Z : ByteArray), q ≤ L.length ∧ i = .int .i64 (q : Int) ∧ x = .string Z ∧ Z.size ≤ 164000 ∧ Hid (bys Z = bys A ++ catB (L.take q))) (fun _ i => L.length - (intOf i).toNat)
        case atStart => exact ⟨0, A, by omega, rfl, rfl, by omega, by simp [Hid, catB]⟩
        case round =>
          obtain ⟨q, Z, hq, rfl, rfl, hZ, HZ⟩ := hrel
          by_cases hqt : q < L.length
          · obtain ⟨g', o', rfl, hc'⟩ := strS_at HSL3.out hqt
            have hx := HX.out q hqt
            have HTK := Lib.hid (catB_take L q hqt)
            have HZB : Hid (bys (Z ++ L[q]) = bys A ++ catB (L.take (q + 1)) ∧ (Z ++ L[q]).size ≤ 164000) := by
              have e1 : bys (Z ++ L[q]) = bys A ++ catB (L.take (q + 1)) := by
                rw [HTK.out, ← List.append_assoc, ← HZ.out]; simp [bys]
              refine ⟨e1, ?_⟩
              have e2 : (catB (L.take (q + 1))).length ≤ total L := by
                have := congrArg (fun l => (catB l).length) (List.take_append_drop (q + 1) L)
                simp only [catB_append, List.length_append] at this
                rw [← catB_total]; omega
              rw [← bys_size, e1, List.length_append, bys_size]; omega
            generalize L[q] = x at *
            go_wp2_with fail
            go_round
            case rel => exact ⟨q + 1, Z ++ x, by omega, by go_num, rfl, HZB.out.2, HZB.out.1⟩
            case measure => simp [intOf]; omega
          · have hZY : Z = Y := bytes_ext (show bys Z = bys Y by rw [HZ.out, HYY.out, List.take_of_length_le (by omega)])
            subst hZY
            by_cases hY2 : r < Z.size
            · have hd2 : decide (r < Z.size) = true := decide_eq_true hY2
              have HI3' := HI3.out
              rw [hd2] at HI3'
              have hxs2 : (Z.extract 0 r).size = r := by simp; omega
              have hrb : r ≤ 164000 := by omega
              rw [hd2]
              unfold cod
              generalize hT : Z.extract 0 r = T at *
              have HTT := Lib.hid hT
              have HI3 := Lib.hid HI3'
              have hxs := hxs2
              clear HI3' hxs2
              go_wp2_with fail
              refine (text_bys HI3.out).mono ?_
              rintro e wx ⟨rfl, rfl⟩
              go_wp2_with fail
              refine (len_bys HI3.out).mono ?_
              rintro e wx ⟨rfl, rfl⟩
              go_wp2_with fail
              refine (full_any HI3.out).mono ?_
              rintro e wx ⟨rfl, rfl⟩
              go_wp2_with fail
              refine (left_bys (by omega) hr2 HI3.out).mono ?_
              rintro e w5 ⟨rfl, hb5⟩
              have HI5 := Lib.hid (isS_below HI3.out hb5)
              have HB5 := Lib.hid (HB3.out.trans (hb5.mono z3))
              have z5 := HB5.out.size
              clear hb5
              go_wp2_with fail
              refine (left_bys (by omega) hr2 HI5.out).mono ?_
              rintro e w6 ⟨rfl, hb6⟩
              have HI4 := Lib.hid (isS_below HI5.out hb6)
              have HB4 := Lib.hid (HB5.out.trans (hb6.mono z5))
              clear hb6
              go_wp2_with fail
              clear hT
              go_roundw
              case rel => exact ⟨k + 1, Z, by omega, by go_num, rfl, by rw [decide_eq_true hY2], HYK.out, by rw [HTT.out, decide_eq_true hY2]; exact HI4.out, HB4.out⟩
              case measure => simp [intOf]; omega
            · have hd2 : decide (r < Z.size) = false := decide_eq_false hY2
              have hxs2 : Z.extract 0 r = Z := ext_all (by omega)
              have HI3' := HI3.out
              rw [hd2, hxs2] at HI3'
              rw [hd2]
              unfold cod
              have HI3 := Lib.hid HI3'
              have HXS := Lib.hid hxs2
              clear HI3' hxs2
              go_wp2_with fail
              refine (text_bys HI3.out).mono ?_
              rintro e wx ⟨rfl, rfl⟩
              go_wp2_with fail
              refine (len_bys HI3.out).mono ?_
              rintro e wx ⟨rfl, rfl⟩
              go_wp2_with fail
              refine (full_any HI3.out).mono ?_
              rintro e wx ⟨rfl, rfl⟩
              go_wp2_with fail
              refine (left_bys (by omega) hr2 HI3.out).mono ?_
              rintro e w5 ⟨rfl, hb5⟩
              have HI4 := Lib.hid (isS_below HI3.out hb5)
              have HB4 := Lib.hid (HB3.out.trans (hb5.mono z3))
              clear hb5
              go_wp2_with fail
              go_roundw
              case rel => exact ⟨k + 1, Z, by omega, by go_num, rfl, by rw [decide_eq_false hY2], HYK.out, by rw [HXS.out, decide_eq_false hY2]; exact HI4.out, HB4.out⟩
              case measure => simp [intOf]; omega
    · go_wp2_with fail
      go_ret
      exact ⟨rfl, hb⟩
set_option maxRecDepth 100000 in
set_option maxHeartbeats 2000000 in
theorem sinkPrints_walk (w : World) (ad : Option Addr) (cap : Nat) (LL : List (List ByteArray)) (hl : LL.length ≤ maxLen) (hly : ∀ L ∈ LL, L.length ≤ maxLen) (hv : StrSS w.heap.size ad w LL) (a : Int) (ha : (Lit.int .i64 a).wf = true) (m : Int) (hm : w.cell? ⟨0, 0, none⟩ = some (.int .i64 m)) :
    Calls Try.prog 3 #[.slice ad LL.length cap, .int .i64 a] w fun e w' => e = .returned (.bool true) ∧ Below w.heap.size w w' := by
  obtain ⟨a1, a2⟩ := i64_range ha
  cases hsm : sm LL
  · have HT := Lib.hid (prints_any m w hm)
    have HSM := Lib.hid fun wz hb => small_any (cap := cap) w wz (maxLen_le hl) (fun L hL => maxLen_le (hly L hL)) hv hb
    rw [hsm] at HSM
    clear hm hv hsm ha hl hly
    go_enter Try.func3, Try.ntmps3
    go_wp2_with fail
    refine HT.out.mono ?_
    rintro e w1 ⟨rfl, hb1⟩
    have HM1 := Lib.hid (HSM.out _ hb1)
    have HB1 := Lib.hid hb1
    clear hb1
    go_wp2_with fail
    refine HM1.out.mono ?_
    rintro e wx ⟨rfl, rfl⟩
    go_wp2_with fail
    go_ret
    exact ⟨rfl, HB1.out⟩
  · obtain ⟨h1, h2⟩ := sm_yes hsm
    exact sinkPrints_near w ad cap LL h1 h2 hv a (max a 0).toNat (by omega) (by omega) hsm m hm
end Go.Proofs.Ytmlhknkeacpnhaa.Sk
