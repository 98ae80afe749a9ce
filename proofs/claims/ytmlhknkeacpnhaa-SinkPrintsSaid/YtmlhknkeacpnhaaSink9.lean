/- The walk of SinkLines. -/
import Derived.Test.YtmlhknkeacpnhaaSink7
import Derived.Test.YtmlhknkeacpnhaaSink8
set_option linter.unusedVariables false
namespace Go.Proofs.Ytmlhknkeacpnhaa.Sk
open Go.RowKit Go.ChangeShapes Go.WideShapes Go.ChangeAt

def bys (x : ByteArray) : List UInt8 := x.data.toList
theorem bys_size (x : ByteArray) : (bys x).length = x.size := size_list x
theorem line_fits {lim : Nat} {x : ByteArray} {t : List UInt8} (h : t.length + x.size + 1 ≤ lim) : line lim [x] (t, false) = (t ++ (bys x ++ [10]), false) := by
  have h1 : prun lim [x] (t, false) = (t ++ bys x, false) := by
    rw [prun, prun, pr1_no (by rw [size_list]; simp only; omega)]; rfl
  unfold line
  rw [h1, if_neg (by simp), prun, prun, pr1_no (by simp only [List.length_append, bys_size, List.length_singleton]; omega)]
  simp
theorem lns_catL : ∀ (X : List (List UInt8)), (∀ x ∈ X, (10 : UInt8) ∉ x) → lns (catL X) = X
  | [], _ => rfl
  | x :: X, h => by
    have h1 : ∀ (a acc r : List UInt8), (10 : UInt8) ∉ a → lnsA (a ++ 10 :: r) acc = (acc ++ a) :: lnsA r [] := by
      intro a
      induction a with
      | nil => intro acc r _; rw [List.nil_append, lnsA, if_pos rfl, List.append_nil]
      | cons c a ih =>
        intro acc r hc
        have : ¬ c = 10 := fun e => hc (by rw [e]; exact List.mem_cons_self)
        rw [List.cons_append, lnsA, if_neg this, ih _ _ (fun h => hc (List.mem_cons_of_mem _ h))]
        simp
    rw [catL]
    unfold lns
    rw [h1 x [] _ (h x List.mem_cons_self), List.nil_append]
    have := lns_catL X (fun y hy => h y (List.mem_cons_of_mem _ hy))
    unfold lns at this
    rw [this]
theorem map_mk (L : List ByteArray) : (L.map bys).map (fun l => (⟨l.toArray⟩ : ByteArray)) = L := by
  rw [List.map_map]
  conv => rhs; rw [← List.map_id L]
  apply List.map_congr_left
  intro x _
  simp [bys]
theorem lnsB_catL (L : List ByteArray) (h : ∀ x ∈ L, (10 : UInt8) ∉ bys x) : lnsB (catL (L.map bys)) = L := by
  unfold lnsB
  rw [lns_catL _ (fun x hx => by obtain ⟨y, hy, rfl⟩ := List.mem_map.1 hx; exact h y hy), map_mk]
theorem has_byte {l : List UInt8} {c : UInt8} (h : c ∈ l) : 0 ≤ Lib.indexByte l c := by
  have hg := Lib.indexByte_ge l c
  by_cases h0 : Lib.indexByte l c = -1
  · obtain ⟨k, hk⟩ := List.mem_iff_getElem?.1 h
    exact absurd hk (Lib.indexByte_none h0 k)
  · omega
/-- Are all lines without a line end? -/
def pl (L : List ByteArray) : Bool := L.all fun x => !(bys x).contains 10
theorem pl_iff (L : List ByteArray) : pl L = true ↔ ∀ x ∈ L, (10 : UInt8) ∉ bys x := by
  unfold pl
  simp
theorem pl_succ (L : List ByteArray) (k : Nat) (h : k < L.length) : pl (L.take (k + 1)) = (pl (L.take k) && !(bys L[k]).contains 10) := by
  rw [List.take_succ_eq_append_getElem h]
  unfold pl
  rw [List.all_append]
  simp
theorem contains_ten (x : ByteArray) (w : World) : Calls Try.prog 16 #[.string x, .string ⟨#[10]⟩] w fun e w' => e = .returned (.bool ((bys x).contains 10)) ∧ w = w' :=
  (Try.strings_Contains_one x 10 w).mono fun e w' ⟨h1, h2⟩ => ⟨by
    rw [h1]
    congr 2
    show decide (0 ≤ Lib.indexByte (bys x) 10) = _
    by_cases h : (10 : UInt8) ∈ bys x
    · rw [decide_eq_true (has_byte h)]; simpa using h
    · rw [no_byte h]
      simpa using h, h2.symm⟩
theorem equal_same {B : Nat} {ad1 ad2 : Option Addr} {c1 c2 : Nat} {L : List ByteArray} (w : World) (hL : L.length ≤ 1000) (h1 : w.ownsRow B 9 1 (.slice ad1 L.length c1) L.length (L.map Value.string)) {B2 : Nat} (h2 : StrS B2 ad2 w L) :
    Calls Try.prog 18 #[.slice ad1 L.length c1, .slice ad2 L.length c2] w fun e w' => e = .returned (.bool true) ∧ Below w.heap.size w w' := by
  by_cases h0 : 0 < L.length
  · rcases h2 with rfl | ⟨g, o, rfl, hg, _, hc⟩
    · simp at h0
    obtain ⟨g1, rfl, _, hg1, _⟩ := row_str h1 rfl h0
    refine (Try.slices_Equal_string g1 0 L.length c1 g o L.length c2 L L w (Nat.le_refl _) (Nat.le_refl _) (by omega) (by omega) (fun j hj => ?_) (fun j hj => ?_)).mono ?_
    · obtain ⟨g', e, _, _, hcc⟩ := row_str h1 rfl hj
      simp at e; subst e
      rw [Nat.zero_add, hcc]; simp [List.getD, hj]
    · rw [hc j hj]; simp [List.getD, hj]
    · rintro e w' ⟨he, n, rfl⟩
      exact ⟨by rw [he]; simp, below_drewN (Below.refl _ _) n⟩
  · have hz : L.length = 0 := by omega
    rw [hz]
    refine (Try.slices_Equal_string_empty ad1 ad2 c1 0 c2 w (by omega)).mono ?_
    rintro e w' ⟨he, rfl⟩
    exact ⟨by rw [he]; rfl, Below.refl _ _⟩
theorem isS_big {w : World} : ∀ {w' : World}, IsS w.heap.size w.heap.size w' [] (max (1048576 : Int) 0) false → IsS w.heap.size w.heap.size w' [] ((1048576 : Nat) : Int) false := fun h => h

set_option maxRecDepth 100000 in
set_option maxHeartbeats 4000000 in
theorem sinkLines_walk (w : World) (ad : Option Addr) (cap : Nat) (L : List ByteArray) (hl : L.length ≤ maxLen) (hy : ∀ y ∈ L, y.size ≤ 140737488351232) (hv : StrS w.heap.size ad w L) (m : Int) (hm : w.cell? ⟨0, 0, none⟩ = some (.int .i64 m)) :
    Calls Try.prog 4 #[.slice ad L.length cap] w fun e w' => e = .returned (.bool true) ∧ Below w.heap.size w w' := by
  have h0 := pos_of hm
  have HT := Lib.hid (prints_any m w hm)
  have HM := Lib.hid hm
  have HS := Lib.hid hv
  have HY := Lib.hid hy
  clear hm hv hy
  by_cases hcs : 60 < L.length
  · have hl := maxLen_le hl
    go_enter Try.func4, Try.ntmps4
    go_wp2_with fail
    refine HT.out.mono ?_
    rintro e w1 ⟨rfl, hb1⟩
    go_wp2_with fail
    go_ret
    exact ⟨rfl, hb1⟩
  · have hl60 : L.length ≤ 60 := by omega
    clear hl hcs
    go_enter Try.func4, Try.ntmps4
    go_wp2_with fail
    refine HT.out.mono ?_
    rintro e w1 ⟨rfl, hb1⟩
    have z1 := hb1.size
    go_wp2_with fail
    refine (new_any 1048576 _).mono ?_
    rintro e w2 ⟨rfl, hs2, hb2⟩
    have hs2' : IsS w.heap.size w1.heap.size w2 [] ((1048576 : Nat) : Int) false := ⟨by obtain ⟨⟨ad, cap, q1, q2⟩, q3⟩ := isS_big hs2; exact ⟨ad, cap, q1, own_low q2 z1⟩, z1⟩
    have HS2 := Lib.hid hs2'
    have hb02 := hb1.trans (hb2.mono z1)
    clear hs2 hs2' hb2 hb1
    go_wp2_with fail
    go_loopw [4, 15] (fun p i wr => ∃ (k : Nat) (t : List UInt8), k ≤ L.length ∧ i = .int .i64 (k : Int) ∧ p = .bool (pl (L.take k)) ∧ t.length ≤ k * 201 ∧ Hid (t = catL ((L.take k).map bys)) ∧ Hid (IsS w.heap.size w1.heap.size wr t ((1048576 : Nat) : Int) false) ∧ Below w.heap.size w wr) (fun _ i _ => L.length - (intOf i).toNat)
    case atStart => exact ⟨0, [], by omega, rfl, rfl, by simp, rfl, HS2.out, hb02⟩
    case round =>
      obtain ⟨k, t, hk, rfl, rfl, ht, HTX, HI, hb⟩ := hrel
      have zr := hb.size
      by_cases hlt : k < L.length
      · obtain ⟨g, o, rfl, hc⟩ := strS_get HS.out hlt hb
        have hps := pl_succ L k hlt
        have htx : catL ((L.take (k + 1)).map bys) = t ++ (bys L[k] ++ [10]) := by
          rw [List.take_succ_eq_append_getElem hlt, List.map_append, catL_append, ← HTX.out]; rfl
        have HPS := Lib.hid hps
        have HTX2 := Lib.hid htx
        clear hps htx
        generalize L[k] = x at *
        by_cases hx : x.size ≤ 200
        · have HL1 : ∀ (cap : Nat) (ad : Option Addr) (wz : World), w.heap.size ≤ wz.heap.size → StrS w.heap.size ad wz [x] → IsS w.heap.size w1.heap.size wz t ((1048576 : Nat) : Int) false → Calls Try.prog 17 #[.pointer (some ⟨w1.heap.size, 0, none⟩), .slice ad 1 cap] wz fun e w' => e = .returned (.int .i64 0) ∧ IsS w.heap.size w1.heap.size w' (t ++ (bys x ++ [10])) ((1048576 : Nat) : Int) false ∧ Fr TS w.heap.size wz w' := fun cap ad wz hB hs h =>
            (line_any (L := [x]) (cap := cap) wz (by omega) (by decide) (by simp only [total]; omega) (by simp) hB hs h).mono fun e w' h => by
              rw [line_fits (by omega)] at h; exact h
          have HL := Lib.hid HL1
          have HCT := Lib.hid fun w => contains_ten x w
          clear HL1
          generalize hp : pl (L.take k) = p
          generalize hct : (bys x).contains 10 = ct at *
          rw [hp] at HPS
          have HCT2 : Hid ((bys x).contains 10 = ct) := hct
          clear hp hct
          have htl : (t ++ (bys x ++ [10])).length ≤ (k + 1) * 201 := by simp only [List.length_append, bys_size, List.length_singleton]; omega
          have HTL := Lib.hid htl
          have HI1 := Lib.hid (isS_below HI.out ((Below.refl _ _).alloc (Nat.le_refl _) (.cells #[.string x] 9)))
          have HB1 := Lib.hid (hb.alloc zr (.cells #[.string x] 9))
          clear htl
          cases p
          · go_wp2_with fail
            refine (HL.out 1 _ _ (by simp; omega) strS_one HI1.out).mono ?_
            rintro e w3 ⟨rfl, hi3, hf3⟩
            have HI3 := Lib.hid hi3
            have HB3 := Lib.hid (HB1.out.trans hf3.b)
            clear hi3 hf3
            go_wp2_with fail
            go_roundw
            case rel => exact ⟨k + 1, t ++ (bys x ++ [10]), by omega, by go_num, by rw [HPS.out]; rfl, HTL.out, HTX2.out.symm, HI3.out, HB3.out⟩
            case measure => simp [intOf]; omega
          · go_wp2_with fail
            refine (HCT.out _).mono ?_
            rintro e wx ⟨rfl, rfl⟩
            go_wp2_with fail
            refine (HL.out 1 _ _ (by simp; omega) strS_one HI1.out).mono ?_
            rintro e w3 ⟨rfl, hi3, hf3⟩
            have HI3 := Lib.hid hi3
            have HB3 := Lib.hid (HB1.out.trans hf3.b)
            clear hi3 hf3
            go_wp2_with fail
            go_roundw
            case rel => exact ⟨k + 1, t ++ (bys x ++ [10]), by omega, by go_num, by rw [HPS.out]; rfl, HTL.out, HTX2.out.symm, HI3.out, HB3.out⟩
            case measure => simp [intOf]; omega
        · go_wp2_with fail
          go_ret
          exact ⟨rfl, hb⟩
      · have hkl : k = L.length := by omega
        subst hkl
        have htx := HTX.out
        rw [List.take_length] at htx ⊢
        by_cases hp : pl L = true
        · have hlb := lnsB_catL L ((pl_iff L).1 hp)
          rw [← htx] at hlb
          have HLN : Hid (∀ wz, wz.cell? ⟨0, 0, none⟩ = some (.int .i64 m) → Calls Try.prog 19 #[.string ⟨t.toArray⟩] wz fun e w' => ∃ v n, e = .returned v ∧ n = L.length ∧ w'.ownsRow wz.heap.size 9 1 v n (L.map Value.string) ∧ Below wz.heap.size wz w') := fun wz hz => by
            have := lines_any ⟨t.toArray⟩ (by rw [size_mk]; omega) m wz hz
            rw [show (⟨t.toArray⟩ : ByteArray).data.toList = t by simp, hlb] at this
            exact this
          rw [hp]
          clear hlb htx hp
          go_wp2_with fail
          refine (text_any HI.out).mono ?_
          rintro e wx ⟨rfl, rfl⟩
          go_wp2_with fail
          refine (HLN.out _ (cell_below hb h0 HM.out)).mono ?_
          rintro e w4 ⟨v, n, rfl, rfl, hown, hb4⟩
          obtain ⟨ad4, cap4, rfl⟩ := row_shape hown
          have hb04 := hb.trans (hb4.mono zr)
          have HE := Lib.hid (equal_same (c2 := cap) w4 (by omega) hown (strS_move (B := 0) HS.out hb04))
          have HB4 := Lib.hid hb04
          have z4 := hb04.size
          clear hown hb4 hb04
          go_wp2_with fail
          refine HE.out.mono ?_
          rintro e w5 ⟨rfl, hb5⟩
          go_wp2_with fail
          go_ret
          exact ⟨rfl, HB4.out.trans (hb5.mono z4)⟩
        · have hp : pl L = false := by simpa using hp
          rw [hp]
          clear htx hp
          go_wp2_with fail
          go_ret
          exact ⟨rfl, hb⟩
end Go.Proofs.Ytmlhknkeacpnhaa.Sk
