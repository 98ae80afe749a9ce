/- The lines of a text; contract of sink.Lines. -/
import Derived.Test.YtmlhknkeacpnhaaSink4
import Derived.Lib.IndexLaws
set_option linter.unusedVariables false
namespace Go.Proofs.Ytmlhknkeacpnhaa.Sk
open Go.RowKit Go.ChangeShapes Go.WideShapes Go.ChangeAt

/-- The lines of a text behind the beginning of one. -/
def lnsA : List UInt8 → List UInt8 → List (List UInt8)
  | [], acc => if acc = [] then [] else [acc]
  | c :: l, acc => if c = 10 then acc :: lnsA l [] else lnsA l (acc ++ [c])
def lns (l : List UInt8) : List (List UInt8) := lnsA l []
theorem lnsA_none : ∀ (l acc : List UInt8), Lib.indexByte l 10 = -1 → lnsA l acc = if acc ++ l = [] then [] else [acc ++ l]
  | [], acc, _ => by rw [lnsA, List.append_nil]
  | c :: l, acc, h => by
    have hne : ¬ c = 10 := fun e => Lib.indexByte_none h 0 (by rw [e]; rfl)
    rw [Lib.indexByte, if_neg (by simpa using hne)] at h
    have h1 : Lib.indexByte l 10 = -1 := by
      have := Lib.indexByte_ge l 10
      by_cases e : (Lib.indexByte l 10 == -1) = true
      · simpa using e
      · rw [if_neg e] at h; simp at e; omega
    rw [lnsA, if_neg hne, lnsA_none l _ h1]
    simp
theorem lnsA_some : ∀ (l acc : List UInt8) (o : Nat), Lib.indexByte l 10 = o → lnsA l acc = (acc ++ l.take o) :: lnsA (l.drop (o + 1)) []
  | [], acc, o, h => by simp [Lib.indexByte] at h
  | c :: l, acc, o, h => by
    by_cases hc : c = 10
    · rw [Lib.indexByte, if_pos (by simp [hc])] at h
      obtain rfl : o = 0 := by omega
      rw [lnsA, if_pos hc]; simp
    · rw [Lib.indexByte, if_neg (by simpa using hc)] at h
      by_cases e : (Lib.indexByte l 10 == -1) = true
      · rw [if_pos e] at h; omega
      · rw [if_neg e] at h
        have := Lib.indexByte_ge l 10
        simp at e
        obtain ⟨q, rfl⟩ : ∃ q, o = q + 1 := ⟨o - 1, by omega⟩
        rw [lnsA, if_neg hc, lnsA_some l _ q (by omega)]
        simp
theorem lns_cut (l : List UInt8) (h : l ≠ []) : lns l = (Lib.cut l [10]).1 :: lns (Lib.cut l [10]).2.1 := by
  have hi := Lib.index_one l 10
  have hg := Lib.indexByte_ge l 10
  unfold lns Lib.cut
  by_cases h0 : 0 ≤ Lib.index l [10]
  · rw [if_pos h0]
    rw [hi] at h0 ⊢
    rw [lnsA_some l [] (Lib.indexByte l 10).toNat (by omega)]
    simp
  · rw [if_neg h0]
    rw [hi] at h0
    rw [lnsA_none l [] (by omega), List.nil_append, if_neg h]
    simp [lnsA]
theorem cut_len (l : List UInt8) (h : l ≠ []) : (Lib.cut l [10]).1.length ≤ l.length ∧ (Lib.cut l [10]).2.1.length < l.length := by
  have : 0 < l.length := List.length_pos_iff.2 h
  unfold Lib.cut
  split
  · simp only [List.length_take, List.length_drop, List.length_singleton]; omega
  · simp only [List.length_nil]; omega
def lnsB (s : List UInt8) : List ByteArray := (lns s).map fun l => ⟨l.toArray⟩
theorem lnsB_cut (s : List UInt8) (h : s ≠ []) : lnsB s = (⟨(Lib.cut s [10]).1.toArray⟩ : ByteArray) :: lnsB (Lib.cut s [10]).2.1 := by
  unfold lnsB; rw [lns_cut s h]; rfl
def strLen : Value → Nat
  | .string s => s.size
  | _ => 0
set_option maxRecDepth 100000 in
set_option maxHeartbeats 2000000 in
theorem lines_any (s : ByteArray) (hs : s.size ≤ 1000000000) (m : Int) (w : World) (hm : w.cell? ⟨0, 0, none⟩ = some (.int .i64 m)) :
    Calls Try.prog 19 #[.string s] w fun e w' => ∃ v n, e = .returned v ∧ n = (lnsB s.data.toList).length ∧ w'.ownsRow w.heap.size 9 1 v n ((lnsB s.data.toList).map .string) ∧ Below w.heap.size w w' := by
  obtain ⟨i0, hi, hz0, hz1, hz2⟩ := info_parts A.info9
  have h0 : 0 < w.heap.size := by
    refine Nat.pos_of_ne_zero fun h => ?_
    have e : w.heap = #[] := Array.eq_empty_of_size_eq_zero h
    simp [World.cell?, e] at hm
  obtain ⟨R, hR⟩ : ∃ R, R = lnsB s.data.toList := ⟨_, rfl⟩
  rw [← hR]
  have HR := Lib.hid hR
  have HM := Lib.hid hm
  clear hR hm
  go_enter Try.func19, Try.ntmps19
  go_wp2_with fail
  go_loopw [0, 3] (fun x v wr => ∃ (y : ByteArray) (acc : List ByteArray), x = .string y ∧ y.size + acc.length ≤ s.size ∧ Hid (R = acc ++ lnsB y.data.toList) ∧ Hid (wr.ownsRow w.heap.size 9 1 v acc.length (acc.map Value.string)) ∧ Below w.heap.size w wr) (fun x _ _ => strLen x)
  case atStart => exact ⟨s, [], rfl, by simp, HR.out, World.ownsRow_nil _ _ _ _, Below.refl _ _⟩
  case round =>
    obtain ⟨y, acc, rfl, hy, HU, HO, hb⟩ := hrel
    have hsz := hb.size
    by_cases hlt : 0 < y.size
    · have he := some_bytes y hlt
      have he2 : (!y.toList.isEmpty) = true := by rw [he]; rfl
      have hyn : y.data.toList ≠ [] := by intro h; have := size_list y; rw [h] at this; simp at this; omega
      have hU := HU.out
      rw [lnsB_cut _ hyn] at hU
      have hcl := cut_len _ hyn
      rw [size_list] at hcl
      have HCUT := Lib.hid fun w hm => Try.strings_Cut y ⟨#[10]⟩ m w (by omega) hm
      have hcell := cell_below hb h0 HM.out
      clear HU hyn
      have HD : Hid (([10] : List UInt8) = (⟨#[10]⟩ : ByteArray).data.toList) := rfl
      rw [HD.out] at hU hcl
      generalize Lib.cut y.data.toList (⟨#[10]⟩ : ByteArray).data.toList = C at *
      obtain ⟨C1, C2, C3⟩ := C
      simp only at hU hcl HCUT
      have HU := Lib.hid hU
      have HX := Lib.hid (HCUT.out wr hcell)
      clear hU hcell HCUT
      obtain ⟨hcl1, hcl2⟩ := hcl
      go_wp2_with fail
      refine HX.out.mono ?_
      rintro e w1 ⟨rfl, n1, rfl⟩
      have hd := below_drewN (Below.refl wr.heap.size wr) n1
      have HO1 := Lib.hid (row_below HO.out hd)
      have hb1 := hb.trans (hd.mono hsz)
      have hz1' := hb1.size
      generalize wr.drewN n1 = W1 at *
      clear hd HO
      have hcz : (⟨C1.toArray⟩ : ByteArray).size ≤ 281474976710656 := by rw [size_mk]; omega
      go_wp2_with fail
      refine (clone_any _ hcz _).mono ?_
      rintro e w2 ⟨rfl, hb2⟩
      have hsz2 := hb2.size
      go_wp2_with (at_builtin; refine wpList_append_own _ rfl _ _ 27 rfl w.heap.size 9 i0 (.string ⟨#[]⟩) 1 16 Try.underlying27 hi hz0 hz1 hz2 rfl (by decide) _ _ _ rfl ((row_below HO1.out hb2).alloc _) ⟨w2.heap.size, 0, none⟩ 1 1 [.string ⟨C1.toArray⟩] rfl rfl ?c1 ?c2 ?c3 ?c4 ?c5 ?_)
      case c1 =>
        intro j u hj
        match j, hj with
        | 0, hj => simp at hj; subst hj; simp [Addr.add]
      case c2 => intro u hu; simp at hu; subst hu; rfl
      case c3 => unfold maxLen; omega
      case c4 => omega
      case c5 => simp; omega
      intro v' w4 hown' hgrow _
      have hB4 : Below w.heap.size w w4 := ((hb1.trans (hb2.mono hz1')).alloc (by omega) _).grown hgrow (by simp; omega) (fun k hk => (HO1.out.lt k hk).1)
      have hO4 : w4.ownsRow w.heap.size 9 1 v' (acc ++ [(⟨C1.toArray⟩ : ByteArray)]).length ((acc ++ [(⟨C1.toArray⟩ : ByteArray)]).map Value.string) := by simpa using hown'
      have HO4 := Lib.hid hO4
      clear hO4 hown' hgrow
      go_wp2_with fail
      go_roundw
      case rel =>
        refine ⟨⟨C2.toArray⟩, acc ++ [(⟨C1.toArray⟩ : ByteArray)], rfl, ?_, ?_, HO4.out, hB4⟩
        · rw [size_mk, List.length_append, List.length_singleton]; omega
        · show _ = _
          rw [HU.out, List.append_assoc]; rfl
      case measure => simp only [strLen]; rw [size_mk]; omega
    · have he := no_bytes y (by omega)
      have he2 : (!y.toList.isEmpty) = false := by rw [he]; rfl
      have hR : R = acc := by rw [HU.out, no_list y (by omega)]; simp [lnsB, lns, lnsA]
      subst hR
      go_wp2_with fail
      go_ret
      exact ⟨_, _, rfl, rfl, HO.out, hb⟩
end Go.Proofs.Ytmlhknkeacpnhaa.Sk
