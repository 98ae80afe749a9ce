/- dreylaw04.same: a list that has just these values; dreylaw04.right. -/
import Derived.Test.YtfngndbpgegnaaaList6
namespace Go.Proofs.Ytfngndbpgegnaaa.Li
open Go.RowKit Go.ChangeShapes Go.WideShapes Go.ChangeAt Go.Proofs.Ytfngndbpgegnaaa.Va

/-- Values at a place of memory. -/
def At (w : World) (g off : Nat) (L : List (Int × Int × ByteArray)) : Prop :=
  ∀ (i : Nat) (h : i < L.length), w.cell? ⟨g, off + i * 3, none⟩ = some (.int .i64 (L[i]).1) ∧ w.cell? ⟨g, off + i * 3 + 1, none⟩ = some (.int .i64 (L[i]).2.1) ∧ w.cell? ⟨g, off + i * 3 + 2, none⟩ = some (.string (L[i]).2.2)
theorem at_below {w w' : World} {B g off : Nat} {L : List (Int × Int × ByteArray)} (h : At w g off L) (hb : Below B w w') (hg : g < B) : At w' g off L := fun i hi =>
  ⟨cell_below hb hg (h i hi).1, cell_below hb hg (h i hi).2.1, cell_below hb hg (h i hi).2.2⟩

set_option maxRecDepth 100000 in
theorem same_zero (B b : Nat) (ad ad2 : Option Addr) (cap c2 : Nat) (w : World) (h : IsL B b ad cap w []) :
    Calls Try.prog 23 #[.pointer (some ⟨b, 0, none⟩), .slice ad2 0 c2] w fun e w' => e = .returned (.bool true) ∧ Below w.heap.size w w' := by
  have HL := Lib.hid h
  clear h
  go_enter Try.func23, Try.ntmps23
  go_wp2_with fail
  refine (len_any B b ad cap [] w HL.out).mono ?_
  rintro e _ ⟨rfl, rfl⟩
  go_wp2_with fail
  refine (all_any B b ad cap [] (by decide) w HL.out).mono ?_
  rintro e w1 ⟨ad', cap', rfl, ho, hb1⟩
  have HL1 := Lib.hid (isL_below HL.out hb1)
  clear ho
  go_wp2_with fail
  refine wp_loop_rounds 1 ?_
  rw [rounds_succ]
  go_wp2_with fail
  refine (get_no B b ad cap [] 0 (by right; decide) w1 HL1.out).mono ?_
  rintro e w2 ⟨rfl, hb2⟩
  have hE : Below w2.heap.size w2 (w2.alloc (.cells #[.int .i64 0, .int .i64 0, .string ⟨#[]⟩] 30)) := (Below.refl _ _).alloc (Nat.le_refl _) _
  have hb := hb2.trans (hE.mono hb2.size)
  have HL2 := Lib.hid (isL_below HL1.out hb)
  have hbz := hb1.trans (hb.mono hb1.size)
  clear hb1 hb2 hE hb
  go_wp2_with fail
  generalize w2.alloc (.cells #[.int .i64 0, .int .i64 0, .string ⟨#[]⟩] 30) = w3 at *
  refine (get_no B b ad cap [] (-1) (by left; decide) w3 HL2.out).mono ?_
  rintro e w4 ⟨rfl, hb4⟩
  have hbq := hbz.trans (hb4.mono hbz.size)
  clear hb4 hbz
  go_wp2_with fail
  go_ret
  exact ⟨rfl, hbq.alloc hbq.size _⟩

set_option maxRecDepth 100000 in
set_option maxHeartbeats 4000000 in
theorem same_some (B b : Nat) (ad : Option Addr) (cap g off c2 : Nat) (L : List (Int × Int × ByteArray)) (h0 : 0 < L.length) (hl : L.length ≤ 1000000) (w : World) (h : IsL B b ad cap w L) (hg : g < w.heap.size) (ha : At w g off L) :
    Calls Try.prog 23 #[.pointer (some ⟨b, 0, none⟩), .slice (some ⟨g, off, none⟩) L.length c2] w fun e w' => e = .returned (.bool true) ∧ Below w.heap.size w w' := by
  have HL := Lib.hid h
  have HA := Lib.hid ha
  clear h ha
  go_enter Try.func23, Try.ntmps23
  go_wp2_with fail
  refine (len_any B b ad cap L w HL.out).mono ?_
  rintro e _ ⟨rfl, rfl⟩
  go_wp2_with fail
  refine (all_any B b ad cap L (by omega) w HL.out).mono ?_
  rintro e w1 ⟨ad', cap', rfl, ho, hb1⟩
  obtain ⟨g', rfl, hg1, hg2⟩ := own_some ho h0
  have HO := Lib.hid ho
  have HZ := Lib.hid hb1
  clear ho hb1
  go_wp2_with fail
  go_loopw [26] (fun i wr => ∃ k : Nat, k ≤ L.length ∧ i = .int .i64 (k : Int) ∧ Below w1.heap.size w1 wr) (fun i _ => L.length - (intOf i).toNat)
  case atStart => exact ⟨0, by omega, rfl, Below.refl _ _⟩
  case round =>
    obtain ⟨k, hk, rfl, hb⟩ := hrel
    have hbs := hb.size
    have hzs := HZ.out.size
    have hbz := HZ.out.trans (hb.mono hzs)
    by_cases hlt : k < L.length
    · obtain ⟨a0, a1, a2⟩ := at_below HA.out hbz hg k hlt
      obtain ⟨d0, d1, d2⟩ := own_at (own_below HO.out hb) k hlt
      have hk1 : (k : Int) < (L.length : Int) := by omega
      have hk0 : (0 : Int) ≤ (k : Int) := by omega
      have HG : Hid (∀ w', IsL B b ad cap w' L → Calls Try.prog 62 #[.pointer (some ⟨b, 0, none⟩), .int .i64 (k : Int)] w' fun e w'' => e = .returned (.tuple #[.agg #[.int .i64 (L[k]).1, .int .i64 (L[k]).2.1, .string (L[k]).2.2], .int .i64 0]) ∧ Below w'.heap.size w' w'') := fun w' h => get_yes B b ad cap L k hlt w' h
      have HAk := Lib.hid fun w' (hb' : Below w.heap.size w w') => at_below HA.out hb' hg k hlt
      have HBW := Lib.hid hbz
      have HB := Lib.hid hb
      generalize L[k] = x at *
      clear hb hbz
      go_wp2_with fail
      go_quiet (fail)
      go_wp2_with fail
      have hq := below_drewN (n := nq) HB.out
      have hqz := below_drewN (n := nq) HBW.out
      generalize wr.drewN nq = w2 at *
      refine (HG.out _ (isL_below HL.out hqz)).mono ?_
      rintro e w3 ⟨rfl, hb3⟩
      have hE : Below w3.heap.size w3 (w3.alloc (.cells #[.int .i64 x.1, .int .i64 x.2.1, .string x.2.2] 30)) := (Below.refl _ _).alloc (Nat.le_refl _) _
      have hqs := hq.size
      have hb3E := hb3.trans (hE.mono hb3.size)
      have hb4 := hq.trans (hb3E.mono hqs)
      have hz4 := hqz.trans (hb3E.mono hqz.size)
      obtain ⟨f0, f1, f2⟩ := HAk.out _ hz4
      have HB4 := Lib.hid hb4
      clear hq hqz hb3 hE hb3E hb4 hz4
      go_wp2_with fail
      go_quiet (fail)
      go_wp2_with fail
      go_roundw
      case rel => exact ⟨k + 1, by omega, by go_num, below_drewN HB4.out _⟩
      case measure => simp [intOf]; omega
    · obtain rfl : k = L.length := by omega
      have HB := Lib.hid hbz
      clear hb hbz
      go_wp2_with fail
      refine (get_no B b ad cap L L.length (by right; omega) wr (isL_below HL.out HB.out)).mono ?_
      rintro e w2 ⟨rfl, hb2⟩
      have hE : Below w2.heap.size w2 (w2.alloc (.cells #[.int .i64 0, .int .i64 0, .string ⟨#[]⟩] 30)) := (Below.refl _ _).alloc (Nat.le_refl _) _
      have hb := hb2.trans (hE.mono hb2.size)
      have hbq := HB.out.trans (hb.mono HB.out.size)
      have HL2 := Lib.hid (isL_below HL.out hbq)
      have HQ := Lib.hid hbq
      clear hb2 hE hb hbq
      go_wp2_with fail
      generalize w2.alloc (.cells #[.int .i64 0, .int .i64 0, .string ⟨#[]⟩] 30) = w3 at *
      refine (get_no B b ad cap L (-1) (by left; decide) w3 HL2.out).mono ?_
      rintro e w4 ⟨rfl, hb4⟩
      have HW := Lib.hid (HQ.out.trans (hb4.mono HQ.out.size))
      clear hb4
      go_wp2_with fail
      go_ret
      exact ⟨rfl, HW.out.alloc HW.out.size _⟩
end Go.Proofs.Ytfngndbpgegnaaa.Li
