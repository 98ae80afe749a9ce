/- What dreylaw04.keeps asks. -/
import Derived.Test.YtfngndbpgegnaaaList5
namespace Go.Proofs.Ytfngndbpgegnaaa.Li
open Go.RowKit Go.ChangeShapes Go.WideShapes Go.ChangeAt Go.Proofs.Ytfngndbpgegnaaa.Va

theorem lit_src {W : World} {t : TypeId} (M : List (Int × Int × ByteArray)) : ∀ j u, (flat M)[j]? = some u → (W.alloc (.cells (flat M).toArray t)).cell? ((⟨W.heap.size, 0, none⟩ : Addr).add j) = some u := by
  intro j u hj
  rw [Go.WideShapes.add_plain, Nat.zero_add]
  simp only [World.cell?, heap_alloc_new W (.cells (flat M).toArray t)]
  simpa using hj
theorem now_low {B b : Nat} {ad : Option Addr} {w0 w w' : World} {L L' : List (Int × Int × ByteArray)} {cap : Nat} (hz : Below B w0 w) (hB : B ≤ w0.heap.size) (h : IsL B b ad cap w L) (hn : Now B b ad w w' L') : Below B w0 w' := by
  obtain ⟨_, _, _, hu, _⟩ := hn
  exact upd_below hz hu h.low (own_low h.own) hz.size hB
theorem placed_a : placed (-2) ((4 : Nat) : Int) = ((2 : Nat) : Int) := by unfold placed; rw [if_pos (by omega)]; unfold wrap64; omega
theorem placed_b : placed 4 ((4 : Nat) : Int) = ((4 : Nat) : Int) := by unfold placed; rw [if_neg (by omega)]; rfl
def E1 : Int × Int × ByteArray := (2, 1, ⟨#[]⟩)
def E2 : Int × Int × ByteArray := (2, 2, ⟨#[]⟩)
def E3 : Int × Int × ByteArray := (2, 3, ⟨#[]⟩)
def EA : Int × Int × ByteArray := (3, 0, ⟨#[97]⟩)

set_option maxRecDepth 100000 in
set_option maxHeartbeats 4000000 in
theorem keeps_any (w : World) : Calls Try.prog 11 #[] w fun e w' => e = .returned (.bool true) ∧ Below w.heap.size w w' := by
  go_enter Try.func11, Try.ntmps11
  go_wp2_with fail
  refine (int_any 1 _).mono ?_
  rintro e w1 ⟨rfl, hb1⟩
  go_wp2_with fail
  refine (int_any 3 _).mono ?_
  rintro e w2 ⟨rfl, hb2⟩
  have hz2 := hb1.trans (hb2.mono hb1.size)
  clear hb1 hb2
  go_wp2_with fail
  refine (new_any (some ⟨w2.heap.size, 0, none⟩) 2 [E1, E3] (w2.alloc (.cells (flat [E1, E3]).toArray 30)) (by decide) (Or.inr ⟨_, rfl, lit_src [E1, E3]⟩)).mono ?_
  rintro e w3 ⟨b, ad, cap, rfl, hL, hb3⟩
  have hz3 := (hz2.alloc hz2.size _).trans (hb3.mono (by have := hz2.size; simp; omega))
  have hL := isL_mono (B' := w.heap.size) hL (by have := hz2.size; simp; omega)
  have HL := Lib.hid hL
  have HZ := Lib.hid hz3
  clear hL hz3 hb3 hz2
  -- Insert(1, 2)
  go_wp2_with fail
  refine (int_any 2 _).mono ?_
  rintro e w4 ⟨rfl, hb4⟩
  have hL := isL_below HL.out hb4
  have hz := HZ.out.trans (hb4.mono HZ.out.size)
  clear HL HZ
  have HL := Lib.hid hL
  have HZ := Lib.hid hz
  clear hL hz hb4
  go_wp2_with fail
  refine (linsert_any w.heap.size b ad cap [E1, E3] 2 2 ⟨#[]⟩ 1 (by decide) (by decide) w4 HZ.out.size HL.out).mono ?_
  rintro e w5 ⟨rfl, hN⟩
  have hz := now_low HZ.out (Nat.le_refl _) HL.out hN
  obtain ⟨ad1, cap1, hL, _, _⟩ := hN
  clear HL HZ
  have HL : Hid (IsL w.heap.size b ad1 cap1 w5 [E1, E2, E3]) := hL
  have HZ := Lib.hid hz
  clear hL hz
  -- Push("a")
  go_wp2_with fail
  refine (str_any _ _).mono ?_
  rintro e w6 ⟨rfl, hb6⟩
  have hE : Below w6.heap.size w6 (w6.alloc (.cells (flat [EA]).toArray 30)) := (Below.refl _ _).alloc (Nat.le_refl _) _
  have hL := isL_below (isL_below HL.out hb6) hE
  have hz := HZ.out.trans (hb6.mono HZ.out.size)
  have hz := hz.trans (hE.mono hz.size)
  clear HL HZ
  have HL := Lib.hid hL
  have HZ := Lib.hid hz
  clear hL hz hb6 hE
  go_wp2_with fail
  refine (push_any w.heap.size b ad1 ⟨w6.heap.size, 0, none⟩ cap1 1 [E1, E2, E3] [EA] (by decide) (w6.alloc (.cells (flat [EA]).toArray 30)) HZ.out.size HL.out (lit_src [EA])).mono ?_
  rintro e w7 ⟨rfl, hN⟩
  have hz := now_low HZ.out (Nat.le_refl _) HL.out hN
  obtain ⟨ad2, cap2, hL, _, _⟩ := hN
  clear HL HZ
  have HL : Hid (IsL w.heap.size b ad2 cap2 w7 [E1, E2, E3, EA]) := hL
  have HZ := Lib.hid hz
  clear hL hz
  -- Get(1)
  go_wp2_with fail
  have hg1 : Calls Try.prog 62 #[.pointer (some ⟨b, 0, none⟩), .int .i64 1] w7 fun e w' => e = .returned (.tuple #[.agg #[.int .i64 2, .int .i64 2, .string ⟨#[]⟩], .int .i64 0]) ∧ Below w7.heap.size w7 w' := get_yes w.heap.size b ad2 cap2 [E1, E2, E3, EA] 1 (by decide) w7 HL.out
  refine hg1.mono ?_
  rintro e w8 ⟨rfl, hb8⟩
  have hE : Below w8.heap.size w8 (w8.alloc (.cells #[.int .i64 2, .int .i64 2, .string ⟨#[]⟩] 30)) := (Below.refl _ _).alloc (Nat.le_refl _) _
  have hL8 := isL_below HL.out hb8
  have hrow : ∀ g, ad2.map (·.block) = some g → g < w8.heap.size := fun g e => by obtain ⟨_, hc⟩ := own_block hL8.own g e; exact lt_of_block hc
  have hbl := lt_of_block hL8.blk
  have hL := isL_below hL8 hE
  have hz := HZ.out.trans (hb8.mono HZ.out.size)
  have hz := hz.trans (hE.mono hz.size)
  have hX := heap_alloc_new w8 (.cells #[.int .i64 2, .int .i64 2, .string ⟨#[]⟩] 30)
  have hs8 : (w8.alloc (.cells #[.int .i64 2, .int .i64 2, .string ⟨#[]⟩] 30)).heap.size = w8.heap.size + 1 := by simp
  clear HL HZ
  have HL := Lib.hid hL
  have HZ := Lib.hid hz
  have HX := Lib.hid hX
  clear hL hz hb8 hE hL8 hX
  -- Get(4)
  go_wp2_with fail
  generalize w8.alloc (.cells #[.int .i64 2, .int .i64 2, .string ⟨#[]⟩] 30) = w9 at *
  refine (get_no w.heap.size b ad2 cap2 [E1, E2, E3, EA] 4 (by right; decide) w9 HL.out).mono ?_
  rintro e w10 ⟨rfl, hb10⟩
  have hE : Below w10.heap.size w10 (w10.alloc (.cells #[.int .i64 0, .int .i64 0, .string ⟨#[]⟩] 30)) := (Below.refl _ _).alloc (Nat.le_refl _) _
  have hb := hb10.trans (hE.mono hb10.size)
  have hL := isL_below HL.out hb
  have hz := HZ.out.trans (hb.mono HZ.out.size)
  have hX := keep HX.out hb
  have hs9 := hb.size
  clear HL HZ HX
  have HL := Lib.hid hL
  have HZ := Lib.hid hz
  have HX := Lib.hid hX
  clear hL hz hb hb10 hE hX
  -- Slice(-2, 4)
  go_wp2_with fail
  generalize w10.alloc (.cells #[.int .i64 0, .int .i64 0, .string ⟨#[]⟩] 30) = w11 at *
  refine (slice_yes w.heap.size b ad2 cap2 [E1, E2, E3, EA] (-2) 4 2 2 placed_a placed_b (by decide) (by decide) w11 HL.out).mono ?_
  rintro e w12 ⟨b', ad', cap', rfl, hS, hb⟩
  have hL := isL_below HL.out hb
  have hz := HZ.out.trans (hb.mono HZ.out.size)
  have hX := keep HX.out hb
  have hs11 := hb.size
  clear HL HZ HX
  have HL := Lib.hid hL
  have HZ := Lib.hid hz
  have HX := Lib.hid hX
  have HS : Hid (IsL w11.heap.size b' ad' cap' w12 [E3, EA]) := hS
  clear hL hz hb hX hS
  -- Pop()
  go_wp2_with fail
  have hp1 : Calls Try.prog 16 #[.pointer (some ⟨b, 0, none⟩)] w12 fun e w' => e = .returned (.tuple #[.agg #[.int .i64 3, .int .i64 0, .string ⟨#[97]⟩], .int .i64 0]) ∧ Same w.heap.size b ad2 cap2 w12 w' [E1, E2, E3] := pop_any w.heap.size b ad2 cap2 [E1, E2, E3, EA] 3 rfl (by decide) w12 HL.out
  refine hp1.mono ?_
  rintro e w13 ⟨rfl, hN⟩
  have hz := now_low HZ.out (Nat.le_refl _) HL.out (same_now hN)
  have hlow := HS.out.low
  have hS := isL_upd HS.out HL.out hN.2 (by omega) (fun g e1 e2 => by
    have h1 := own_low HS.out.own g e1
    have h2 := hrow g e2
    omega)
  have hXb : w13.heap[w8.heap.size]? = some (.cells #[.int .i64 2, .int .i64 2, .string ⟨#[]⟩] 30 (0, 0)) := (hN.2.block w8.heap.size (lt_of_block HX.out) (by omega) (fun e => by have := hrow _ e; omega)).trans HX.out
  have hL : IsL w.heap.size b ad2 cap2 w13 [E1, E2, E3] := hN.1
  clear HL HZ HX HS hN
  have hE : Below w13.heap.size w13 (w13.alloc (.cells #[.int .i64 3, .int .i64 0, .string ⟨#[97]⟩] 30)) := (Below.refl _ _).alloc (Nat.le_refl _) _
  have hL := isL_below hL hE
  have hS := isL_below hS hE
  have hX := keep hXb hE
  have hY := heap_alloc_new w13 (.cells #[.int .i64 3, .int .i64 0, .string ⟨#[97]⟩] 30)
  have hz := hz.trans (hE.mono hz.size)
  obtain ⟨x0, x1, x2, _, _, _⟩ := three_facts hX
  have HL := Lib.hid hL
  have HS := Lib.hid hS
  have HY := Lib.hid hY
  have HZ := Lib.hid hz
  clear hL hS hz hE hX hY hXb
  go_wp2_with fail
  generalize w13.alloc (.cells #[.int .i64 3, .int .i64 0, .string ⟨#[97]⟩] 30) = w14 at *
  refine (len_any _ b' ad' cap' [E3, EA] w14 HS.out).mono ?_
  rintro e _ ⟨rfl, rfl⟩
  obtain ⟨y0, y1, y2, _, _, _⟩ := three_facts HY.out
  go_wp2_with fail
  refine (len_any _ b ad2 cap2 [E1, E2, E3] w14 HL.out).mono ?_
  rintro e _ ⟨rfl, rfl⟩
  go_wp2_with fail
  refine (int_any 3 _).mono ?_
  rintro e w15 ⟨rfl, hb15⟩
  go_wp2_with fail
  refine (find_any _ b ad2 cap2 [E1, E2, E3] E3 (by decide) w15 (isL_below HL.out hb15)).mono ?_
  rintro e w16 ⟨rfl, hb16⟩
  rw [show findN E3 [E1, E2, E3] 0 = 2 from by decide]
  go_wp2_with fail
  refine (int_any 9 _).mono ?_
  rintro e w17 ⟨rfl, hb17⟩
  have hb := hb15.trans (hb16.mono hb15.size)
  have hb := hb.trans (hb17.mono hb.size)
  clear hb15 hb16 hb17
  go_wp2_with fail
  refine (find_any _ b ad2 cap2 [E1, E2, E3] (2, 9, ⟨#[]⟩) (by decide) w17 (isL_below HL.out hb)).mono ?_
  rintro e w18 ⟨rfl, hb18⟩
  rw [show findN (2, 9, ⟨#[]⟩) [E1, E2, E3] 0 = -1 from by decide]
  have hb := hb.trans (hb18.mono hb.size)
  have HZZ := Lib.hid (HZ.out.trans (hb.mono HZ.out.size))
  clear hb hb18
  go_wp2_with fail
  go_ret
  exact ⟨rfl, HZZ.out⟩
end Go.Proofs.Ytfngndbpgegnaaa.Li
