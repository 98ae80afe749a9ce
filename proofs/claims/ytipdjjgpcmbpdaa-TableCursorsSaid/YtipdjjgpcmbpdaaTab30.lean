/- TablePlays: the walk. -/
import Derived.Test.YtipdjjgpcmbpdaaTab29
import Derived.Test.YtipdjjgpcmbpdaaTab17
set_option linter.unusedVariables false
namespace Go.Proofs.Ytipdjjgpcmbpdaa.Ta
open Go.RowKit Go.ChangeShapes Go.WideShapes Go.ChangeAt Go.Proofs.Ytipdjjgpcmbpdaa.Va

set_option maxRecDepth 100000 in
set_option maxHeartbeats 4000000 in
theorem tablePlays_walk (ad : Option Addr) (cap : Nat) (L : List (Int × Vl × Vl)) (hL : L.length ≤ maxLen) (w : World) (h : InO ad w L) :
    Calls Try.prog 3 #[.slice ad L.length cap] w fun e w' => e = .returned (.bool true) ∧ Below w.heap.size w w' := by
  have HL := Lib.hid hL
  clear hL
  go_enter Try.func3, Try.ntmps3
  go_wp2_with fail
  refine (keeps_any _).mono ?_
  rintro e w1 ⟨rfl, hb1⟩
  go_wp2_with fail
  refine (right_any L _ (inO_below (B := 0) h hb1) HL.out).mono ?_
  rintro e w2 ⟨r, rfl, hr, hb2⟩
  have hz2 := hb1.trans (hb2.mono hb1.size)
  cases r with
  | false =>
    go_wp2_with fail
    go_ret
    exact ⟨rfl, hz2⟩
  | true =>
    obtain ⟨hr1, hr2⟩ := hr rfl
    have HI := Lib.hid (inO_below (B := 0) h hz2)
    have HR1 := Lib.hid hr1
    clear h hr hr1 HL
    go_wp2_with fail
    refine (tnew_any _).mono ?_
    rintro e w3 ⟨b, rfl, hT, hb3⟩
    have HZ3 := Lib.hid (hz2.trans (hb3.mono hz2.size))
    have HT3 := Lib.hid hT
    have HL3 := Lib.hid hb3.size
    have HW2 := Lib.hid hz2.size
    have HB3 := Lib.hid hb3
    clear hT hb1 hb2 hb3 hz2
    go_wp2_with fail
    rcases HI.out with rfl | ⟨g, off, rfl, hg, ha⟩
    · clear HI HR1 HB3
      refine wp_loop_rounds 1 ?_
      rw [rounds_succ]
      go_wp2_with fail
      refine (room_any _ HT3.out).mono ?_
      rintro e w4 ⟨rfl, hb4⟩
      have HZ4 := Lib.hid (HZ3.out.trans (hb4.mono HZ3.out.size))
      have HT4 := Lib.hid (isTab_below HT3.out hb4)
      clear hb4 HZ3 HT3
      go_wp2_with fail
      refine (tlen_any _ HT4.out).mono ?_
      rintro e w5 ⟨rfl, rfl⟩
      go_wp2_with fail
      refine (tlen_any _ HT4.out).mono ?_
      rintro e w5 ⟨rfl, rfl⟩
      go_wp2_with fail
      go_ret
      exact ⟨rfl, HZ4.out⟩
    · have HA := Lib.hid (atO_keep ha (HB3.out.block _ hg))
      have HG := Lib.hid hg
      clear HI ha hg HB3
      go_loopw [4, 6, 7, 18] (fun m _ _ i wr => ∃ (k sz us : Nat) (E : List (Vl × Vl × Int)) (last : Int) (am : Option Addr) (cm : Nat), k ≤ L.length ∧ i = .int .i64 (k : Int) ∧ m = .slice am E.length cm ∧ Hid (E.length ≤ k ∧ last ≤ k) ∧ Hid (IsTab w2.heap.size b wr E last sz us) ∧ Hid (OwnM w2.heap.size am cm wr (prs E)) ∧ Hid (w3.heap.size ≤ wr.heap.size) ∧ Hid (St w2.heap.size w3 wr)) (fun _ _ _ i _ => L.length - (intOf i).toNat)
      case atStart => exact ⟨0, 0, 0, [], 0, none, 0, by omega, rfl, rfl, ⟨Nat.le_refl _, Int.le_refl _⟩, HT3.out, World.ownsRow_nil _ _ _ _, Nat.le_refl _, st_below (Below.refl _ _) HL3.out⟩
      case round =>
        obtain ⟨k, sz, us, E, last, am, cm, hk, rfl, rfl, HE, HT, HM, HS, HX⟩ := hrel
        by_cases hlt : k < L.length
        · obtain ⟨⟨kd, x, v⟩, he⟩ := get_some hlt
          obtain ⟨c0, c1, c2, c3, c4, c5, c6⟩ := atO_keep HA.out (HX.out.b.block _ HG.out) k kd x v he
          have hq := (Below.refl wr.heap.size wr).alloc (Nat.le_refl _) (opB kd x v)
          have hbq := Nat.le_trans (Nat.le_trans HL3.out HS.out) hq.size
          obtain ⟨E2, last2, hact, hdo⟩ := do_any kd x v (HR1.out k kd x v he) _ hbq (Lib.hid (Nat.le_refl w2.heap.size)) (by have := HE.out; omega) (by have := HE.out; omega) (isTab_below HT.out hq) (ownM_below HM.out hq)
          have hlen := act_len hact
          have HE2 : Hid (E2.length ≤ k + 1 ∧ last2 ≤ ((k + 1 : Nat) : Int)) := by have := HE.out; exact ⟨by omega, by omega⟩
          have HDO := Lib.hid hdo
          have HXQ := Lib.hid (st_trans HX.out (st_below hq (Nat.le_trans HL3.out HS.out)))
          have HSQ := Lib.hid (Nat.le_trans HS.out hq.size)
          have HBQ := Lib.hid hbq
          have ho := heap_alloc_new wr (opB kd x v)
          obtain ⟨d0, d1, d2, d3, d4, d5, d6⟩ := seven ho
          clear hq hbq hact hdo hlen ho HE HT HM HX HS he
          unfold opB at HDO HXQ HSQ HBQ d0 d1 d2 d3 d4 d5 d6
          unfold opV at HDO
          go_wp2_with fail
          refine HDO.out.mono ?_
          rintro e w4 ⟨am2, cm2, sz2, us2, rfl, hT4, hM4, hst4⟩
          have HT4 := Lib.hid hT4
          have HM4 := Lib.hid hM4
          have HS4 := Lib.hid (Nat.le_trans HSQ.out hst4.f.size)
          have HX4 := Lib.hid (st_trans HXQ.out hst4)
          have HB4 := Lib.hid (Nat.le_trans HBQ.out hst4.f.size)
          clear hT4 hM4 hst4 HXQ HSQ HBQ HDO d0 d1 d2 d3 d4 d5 d6
          go_wp2_with fail
          refine (same_yes _ HB4.out (by have := HE2.out; omega) HT4.out HM4.out).mono ?_
          rintro e w5 ⟨rfl, hT5, hst5⟩
          have HT5 := Lib.hid hT5
          have HM5 := Lib.hid (ownM_fr HM4.out hst5.f)
          have HS5 := Lib.hid (Nat.le_trans HS4.out hst5.f.size)
          have HX5 := Lib.hid (st_trans HX4.out hst5)
          clear hT5 hst5 HT4 HM4 HS4 HX4 HB4
          go_wp2_with fail
          go_roundw
          case rel => exact ⟨k + 1, sz2, us2, E2, last2, am2, cm2, by omega, by go_num, rfl, HE2.out, HT5.out, HM5.out, HS5.out, HX5.out⟩
          case measure => simp [intOf]; omega
        · have HZ4 := Lib.hid (HZ3.out.trans (HX.out.b.mono HW2.out))
          clear HX HM HS
          go_wp2_with fail
          refine (room_any _ HT.out).mono ?_
          rintro e w4 ⟨rfl, hb4⟩
          have HZ5 := Lib.hid (HZ4.out.trans (hb4.mono HZ4.out.size))
          have HT4 := Lib.hid (isTab_below HT.out hb4)
          obtain ⟨r1, r2, r3⟩ := isTab_room2 HT4.out
          have q1 : (E.length : Int) ≤ (us : Int) := by omega
          have q2 : (us : Int) ≤ (sz : Int) := by omega
          clear hb4 HZ4 HT HE r1 r2
          by_cases h0 : E = []
          · subst h0
            clear r3
            go_wp2_with fail
            refine (tlen_any _ HT4.out).mono ?_
            rintro e w5 ⟨rfl, rfl⟩
            go_wp2_with fail
            refine (tlen_any _ HT4.out).mono ?_
            rintro e w5 ⟨rfl, rfl⟩
            go_wp2_with fail
            go_ret
            exact ⟨rfl, HZ5.out⟩
          · have hn0 : ¬ E.length = 0 := fun e => h0 (List.length_eq_zero_iff.1 e)
            have q3 : ((E.length : Int) == 0) = false := by rw [beq_eq_false_iff_ne]; omega
            have q4 : (E.length : Int) < (sz : Int) := by rcases r3 with h | h; exact absurd h hn0; omega
            clear r3 hn0
            go_wp2_with fail
            refine (tlen_any _ HT4.out).mono ?_
            rintro e w5 ⟨rfl, rfl⟩
            go_wp2_with fail
            refine (tlen_any _ HT4.out).mono ?_
            rintro e w5 ⟨rfl, rfl⟩
            go_wp2_with fail
            refine (tlen_any _ HT4.out).mono ?_
            rintro e w5 ⟨rfl, rfl⟩
            go_wp2_with fail
            go_ret
            exact ⟨rfl, HZ5.out⟩
end Go.Proofs.Ytipdjjgpcmbpdaa.Ta
