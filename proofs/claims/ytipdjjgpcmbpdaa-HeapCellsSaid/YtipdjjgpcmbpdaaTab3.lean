/- Contracts of table.place, find. -/
import Derived.Test.YtipdjjgpcmbpdaaTab2
set_option linter.unusedVariables false
namespace Go.Proofs.Ytipdjjgpcmbpdaa.Ta
open Go.RowKit Go.ChangeShapes Go.WideShapes Go.ChangeAt Go.Proofs.Ytipdjjgpcmbpdaa.Va

theorem u64_mask (h : Int) (e m : Nat) (h0 : 0 ≤ h) (h1 : h < 18446744073709551616) (hm : m = 2 ^ (e + 1)) (he : e ≤ 24) : bits .and .u64 h ((m : Int) - 1) = ((h.toNat % m : Nat) : Int) := by
  have h25 : 2 ^ (e + 1) ≤ 2 ^ 25 := Nat.pow_le_pow_right (by decide) (by omega)
  have h2 : (2 : Nat) ^ 25 = 33554432 := by decide
  have h3 : 0 < 2 ^ (e + 1) := Nat.pow_pos (by decide)
  obtain ⟨A, rfl⟩ := Int.eq_ofNat_of_zero_le h0
  have : ((m : Int) - 1) = ((2 ^ (e + 1) - 1 : Nat) : Int) := by omega
  rw [this, u64_and_nat A _ (by omega) (by omega), Nat.and_two_pow_sub_one_eq_mod, hm]; rfl
theorem i64_mask (a e m : Nat) (ha : a < 18446744073709551616) (hm : m = 2 ^ (e + 1)) (he : e ≤ 24) : bits .and .i64 (a : Int) ((m : Int) - 1) = ((a % m : Nat) : Int) := by
  have h25 : 2 ^ (e + 1) ≤ 2 ^ 25 := Nat.pow_le_pow_right (by decide) (by omega)
  have h2 : (2 : Nat) ^ 25 = 33554432 := by decide
  have h3 : 0 < 2 ^ (e + 1) := Nat.pow_pos (by decide)
  have hx : a % 2 ^ (e + 1) < 2 ^ (e + 1) := Nat.mod_lt _ h3
  have : ((m : Int) - 1) = ((2 ^ (e + 1) - 1 : Nat) : Int) := by omega
  rw [this]
  show IntKind.i64.wrap ((BitVec.ofInt 64 (a : Int) &&& BitVec.ofInt 64 ((2 ^ (e + 1) - 1 : Nat) : Int)).toNat : Nat) = _
  rw [BitVec.toNat_and, BitVec.ofInt_natCast, BitVec.toNat_ofNat, Nat.mod_eq_of_lt ha, BitVec.ofInt_natCast, BitVec.toNat_ofNat, Nat.mod_eq_of_lt (show 2 ^ (e + 1) - 1 < 2 ^ 64 by omega), Nat.and_two_pow_sub_one_eq_mod, IntKind.wrap_i64, hm]
  omega
theorem cell_all {w : World} {a : Addr} {v : Value} (h : w.cell? a = some v) (hb : a.block < w.heap.size) (hs : a.spot = none) : ∀ p : BelowBy w.heap.size w, p.x.cell? a = some v := by
  intro p
  rw [← h]
  exact World.cell?_of_block (p.h.block _ hb)
open Classical in
/-- At which step a search stands. -/
noncomputable def lft (P : List Int) (key : Vl) (s : Value) : Nat := if h : ∃ u, u < P.length ∧ s = .int .i64 ((at_ P key u : Nat) : Int) then h.choose else 0
theorem lft_at {P : List Int} {key : Vl} {u : Nat} (hu : u < P.length) : lft P key (.int .i64 ((at_ P key u : Nat) : Int)) = u := by
  have h : ∃ v, v < P.length ∧ Value.int .i64 ((at_ P key u : Nat) : Int) = .int .i64 ((at_ P key v : Nat) : Int) := ⟨u, hu, rfl⟩
  unfold lft
  rw [dif_pos h]
  have h2 := h.choose_spec
  generalize h.choose = v at h2
  obtain ⟨hv, e⟩ := h2
  simp only [Value.int.injEq, true_and] at e
  exact (at_inj hu hv (Int.ofNat_inj.1 e)).symm
/-- Where a search has ended. -/
def Placed (R : List Rw) (P : List Int) (key : Vl) (w : World) (x : Ending) (w' : World) : Prop :=
  ∃ t, x = .returned (.int .i64 ((at_ P key t : Nat) : Int)) ∧ t < P.length ∧ Stop R P key (at_ P key t) ∧ (∀ u, u < t → ¬ Stop R P key (at_ P key u)) ∧ Below w.heap.size w w'
theorem at_next {P : List Int} {key : Vl} {u : Nat} : (at_ P key u + 1) % P.length = at_ P key (u + 1) := by
  unfold at_; rw [Nat.mod_add_mod]; rfl
set_option maxRecDepth 100000 in
set_option maxHeartbeats 4000000 in
theorem place_any {B b cr cp n : Nat} {ar ap : Option Addr} {R : List Rw} {P : List Int} {last : Int} (key : Vl) (hk : okK key) (w : World) (h : Tab B b ar cr ap cp w R P n last) (hP : 0 < P.length) :
    Calls Try.prog 80 #[.pointer (some ⟨b, 0, none⟩), .agg #[.int .i64 key.1, .int .i64 key.2.1, .string key.2.2]] w (Placed R P key w) := by
  have HT := Lib.hid h
  obtain ⟨gp, rfl, _, hgp⟩ := row_some h.p hP
  have hpl := plen h.g
  obtain ⟨ee, hm, he⟩ : ∃ e, P.length = 2 ^ (e + 1) ∧ e ≤ 24 := by
    rcases h.g.pw with ⟨e, _⟩ | e
    · subst e; simp at hP
    · exact e
  obtain ⟨t0, ht0, hfree⟩ := free_at h.g hP key
  have HF := Lib.hid hfree
  have HH := Lib.hid fun w => hash_any key hk w
  obtain ⟨hh0, hh1⟩ := hsh_bd key
  have HM1 := Lib.hid (u64_mask (hsh key) ee P.length hh0 hh1 hm he)
  have HM2 := Lib.hid fun a ha => i64_mask a ee P.length ha hm he
  have HS0 : Hid ((hsh key).toNat % P.length = at_ P key 0) := rfl
  have hbw := lt_of_block h.blk
  have hA := heap_alloc_new w (.cells #[.int .i64 key.1, .int .i64 key.2.1, .string key.2.2] 30)
  have hE : Below w.heap.size w (w.alloc (.cells #[.int .i64 key.1, .int .i64 key.2.1, .string key.2.2] 30)) := (Below.refl _ _).alloc (Nat.le_refl _) _
  have h1 := tab_below h hE
  obtain ⟨c0, c1, c2, c3, z0, z1, z2, z3⟩ := four_cells h1.blk
  have HA := Lib.hid hA
  have HE := Lib.hid hE
  have hw1 : IntKind.u64.wrap ((P.length : Int) - 1) = (P.length : Int) - 1 := by rw [IntKind.wrap_u64]; omega
  have hP1 : 0 ≤ (P.length : Int) - 1 := by omega
  have HW1 := Lib.hid hw1
  clear h h1 hA hE hm he hfree hk hw1
  go_enter Try.func80, Try.ntmps80
  go_wp2_with fail
  refine (HH.out _).mono ?_
  rintro e w1 ⟨rfl, hb1⟩
  have HE1 := Lib.hid (HE.out.trans (hb1.mono HE.out.size))
  have HA1 := Lib.hid (keep HA.out hb1)
  clear hb1
  go_wp2_with fail
  go_loopw [6] (fun s wr => ∃ u : Nat, u ≤ t0 ∧ s = .int .i64 ((at_ P key u : Nat) : Int) ∧ Hid (∀ v, v < u → ¬ Stop R P key (at_ P key v)) ∧ Hid (Below w.heap.size w wr) ∧ Hid (wr.heap[w.heap.size]? = some (.cells #[.int .i64 key.1, .int .i64 key.2.1, .string key.2.2] 30))) (fun s wr => P.length - lft P key s)
  case atStart => exact ⟨0, Nat.zero_le _, by have h1 := at_lt hP key 0; have h2 := hpl.1; rw [HM1.out, HS0.out, show wrap64 ((at_ P key 0 : Nat) : Int) = ((at_ P key 0 : Nat) : Int) from by unfold wrap64; omega], fun v hv => absurd hv (Nat.not_lt_zero _), HE1, HA1⟩
  case round =>
    obtain ⟨u, hu, rfl, HN, HB, HAr⟩ := hrel
    have hul : u < P.length := by omega
    have hxl := at_lt hP key u
    have hbs := HB.out.size
    have hT := tab_below HT.out HB.out
    obtain ⟨d0, d1, d2, d3, y0, y1, y2, y3⟩ := four_cells hT.blk
    obtain ⟨p, hp⟩ := get_some hxl
    have hcp := ownP_at hT.p hp
    have hrng := hT.g.rng _ _ hp
    have hk0 : (0 : Int) ≤ ((at_ P key u : Nat) : Int) := by omega
    have hk1 : ((at_ P key u : Nat) : Int) < (P.length : Int) := by omega
    have HP := Lib.hid hp
    have HTr := Lib.hid hT
    have HL := Lib.hid (lft_at hul (key := key))
    have hm2 := HM2.out (at_ P key u + 1) (by omega)
    rw [at_next] at hm2
    by_cases hp0 : p = 0
    · have HE : Hid (Stop R P key (at_ P key u)) := Or.inl (by rw [← hp0]; exact hp)
      generalize hx : at_ P key u = x at *
      have HX := Lib.hid hx
      subst hp0
      clear hx hT hp hm2
      go_wp2_with fail
      go_quiet (fail)
      go_wp2_with fail
      go_ret
      exact ⟨u, by rw [HX.out]; rfl, hul, by rw [HX.out]; exact HE.out, HN.out, below_drewN HB.out _⟩
    · obtain ⟨i, hpi⟩ : ∃ i : Nat, p = (i : Int) + 1 := ⟨(p - 1).toNat, by omega⟩
      subst hpi
      obtain ⟨r, hr⟩ := get_some (show i < R.length by omega)
      obtain ⟨gr, rfl, _, hgr⟩ := row_some hT.r (by omega)
      obtain ⟨r0, r1, r2, _⟩ := ownR_at hT.r hr
      have HR := Lib.hid hr
      have hil : (i : Int) < (R.length : Int) := by omega
      have hi0 : (0 : Int) ≤ (i : Int) := by omega
      have hw32 : IntKind.i32.wrap (i : Int) = (i : Int) := by rw [IntKind.wrap_i32]; omega
      have hne : (((i : Int) + 1) != 0) = true := by rw [bne_iff_ne]; omega
      have hgp2 : gp < wr.heap.size := by omega
      have hb2 : b < wr.heap.size := by omega
      obtain ⟨a0, a1, a2, _, _, _⟩ := three_facts HAr.out
      have e0 := cell_all d0 hb2 rfl
      have e1 := cell_all d1 hb2 rfl
      have e2 := cell_all hcp hgp2 rfl
      have e3 := cell_all r0 (show gr < wr.heap.size by omega) rfl
      have e4 := cell_all r1 (show gr < wr.heap.size by omega) rfl
      have e5 := cell_all r2 (show gr < wr.heap.size by omega) rfl
      have e6 := cell_all a0 (show w.heap.size < wr.heap.size from lt_of_block HAr.out) rfl
      have e7 := cell_all a1 (show w.heap.size < wr.heap.size from lt_of_block HAr.out) rfl
      have e8 := cell_all a2 (show w.heap.size < wr.heap.size from lt_of_block HAr.out) rfl
      have HS := Lib.hid fun w => same_ag r.k key w
      have HA2 : Hid (∀ pq : BelowBy wr.heap.size wr, Below w.heap.size w pq.x ∧ pq.x.heap[w.heap.size]? = some (.cells #[.int .i64 key.1, .int .i64 key.2.1, .string key.2.2] 30)) := fun pq => ⟨HB.out.trans (pq.h.mono hbs), keep HAr.out pq.h⟩
      by_cases hke : r.k = key
      · have HE : Hid (Stop R P key (at_ P key u)) := Or.inr ⟨i, r, hp, hr, hke⟩
        rw [decide_eq_true hke] at HS
        generalize hx : at_ P key u = x at *
        have HX := Lib.hid hx
        generalize r.k = rk at *
        clear hx hT hp hm2 hr hke hp0 d0 d1 d2 d3 y0 y1 y2 y3 hcp r0 r1 r2 a0 a1 a2
        go_wp2_with fail
        refine wp_region_quiet_below (by kernel_rfl) (by kernel_rfl) ?_
        repeat (quiet_step (first | (go_at_call 79; with_reducible refine Calls.below_of (HS.out _))))
        refine wpQuiet_nil ?_
        intro _ hw'
        obtain ⟨pq, hw''⟩ := hw'
        subst hw''
        have HQ := Lib.hid (HA2.out pq)
        go_wp2_with fail
        go_ret
        exact ⟨u, by rw [HX.out]; rfl, hul, by rw [HX.out]; exact HE.out, HN.out, HQ.out.1⟩
      · have HE : Hid (∀ v, v < u + 1 → ¬ Stop R P key (at_ P key v)) := by
          intro v hv
          by_cases hvu : v = u
          · subst hvu
            rintro (h0 | ⟨j, q, hj, hq, hk⟩)
            · rw [hp] at h0; simp only [Option.some.injEq] at h0; omega
            · rw [hp] at hj
              simp only [Option.some.injEq] at hj
              have : j = i := by omega
              subst this
              rw [hr] at hq; cases hq
              exact hke hk
          · exact HN.out v (by omega)
        have hut : u + 1 ≤ t0 := by
          rcases Nat.lt_or_ge u t0 with h | h
          · exact h
          · have : u = t0 := by omega
            subst this
            have := HF.out
            rw [hp] at this
            simp only [Option.some.injEq] at this
            omega
        rw [decide_eq_false hke] at HS
        have HL2 := Lib.hid (lft_at (show u + 1 < P.length by omega) (key := key))
        generalize hx2 : at_ P key (u + 1) = x2 at *
        have HX2 := Lib.hid hx2
        generalize hx : at_ P key u = x at *
        generalize r.k = rk at *
        have hm3 : bits .and .i64 ((x : Int) + 1) ((P.length : Int) - 1) = (x2 : Int) := hm2
        have HM3 := Lib.hid hm3
        clear hx hx2 hT hp hm2 hm3 hr hke hp0 d0 d1 d2 d3 y0 y1 y2 y3 hcp r0 r1 r2 a0 a1 a2
        go_wp2_with fail
        refine wp_region_quiet_below (by kernel_rfl) (by kernel_rfl) ?_
        repeat (quiet_step (first | (go_at_call 79; with_reducible refine Calls.below_of (HS.out _))))
        refine wpQuiet_nil ?_
        intro _ hw'
        obtain ⟨pq, hw''⟩ := hw'
        subst hw''
        have HQ := Lib.hid (HA2.out pq)
        go_wp2_with fail
        go_roundw
        case rel => exact ⟨u + 1, hut, by rw [HX2.out]; exact congrArg (Value.int .i64) HM3.out, HE.out, HQ.out.1, HQ.out.2⟩
        case measure => rw [HM3.out, HL2.out, HL.out]; omega
theorem stop_least {R : List Rw} {P : List Int} {last : Int} (G : Good R P last) (hP : 0 < P.length) (key : Vl) : ∃ t, t < P.length ∧ Stop R P key (at_ P key t) ∧ ∀ u, u < t → ¬ Stop R P key (at_ P key u) := by
  obtain ⟨t0, ht0, h0⟩ := free_at G hP key
  have : ∀ m t, t ≤ m → t < P.length → Stop R P key (at_ P key t) → ∃ t, t < P.length ∧ Stop R P key (at_ P key t) ∧ ∀ u, u < t → ¬ Stop R P key (at_ P key u) := by
    intro m
    induction m with
    | zero => intro t h1 h2 h3; exact ⟨t, h2, h3, fun u hu => by omega⟩
    | succ m ih =>
      intro t h1 h2 h3
      by_cases h : ∃ u, u < t ∧ Stop R P key (at_ P key u)
      · obtain ⟨u, hu, hs⟩ := h
        exact ih u (by omega) (by omega) hs
      · exact ⟨t, h2, h3, fun u hu hs => h ⟨u, hu, hs⟩⟩
  exact this t0 t0 (Nat.le_refl _) ht0 (Or.inl h0)
theorem place_at {B b cr cp n : Nat} {ar ap : Option Addr} {R : List Rw} {P : List Int} {last : Int} (key : Vl) (hk : okK key) {t : Nat} (ht : t < P.length) (hs : Stop R P key (at_ P key t)) (hn : ∀ u, u < t → ¬ Stop R P key (at_ P key u)) (w : World) (h : Tab B b ar cr ap cp w R P n last) :
    Calls Try.prog 80 #[.pointer (some ⟨b, 0, none⟩), .agg #[.int .i64 key.1, .int .i64 key.2.1, .string key.2.2]] w fun x w' => x = .returned (.int .i64 ((at_ P key t : Nat) : Int)) ∧ Below w.heap.size w w' := by
  refine (place_any key hk w h (by omega)).mono ?_
  rintro x w' ⟨t', rfl, ht', hs', hn', hb⟩
  rcases Nat.lt_trichotomy t t' with e | e | e
  · exact absurd hs (hn' t e)
  · subst e; exact ⟨rfl, hb⟩
  · exact absurd hs' (hn t' e)
/-- Is a key there? -/
def keyIn (R : List Rw) (key : Vl) : Prop := ∃ (i : Nat) (r : Rw), R[i]? = some r ∧ r.k = key
set_option maxRecDepth 100000 in
set_option maxHeartbeats 1000000 in
theorem find_nul {B b cr cp n : Nat} {ar ap : Option Addr} {R : List Rw} {P : List Int} {last : Int} (key : Vl) (hk : n = 0 ∨ key = nul) (w : World) (h : Tab B b ar cr ap cp w R P n last) :
    Calls Try.prog 64 #[.pointer (some ⟨b, 0, none⟩), .agg #[.int .i64 key.1, .int .i64 key.2.1, .string key.2.2]] w fun x w' => x = .returned (.int .i64 (-1)) ∧ Below w.heap.size w w' := by
  have hA := heap_alloc_new w (.cells #[.int .i64 key.1, .int .i64 key.2.1, .string key.2.2] 30)
  have hE : Below w.heap.size w (w.alloc (.cells #[.int .i64 key.1, .int .i64 key.2.1, .string key.2.2] 30)) := (Below.refl _ _).alloc (Nat.le_refl _) _
  have hbw := lt_of_block h.blk
  obtain ⟨c0, c1, c2, c3, z0, z1, z2, z3⟩ := four_cells (tab_below h hE).blk
  have HN := Lib.hid fun w => none_any key w
  have HE := Lib.hid hE
  clear h hA hE
  by_cases h0 : n = 0
  · subst h0
    clear hk
    go_enter Try.func64, Try.ntmps64
    go_wp2_with fail
    go_ret
    exact ⟨rfl, HE.out⟩
  · have hkn : key = nul := hk.resolve_left h0
    rw [decide_eq_true hkn] at HN
    have hn0 : (((n : Nat) : Int) == 0) = false := by rw [beq_eq_false_iff_ne]; omega
    clear hk hkn
    go_enter Try.func64, Try.ntmps64
    go_wp2_with fail
    refine (HN.out _).mono ?_
    rintro e w1 ⟨rfl, hb1⟩
    have HZ := Lib.hid (HE.out.trans (hb1.mono HE.out.size))
    clear hb1
    go_wp2_with fail
    go_ret
    exact ⟨rfl, HZ.out⟩
set_option maxRecDepth 100000 in
set_option maxHeartbeats 4000000 in
theorem find_key {B b cr cp n : Nat} {ar ap : Option Addr} {R : List Rw} {P : List Int} {last : Int} (key : Vl) (hok : okK key) (hk : key ≠ nul) (hn : n ≠ 0) {t : Nat} (ht : t < P.length) (hs : Stop R P key (at_ P key t)) (hnn : ∀ u, u < t → ¬ Stop R P key (at_ P key u)) {p : Int} (hp : P[at_ P key t]? = some p) (w : World) (h : Tab B b ar cr ap cp w R P n last) :
    Calls Try.prog 64 #[.pointer (some ⟨b, 0, none⟩), .agg #[.int .i64 key.1, .int .i64 key.2.1, .string key.2.2]] w fun x w' => x = .returned (.int .i64 (p - 1)) ∧ Below w.heap.size w w' := by
  have hP : 0 < P.length := by omega
  have HT := Lib.hid h
  have hA := heap_alloc_new w (.cells #[.int .i64 key.1, .int .i64 key.2.1, .string key.2.2] 30)
  have hE : Below w.heap.size w (w.alloc (.cells #[.int .i64 key.1, .int .i64 key.2.1, .string key.2.2] 30)) := (Below.refl _ _).alloc (Nat.le_refl _) _
  have hbw := lt_of_block h.blk
  obtain ⟨c0, c1, c2, c3, z0, z1, z2, z3⟩ := four_cells (tab_below h hE).blk
  have HN := Lib.hid fun w => none_any key w
  rw [decide_eq_false hk] at HN
  obtain ⟨gp, rfl, _, hgp⟩ := row_some h.p hP
  have hn0 : (((n : Nat) : Int) == 0) = false := by rw [beq_eq_false_iff_ne]; omega
  have HPL := Lib.hid fun (w : World) (h : Tab B b ar cr (some ⟨gp, 0, none⟩) cp w R P n last) => place_at key hok ht hs hnn w h
  have HE := Lib.hid hE
  have HA := Lib.hid hA
  have hpl := (plen h.g).1
  have hrng := h.g.rng _ _ hp
  have hrl := (plen h.g).2
  have hxl := at_lt hP key t
  have HPP := Lib.hid hp
  generalize at_ P key t = y at *
  have hy0 : (0 : Int) ≤ (y : Int) := by omega
  have hy1 : (y : Int) < (P.length : Int) := by omega
  have hwp : IntKind.i64.wrap p = p := by rw [IntKind.wrap_i64]; omega
  have hwq : IntKind.i64.wrap (p - 1) = p - 1 := by rw [IntKind.wrap_i64]; omega
  have hyt : ((y : Int)).toNat = y := by omega
  clear h hA hE hk hok hn hs hnn hp ht
  go_enter Try.func64, Try.ntmps64
  go_wp2_with fail
  refine (HN.out _).mono ?_
  rintro e w1 ⟨rfl, hb1⟩
  have hz := HE.out.trans (hb1.mono HE.out.size)
  have hA1 := keep HA.out hb1
  have hT1 := tab_below HT.out hz
  obtain ⟨d0, d1, d2, d3, _, _, _, _⟩ := four_cells hT1.blk
  obtain ⟨a0, a1, a2, _, _, _⟩ := three_facts hA1
  have hcp := ownP_at hT1.p HPP.out
  have HZ := Lib.hid hz
  have HA1 := Lib.hid hA1
  have HT1 := Lib.hid hT1
  have hbs := hz.size
  have e0 := cell_all d1 (show b < w1.heap.size by omega) rfl
  have e6 := cell_all a0 (show w.heap.size < w1.heap.size from lt_of_block HA1.out) rfl
  have e7 := cell_all a1 (show w.heap.size < w1.heap.size from lt_of_block HA1.out) rfl
  have e8 := cell_all a2 (show w.heap.size < w1.heap.size from lt_of_block HA1.out) rfl
  have e9 := cell_all hcp (show gp < w1.heap.size by omega) rfl
  have HPC : Hid (∀ pq : BelowBy w1.heap.size w1, Calls Try.prog 80 #[.pointer (some ⟨b, 0, none⟩), .agg #[.int .i64 key.1, .int .i64 key.2.1, .string key.2.2]] pq.x fun x w' => x = .returned (.int .i64 (y : Int)) ∧ Below pq.x.heap.size pq.x w') := fun pq => HPL.out pq.x (tab_below HT1.out pq.h)
  have HQB : Hid (∀ pq : BelowBy w1.heap.size w1, Below w.heap.size w pq.x) := fun pq => HZ.out.trans (pq.h.mono hbs)
  clear hz hA1 hT1 hb1 d0 d1 d2 d3 a0 a1 a2 hcp
  go_wp2_with fail
  refine wp_region_quiet_below (by kernel_rfl) (by kernel_rfl) ?_
  repeat (quiet_step (first | (go_at_call 80; with_reducible refine Calls.below_of (HPC.out _))))
  refine wpQuiet_nil ?_
  intro _ hw'
  obtain ⟨pq, hw''⟩ := hw'
  subst hw''
  have HQ := Lib.hid (HQB.out pq)
  go_wp2_with fail
  go_ret
  exact ⟨ret_i64 (by omega), HQ.out⟩
end Go.Proofs.Ytipdjjgpcmbpdaa.Ta
