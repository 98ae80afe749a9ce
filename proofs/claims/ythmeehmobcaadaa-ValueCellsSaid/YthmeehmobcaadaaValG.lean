/- 'ValueCells': the walk. -/
import Derived.Test.YthmeehmobcaadaaVal9
namespace Go.Proofs.Ythmeehmobcaadaa.Va
open Go.RowKit Go.ChangeShapes Go.WideShapes Go.ChangeAt

theorem right_zero (ad : Option Addr) (cap : Nat) (w : World) :
    Calls Try.prog 14 #[.slice ad 0 cap] w fun e w' => e = .returned (.bool true) ∧ Below w.heap.size w w' := by
  go_enter Try.func14, Try.ntmps14
  go_wp2_with fail
  refine wp_loop_rounds 1 ?_
  rw [rounds_succ]
  go_wp2_with fail
  go_ret
  exact ⟨rfl, Below.refl _ _⟩
theorem cells_zero (ad : Option Addr) (cap : Nat) (w : World) :
    Calls Try.prog 41 #[.slice ad 0 cap] w fun e w' => e = .returned (.slice none 0 0) ∧ Below w.heap.size w w' := by
  go_enter Try.func41, Try.ntmps41
  go_wp2_with fail
  refine wp_loop_rounds 1 ?_
  rw [rounds_succ]
  go_wp2_with fail
  go_ret
  exact ⟨rfl, Below.refl _ _⟩
theorem refs_at {K N : Nat → Int} {i : Nat} (h4 : K i = 4) : ∀ len, i < len → (refs K N len)[(refs K N i).length]? = some (N i) ∧ (refs K N i).length < (refs K N len).length
  | 0, h => by omega
  | n + 1, h => by
    by_cases e : i = n
    · subst e
      simp [refs, h4]
    · obtain ⟨h1, h2⟩ := refs_at (K := K) (N := N) h4 n (by omega)
      simp only [refs]
      rw [List.getElem?_append_left h2, List.length_append]
      exact ⟨h1, by omega⟩
/-- What Cells hands back, as the law reads it. -/
theorem row_ints {W : World} {base n : Nat} {v : Value} {L : List Int} (h : W.ownsRow base 3 1 v n (L.map (.int .i64 ·))) (hn : n = L.length) :
    (L = [] ∧ ∃ ad cap, v = .slice ad 0 cap) ∨ ∃ g cap, v = .slice (some ⟨g, 0, none⟩) L.length cap ∧ g < W.heap.size ∧ ∀ (k : Nat) (x : Int), L[k]? = some x → W.cell? ⟨g, k, none⟩ = some (.int .i64 x) := by
  obtain ⟨_, h⟩ := h
  rcases h with ⟨hv, e⟩ | ⟨g, cap, cur, hv, _, hg, _, _, _, ht⟩
  · left
    have : L = [] := List.eq_nil_of_length_eq_zero (by omega)
    exact ⟨this, none, 0, by rw [hv]⟩
  · right
    refine ⟨g, cap, by rw [hv, hn], lt_of_block hg, fun k x hk => ?_⟩
    rw [cell_of_row _ _ _ _ _ _ hg]
    have hkl : k < L.length := (List.getElem?_eq_some_iff.1 hk).1
    have h1 : (cur.toList.take (n * 1))[k]? = (L.map (fun z => Value.int .i64 z))[k]? := by rw [ht]
    rw [List.getElem?_take, if_pos (by omega), List.getElem?_map, hk] at h1
    simpa using h1
theorem okAll_at {K N : Nat → Int} {S : Nat → ByteArray} : ∀ len, okAll K N S len = true → ∀ i, i < len → okB (K i) (N i) (S i) = true
  | 0, _, i, hi => by omega
  | n + 1, h, i, hi => by
    rw [okAll, Bool.and_eq_true] at h
    by_cases e : i = n
    · subst e; exact h.2
    · exact okAll_at n h.1 i (by omega)

set_option maxRecDepth 100000 in
set_option maxHeartbeats 1000000 in
theorem valueCells_zero (ad : Option Addr) (cap : Nat) (w : World) :
    Calls Try.prog 9 #[.slice ad 0 cap] w fun e w' => e = .returned (.bool true) ∧ Below w.heap.size w w' := by
  go_enter Try.func9, Try.ntmps9
  go_wp2_with fail
  refine (tells_any _).mono ?_
  rintro e w1 ⟨rfl, hb1⟩
  go_wp2_with fail
  refine (right_zero _ _ _).mono ?_
  rintro e w2 ⟨rfl, hb2⟩
  go_wp2_with fail
  refine (cells_zero _ _ _).mono ?_
  rintro e w3 ⟨rfl, hb3⟩
  have hb := (hb1.trans (hb2.mono hb1.size))
  have hb := hb.trans (hb3.mono hb.size)
  clear hb1 hb2 hb3
  go_wp2_with fail
  refine wp_loop_rounds 1 ?_
  rw [rounds_succ]
  go_wp2_with fail
  go_ret
  exact ⟨rfl, hb⟩

set_option maxRecDepth 100000 in
set_option maxHeartbeats 4000000 in
theorem valueCells_some (g off len cap : Nat) (K N : Nat → Int) (S : Nat → ByteArray) (w : World) (hg : g < w.heap.size) (hv : Vals w g off len K N S) :
    Calls Try.prog 9 #[.slice (some ⟨g, off, none⟩) len cap] w fun e w' => e = .returned (.bool true) ∧ Below w.heap.size w w' := by
  have HV := Lib.hid hv
  clear hv
  by_cases hl : 200 < len
  · go_enter Try.func9, Try.ntmps9
    go_wp2_with fail
    refine (tells_any _).mono ?_
    rintro e w1 ⟨rfl, hb1⟩
    go_wp2_with fail
    go_ret
    exact ⟨rfl, hb1⟩
  · have HR := Lib.hid fun w hg hv => right_any g off len cap K N S w hg (by omega) hv
    have HC := Lib.hid fun w hg hv => cells_any g off len cap K N S w hg (by omega) hv
    cases hok : okAll K N S len
    · rw [hok] at HR
      clear hok
      go_enter Try.func9, Try.ntmps9
      go_wp2_with fail
      refine (tells_any _).mono ?_
      rintro e w1 ⟨rfl, hb1⟩
      have hg1 : g < w1.heap.size := Nat.lt_of_lt_of_le hg hb1.size
      go_wp2_with fail
      refine (HR.out _ hg1 (HV.out.below hb1 hg)).mono ?_
      rintro e w2 ⟨rfl, hb2⟩
      go_wp2_with fail
      go_ret
      exact ⟨rfl, hb1.trans (hb2.mono hb1.size)⟩
    · rw [hok] at HR
      have HOK := Lib.hid hok
      clear hok
      go_enter Try.func9, Try.ntmps9
      go_wp2_with fail
      refine (tells_any _).mono ?_
      rintro e w1 ⟨rfl, hb1⟩
      have hg1 : g < w1.heap.size := Nat.lt_of_lt_of_le hg hb1.size
      go_wp2_with fail
      refine (HR.out _ hg1 (HV.out.below hb1 hg)).mono ?_
      rintro e w2 ⟨rfl, hb2⟩
      have hb12 := hb1.trans (hb2.mono hb1.size)
      have hg2 : g < w2.heap.size := Nat.lt_of_lt_of_le hg hb12.size
      go_wp2_with fail
      refine (HC.out _ hg2 (HV.out.below hb12 hg)).mono ?_
      rintro e w3 ⟨v, n, rfl, hn, hown, hb3⟩
      have hbz := hb12.trans (hb3.mono hb12.size)
      have hrow := row_ints hown hn
      have HZ := Lib.hid hbz
      clear hb1 hb2 hb3 hb12 hg1 hg2 hbz hown hn
      have hrl := refs_len K N len
      rcases hrow with ⟨hnil, ad, cap', rfl⟩ | ⟨g', cap', rfl, hg', hc'⟩
      · have HN := Lib.hid hnil
        clear hnil
        go_wp2_with fail
        go_loopw [4, 21] (fun c i wr => ∃ k : Nat, k ≤ len ∧ i = .int .i64 (k : Int) ∧ c = .int .i64 0 ∧ Below w.heap.size w wr) (fun _ i _ => len - (intOf i).toNat)
        case atStart => exact ⟨0, by omega, rfl, rfl, HZ.out⟩
        case round =>
          obtain ⟨k, hk, rfl, rfl, hb⟩ := hrel
          by_cases hlt : k < len
          · obtain ⟨c0, c1, c2⟩ := (HV.out.below hb hg) k hlt
            have h4 : ¬ K k = 4 := by
              intro h4
              have := (refs_at (N := N) h4 len hlt).2
              rw [HN.out] at this
              simp at this
            have e4 : (K k == 4) = false := beq_no' h4
            have e4' : (K k != 4) = true := bne_yes h4
            have hbs := hb.size
            clear h4
            go_wp2_with fail
            go_roundw
            case rel => exact ⟨k + 1, by omega, by go_num, rfl, hb.alloc (by omega) _⟩
            case measure => simp [intOf]; omega
          · go_wp2_with fail
            go_ret
            exact ⟨rfl, hb⟩
      · have HC' := Lib.hid hc'
        clear hc'
        go_wp2_with fail
        go_loopw [4, 21] (fun c i wr => ∃ k : Nat, k ≤ len ∧ i = .int .i64 (k : Int) ∧ c = .int .i64 (((refs K N k).length : Nat) : Int) ∧ Below w3.heap.size w3 wr) (fun _ i _ => len - (intOf i).toNat)
        case atStart => exact ⟨0, by omega, rfl, rfl, Below.refl _ _⟩
        case round =>
          obtain ⟨k, hk, rfl, rfl, hb⟩ := hrel
          have hbz := HZ.out.trans (hb.mono HZ.out.size)
          have hbs := hb.size
          have hzs := HZ.out.size
          have hrk := refs_len K N k
          by_cases hlt : k < len
          · obtain ⟨c0, c1, c2⟩ := (HV.out.below hbz hg) k hlt
            by_cases h4 : K k = 4
            · have R := ok_right (okAll_at len HOK.out k hlt)
              have hem := R.em (by omega)
              obtain ⟨hat, hlr⟩ := refs_at (N := N) h4 len hlt
              have hcell := cell_below hb hg' (HC'.out _ _ hat)
              have HR1 : Hid ((refs K N (k + 1)).length = (refs K N k).length + 1) := by show _ = _; simp [refs, h4]
              rw [h4] at c0
              rw [hem] at c2
              generalize N k = nk at *
              generalize hL : (refs K N k).length = L at *
              clear h4 hem hat R hrl
              generalize (refs K N len).length = M at *
              have hE := (Below.refl wr.heap.size wr).alloc (Nat.le_refl _) (.cells #[.int .i64 4, .int .i64 nk, .string ⟨#[]⟩] 23)
              have hcE := cell_below hE (by omega) hcell
              have hA := heap_alloc_new wr (.cells #[.int .i64 4, .int .i64 nk, .string ⟨#[]⟩] 23)
              have HQ := Lib.hid fun w => ref_any nk w
              have hbE := hbz.trans (hE.mono hbz.size)
              have hb3E := hb.trans (hE.mono hb.size)
              have HbE := Lib.hid hb3E
              have Hsz : Hid (wr.heap.size < (wr.alloc (.cells #[.int .i64 4, .int .i64 nk, .string ⟨#[]⟩] 23)).heap.size) := lt_of_block hA
              clear hE hb3E hbE
              go_wp2_with fail
              generalize wr.alloc (.cells #[.int .i64 4, .int .i64 nk, .string ⟨#[]⟩] 23) = wE at *
              obtain ⟨q0, q1, q2⟩ := three_below hA
              have qc : ∀ p : BelowBy wE.heap.size wE, p.x.cell? ⟨g', L, none⟩ = some (.int .i64 nk) := fun p => cell_below p.h (by have := HbE.out.size; omega) hcE
              refine wp_region_quiet_below (by kernel_rfl) (by kernel_rfl) ?_
              repeat (quiet_step (first | (go_at_call 42; with_reducible refine Calls.below_of (HQ.out _))))
              refine wpQuiet_nil ?_
              intro _ hw'
              obtain ⟨pq, hw''⟩ := hw'
              subst hw''
              go_wp2_with fail
              go_roundw
              case rel => exact ⟨k + 1, by omega, by go_num, by rw [HR1.out]; go_num, HbE.out.trans (pq.h.mono HbE.out.size)⟩
              case measure => simp [intOf]; omega
            · have e4 : (K k == 4) = false := beq_no' h4
              have e4' : (K k != 4) = true := bne_yes h4
              have HR1 : Hid (refs K N (k + 1) = refs K N k) := by show _ = _; simp [refs, h4]
              clear h4
              go_wp2_with fail
              go_roundw
              case rel => exact ⟨k + 1, by omega, by go_num, by rw [HR1.out], hb.alloc (by omega) _⟩
              case measure => simp [intOf]; omega
          · rw [show k = len by omega]
            go_wp2_with fail
            go_ret
            exact ⟨rfl, hbz⟩
theorem valueCells_walk (ad : Option Addr) (len cap : Nat) (K N : Nat → Int) (S : Nat → ByteArray) (_ : len ≤ maxLen) (_ : ∀ i, i < len → (Lit.int .i64 (K i)).wf = true ∧ (Lit.int .i64 (N i)).wf = true) (w : World) (h : len = 0 ∨ ∃ g off, ad = some ⟨g, off, none⟩ ∧ g < w.heap.size ∧ Vals w g off len K N S) :
    Calls Try.prog 9 #[.slice ad len cap] w fun e w' => e = .returned (.bool true) ∧ Below w.heap.size w w' := by
  rcases h with rfl | ⟨g, off, rfl, hg, hv⟩
  · exact valueCells_zero ad cap w
  · exact valueCells_some g off len cap K N S w hg hv
end Go.Proofs.Ythmeehmobcaadaa.Va
