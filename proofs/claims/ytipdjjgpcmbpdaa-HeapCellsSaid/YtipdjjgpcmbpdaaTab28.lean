/- Acts on a table that come in as a slice; the statements' right. -/
import Derived.Test.YtipdjjgpcmbpdaaTab25
import Derived.Test.YtipdjjgpcmbpdaaVal2
set_option linter.unusedVariables false
namespace Go.Proofs.Ytipdjjgpcmbpdaa.Ta
open Go.RowKit Go.ChangeShapes Go.WideShapes Go.ChangeAt Go.Proofs.Ytipdjjgpcmbpdaa.Va

def AtO (w : World) (g off : Nat) (L : List (Int × Vl × Vl)) : Prop := ∀ (i : Nat) (kd : Int) (k v : Vl), L[i]? = some (kd, k, v) →
  w.cell? ⟨g, off + i * 7, none⟩ = some (.int .i64 kd) ∧ w.cell? ⟨g, off + i * 7 + 1, none⟩ = some (.int .i64 k.1) ∧ w.cell? ⟨g, off + i * 7 + 2, none⟩ = some (.int .i64 k.2.1) ∧ w.cell? ⟨g, off + i * 7 + 3, none⟩ = some (.string k.2.2) ∧ w.cell? ⟨g, off + i * 7 + 4, none⟩ = some (.int .i64 v.1) ∧ w.cell? ⟨g, off + i * 7 + 5, none⟩ = some (.int .i64 v.2.1) ∧ w.cell? ⟨g, off + i * 7 + 6, none⟩ = some (.string v.2.2)
/-- A slice of acts that came in. -/
def InO (ad : Option Addr) (w : World) (L : List (Int × Vl × Vl)) : Prop := L = [] ∨ ∃ g off, ad = some ⟨g, off, none⟩ ∧ g < w.heap.size ∧ AtO w g off L
theorem atO_keep {w w' : World} {g off : Nat} {L : List (Int × Vl × Vl)} (h : AtO w g off L) (hb : w'.heap[g]? = w.heap[g]?) : AtO w' g off L := fun i kd k v hi => by
  obtain ⟨h0, h1, h2, h3, h4, h5, h6⟩ := h i kd k v hi
  refine ⟨?_, ?_, ?_, ?_, ?_, ?_, ?_⟩ <;> (rw [World.cell?_of_block hb]; assumption)
theorem inO_below {ad : Option Addr} {B : Nat} {w w' : World} {L : List (Int × Vl × Vl)} (h : InO ad w L) (hb : Below w.heap.size w w') : InO ad w' L := by
  rcases h with h | ⟨g, off, e, hg, ha⟩
  · exact Or.inl h
  · exact Or.inr ⟨g, off, e, Nat.lt_of_lt_of_le hg hb.size, atO_keep ha (hb.block _ hg)⟩
/-- May a key and a value be? -/
def Ok1 (k v : Vl) : Prop := okK k ∧ (k.1 = 0 → k = nul) ∧ k.2.2.size ≤ 200
def Right (L : List (Int × Vl × Vl)) : Prop := (∀ (i : Nat) (kd : Int) (k v : Vl), L[i]? = some (kd, k, v) → Ok1 k v) ∧ L.length ≤ 100
theorem chk_ok {k : Vl} (h : chk k.1 k.2.1 k.2.2 = 0) (hs : k.2.2.size ≤ 200) : okK k ∧ (k.1 = 0 → k = nul) := by
  unfold chk at h
  split at h
  · exact absurd h (by decide)
  · split at h
    · exact absurd h (by decide)
    · rename_i h1 h2
      refine ⟨⟨by omega, by omega, by omega⟩, fun e => ?_⟩
      have h3 : k.2.1 = 0 := by
        have hf : fit k.1 k.2.1 = true := by
          cases hf : fit k.1 k.2.1
          · exact absurd (Or.inr hf) h2
          · rfl
        unfold fit at hf
        rw [if_pos (Or.inl e)] at hf
        exact of_decide_eq_true hf
      have h4 : k.2.2.size = 0 := by
        by_cases h5 : k.2.2.size = 0
        · exact h5
        · exact absurd (Or.inl ⟨by omega, h5⟩) h2
      obtain ⟨a, b, s⟩ := k
      simp only at e h3 h4
      subst e h3
      refine Prod.ext rfl (Prod.ext rfl ?_)
      exact ByteArray.ext (Array.eq_empty_of_size_eq_zero h4)
set_option maxRecDepth 100000 in
set_option maxHeartbeats 4000000 in
theorem right_some {cap g off : Nat} (L : List (Int × Vl × Vl)) (w : World) (hg : g < w.heap.size) (h : AtO w g off L) (hL : L.length ≤ maxLen) :
    Calls Try.prog 11 #[.slice (some ⟨g, off, none⟩) L.length cap] w fun e w' => ∃ r, e = .returned (.bool r) ∧ (r = true → Right L) ∧ Below w.heap.size w w' := by
  have HL : Hid (L.length ≤ maxLen) := hL
  clear hL
  have HA := Lib.hid h
  have HG := Lib.hid hg
  clear h hg
  go_enter Try.func11, Try.ntmps11
  go_wp2_with fail
  go_loopw [4, 7] (fun _ i wr => ∃ k : Nat, k ≤ L.length ∧ i = .int .i64 (k : Int) ∧ Hid (∀ (i : Nat) (kd : Int) (x v : Vl), i < k → L[i]? = some (kd, x, v) → Ok1 x v) ∧ Hid (Below w.heap.size w wr)) (fun _ i _ => L.length - (intOf i).toNat)
  case atStart => exact ⟨0, by omega, rfl, fun i _ _ _ h => by omega, Below.refl _ _⟩
  case round =>
    obtain ⟨k, hk, rfl, HU, HZ⟩ := hrel
    by_cases hlt : k < L.length
    · obtain ⟨⟨kd, x, v⟩, he⟩ := get_some hlt
      have hw : IntKind.i64.wrap ((k : Int) + 1) = (k : Int) + 1 := by have := HL.out; unfold maxLen at this; rw [IntKind.wrap_i64]; omega
      have ha := atO_keep HA.out (HZ.out.block _ HG.out)
      obtain ⟨c0, c1, c2, c3, c4, c5, c6⟩ := ha k kd x v he
      have hq := (Below.refl wr.heap.size wr).alloc (Nat.le_refl _) (opB kd x v)
      have ho := heap_alloc_new wr (opB kd x v)
      obtain ⟨d0, d1, d2, d3, d4, d5, d6⟩ := seven ho
      have HQ := Lib.hid (HZ.out.trans (hq.mono HZ.out.size))
      have HO := Lib.hid ho
      have HE := Lib.hid he
      clear ha hq ho he
      unfold opB at HQ HO d0 d1 d2 d3 d4 d5 d6
      go_wp2_with fail
      refine (check_any x.1 x.2.1 x.2.2 _).mono ?_
      rintro e w1 ⟨rfl, hb1⟩
      have ho1 := (hb1.block _ (lt_of_block HO.out)).trans HO.out
      have HQ1 := Lib.hid (HQ.out.trans (hb1.mono HQ.out.size))
      have HO1 := Lib.hid ho1
      clear d0 d1 d2 d3 d4 d5 d6 HQ HO
      obtain ⟨d0, d1, d2, d3, d4, d5, d6⟩ := seven ho1
      clear hb1 ho1
      by_cases hx : chk x.1 x.2.1 x.2.2 = 0
      · rw [hx]
        go_wp2_with fail
        refine (check_any v.1 v.2.1 v.2.2 _).mono ?_
        rintro e w2 ⟨rfl, hb2⟩
        have ho2 := (hb2.block _ (lt_of_block HO1.out)).trans HO1.out
        have HQ2 := Lib.hid (HQ1.out.trans (hb2.mono HQ1.out.size))
        clear d0 d1 d2 d3 d4 d5 d6 HQ1 HO1
        obtain ⟨d0, d1, d2, d3, d4, d5, d6⟩ := seven ho2
        clear hb2 ho2
        by_cases hv : chk v.1 v.2.1 v.2.2 = 0
        · rw [hv]
          by_cases hs : x.2.2.size ≤ 200
          · have hs1 : (x.2.2.size : Int) ≤ 200 := by omega
            have HN : Hid (∀ (i : Nat) (kd : Int) (x v : Vl), i < k + 1 → L[i]? = some (kd, x, v) → Ok1 x v) := fun i kd' x' v' hi h' => by
              rcases Nat.lt_or_ge i k with h1 | h1
              · exact HU.out i kd' x' v' h1 h'
              · have e1 : i = k := by omega
                subst e1; rw [HE.out] at h'; cases h'
                exact ⟨(chk_ok hx hs).1, (chk_ok hx hs).2, hs⟩
            clear HU hx hv
            go_wp2_with fail
            go_roundw
            case rel => exact ⟨k + 1, by omega, by go_num, HN.out, HQ2.out⟩
            case measure => simp [intOf]; omega
          · have hs1 : ¬ (x.2.2.size : Int) ≤ 200 := by omega
            go_wp2_with fail
            go_ret
            exact ⟨false, rfl, (fun h => by cases h), HQ2.out⟩
        · have hv1 : (chk v.1 v.2.1 v.2.2 != 0) = true := by simp [hv]
          generalize chk v.1 v.2.1 v.2.2 = cv at *
          go_wp2_with fail
          go_ret
          exact ⟨false, rfl, (fun h => by cases h), HQ2.out⟩
      · have hx1 : (chk x.1 x.2.1 x.2.2 != 0) = true := by simp [hx]
        generalize chk x.1 x.2.1 x.2.2 = cx at *
        go_wp2_with fail
        go_ret
        exact ⟨false, rfl, (fun h => by cases h), HQ1.out⟩
    · by_cases hL : L.length ≤ 100
      · have hL1 : (L.length : Int) ≤ 100 := by omega
        have HR : Hid (Right L) := ⟨fun i kd x v hi => HU.out i kd x v (by
          have := (List.getElem?_eq_some_iff.1 hi).1; omega) hi, hL⟩
        clear HU
        go_wp2_with fail
        go_ret
        exact ⟨true, rfl, fun _ => HR.out, HZ.out⟩
      · have hL1 : ¬ (L.length : Int) ≤ 100 := by omega
        clear HU
        go_wp2_with fail
        go_ret
        exact Or.inl ⟨rfl, HZ.out⟩
theorem right_any {ad : Option Addr} {cap : Nat} (L : List (Int × Vl × Vl)) (w : World) (h : InO ad w L) (hL : L.length ≤ maxLen) :
    Calls Try.prog 11 #[.slice ad L.length cap] w fun e w' => ∃ r, e = .returned (.bool r) ∧ (r = true → Right L) ∧ Below w.heap.size w w' := by
  rcases h with rfl | ⟨g, off, rfl, hg, ha⟩
  · have HR : Hid (Right []) := ⟨fun i kd x v hi => by simp at hi, by simp⟩
    go_enter Try.func11, Try.ntmps11
    go_wp2_with fail
    refine wp_loop_rounds 1 ?_
    rw [rounds_succ]
    go_wp2_with fail
    go_ret
    exact ⟨true, rfl, fun _ => HR.out, Below.refl _ _⟩
  · exact right_some L w hg ha hL
end Go.Proofs.Ytipdjjgpcmbpdaa.Ta
