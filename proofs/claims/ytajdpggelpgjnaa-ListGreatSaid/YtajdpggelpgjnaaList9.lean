/- 'ListFinds': the walk. -/
import Derived.Test.YtajdpggelpgjnaaList8
namespace Go.Proofs.Ytajdpggelpgjnaa.Li
open Go.RowKit Go.ChangeShapes Go.WideShapes Go.ChangeAt Go.Proofs.Ytajdpggelpgjnaa.Va

/-- The values of a slice that came in. -/
def In (ad : Option Addr) (w : World) (L : List (Int × Int × ByteArray)) : Prop := L = [] ∨ ∃ g off, ad = some ⟨g, off, none⟩ ∧ g < w.heap.size ∧ At w g off L
theorem in_below {ad : Option Addr} {w w' : World} {L : List (Int × Int × ByteArray)} (h : In ad w L) (hb : Below w.heap.size w w') : In ad w' L := by
  rcases h with h | ⟨g, off, e, hg, ha⟩
  · exact Or.inl h
  · exact Or.inr ⟨g, off, e, Nat.lt_of_lt_of_le hg hb.size, at_below ha hb hg⟩
theorem in_src {ad : Option Addr} {w : World} {L : List (Int × Int × ByteArray)} (h : In ad w L) : Src ad w L := by
  rcases h with h | ⟨g, off, rfl, hg, ha⟩
  · exact Or.inl h
  · exact at_src ha
theorem right_in (ad : Option Addr) (cap : Nat) (L : List (Int × Int × ByteArray)) (hl : L.length ≤ 1000000) (w : World) (h : In ad w L) :
    Calls Try.prog 8 #[.slice ad L.length cap] w fun e w' => e = .returned (.bool (okR L)) ∧ Below w.heap.size w w' := by
  rcases h with rfl | ⟨g, off, rfl, hg, ha⟩
  · exact right_zero ad cap w
  · exact right_at g off cap L hl w hg ha
theorem same_in (B b : Nat) (ad ad2 : Option Addr) (cap c2 : Nat) (L : List (Int × Int × ByteArray)) (hl : L.length ≤ 1000000) (w : World) (h : IsL B b ad cap w L) (hi : In ad2 w L) :
    Calls Try.prog 19 #[.pointer (some ⟨b, 0, none⟩), .slice ad2 L.length c2] w fun e w' => e = .returned (.bool true) ∧ Below w.heap.size w w' := by
  by_cases h0 : L = []
  · subst h0; exact same_zero B b ad ad2 cap c2 w h
  · rcases hi with e | ⟨g, off, rfl, hg, ha⟩
    · exact absurd e h0
    · exact same_some B b ad cap g off c2 L (List.length_pos_iff.2 h0) hl w h hg ha
theorem lit_at {W : World} {t : TypeId} (e : Int × Int × ByteArray) : At (W.alloc (.cells (flat [e]).toArray t)) W.heap.size 0 [e] := by
  intro i hi
  obtain rfl : i = 0 := by simp at hi; omega
  have hw := heap_alloc_new W (.cells (flat [e]).toArray t)
  exact ⟨by rw [cell_of_row _ _ _ _ _ _ hw]; rfl, by rw [cell_of_row _ _ _ _ _ _ hw]; rfl, by rw [cell_of_row _ _ _ _ _ _ hw]; rfl⟩
theorem refs_four {L : List (Int × Int × ByteArray)} {k : Nat} (h : k < L.length) (h4 : (L[k]).1 = 4) : (refs (kd L) (nm L) (k + 1)).length = (refs (kd L) (nm L) k).length + 1 := by
  have : kd L k = 4 := by unfold kd; rw [getD_at L k h]; exact h4
  simp [refs, this]
theorem refs_else {L : List (Int × Int × ByteArray)} {k : Nat} (h : k < L.length) (h4 : ¬ (L[k]).1 = 4) : (refs (kd L) (nm L) (k + 1)).length = (refs (kd L) (nm L) k).length := by
  have : ¬ kd L k = 4 := by unfold kd; rw [getD_at L k h]; exact h4
  simp [refs, this]
/-- What the law's loop knows at a place. -/
def Sofar (v : Int × Int × ByteArray) (L : List (Int × Int × ByteArray)) (k : Nat) (a : Int) : Prop := (a = -1 ∧ findN v L 0 = findN v (L.drop k) k) ∨ (0 ≤ a ∧ findN v L 0 = a)
theorem sofar_end {v : Int × Int × ByteArray} {L : List (Int × Int × ByteArray)} {a : Int} (h : Sofar v L L.length a) : findN v L 0 = a := by
  rcases h with ⟨rfl, h⟩ | ⟨_, h⟩
  · rw [h, List.drop_length, findN]
  · exact h
theorem sofar_here {v : Int × Int × ByteArray} {L : List (Int × Int × ByteArray)} {k : Nat} (h : Sofar v L k (-1)) (hk : k < L.length) (hx : L[k].1 = v.1 ∧ L[k].2.1 = v.2.1 ∧ L[k].2.2 = v.2.2) : Sofar v L (k + 1) (k : Int) := by
  rcases h with ⟨_, h⟩ | ⟨h0, _⟩
  · refine Or.inr ⟨by omega, ?_⟩
    rw [h, List.drop_eq_getElem_cons hk, findN, if_pos hx]
  · omega
theorem sofar_not {v : Int × Int × ByteArray} {L : List (Int × Int × ByteArray)} {k : Nat} {a : Int} (h : Sofar v L k a) (hk : k < L.length) (hx : ¬ (L[k].1 = v.1 ∧ L[k].2.1 = v.2.1 ∧ L[k].2.2 = v.2.2)) : Sofar v L (k + 1) a := by
  rcases h with ⟨e, h⟩ | h
  · refine Or.inl ⟨e, ?_⟩
    rw [h, List.drop_eq_getElem_cons hk, findN, if_neg hx]
  · exact Or.inr h
theorem sofar_have {v : Int × Int × ByteArray} {L : List (Int × Int × ByteArray)} {k : Nat} {a : Int} (h : Sofar v L k a) (ha : 0 ≤ a) : Sofar v L (k + 1) a := by
  rcases h with ⟨e, _⟩ | h
  · omega
  · exact Or.inr h

set_option maxRecDepth 100000 in
set_option maxHeartbeats 4000000 in
theorem finds_long (ad : Option Addr) (cap : Nat) (L : List (Int × Int × ByteArray)) (vk vn : Int) (vs : ByteArray) (hl : 200 < L.length) (w : World) : Calls Try.prog 5 #[.slice ad L.length cap, .agg #[.int .i64 vk, .int .i64 vn, .string vs]] w fun e w' => e = .returned (.bool true) ∧ Below w.heap.size w w' := by
  have hl2 : (200 : Int) < (L.length : Int) := by omega
  go_enter Try.func5, Try.ntmps5
  go_wp2_with fail
  refine (keeps_any _).mono ?_
  rintro e w1 ⟨rfl, hb1⟩
  obtain ⟨hA, hz⟩ := box1 hb1
  obtain ⟨c0, c1, c2, z0, z1, z2⟩ := three_facts hA
  have HA := Lib.hid hA
  have HZ := Lib.hid hz
  clear hA hz hb1
  go_wp2_with fail
  go_ret
  exact ⟨rfl, HZ.out⟩

set_option maxRecDepth 100000 in
set_option maxHeartbeats 4000000 in
theorem finds_off (ad : Option Addr) (cap : Nat) (L : List (Int × Int × ByteArray)) (vk vn : Int) (vs : ByteArray) (hl : L.length ≤ 200) (hok : okR L = false) (w : World) (hin : In ad w L) : Calls Try.prog 5 #[.slice ad L.length cap, .agg #[.int .i64 vk, .int .i64 vn, .string vs]] w fun e w' => e = .returned (.bool true) ∧ Below w.heap.size w w' := by
  have HI := Lib.hid hin
  have hl2 : ¬ (200 : Int) < (L.length : Int) := by omega
  have HR := Lib.hid fun w h => right_in ad cap L (by omega) w h
  rw [hok] at HR
  clear hin hok
  go_enter Try.func5, Try.ntmps5
  go_wp2_with fail
  refine (keeps_any _).mono ?_
  rintro e w1 ⟨rfl, hb1⟩
  obtain ⟨hA, hz⟩ := box1 hb1
  obtain ⟨c0, c1, c2, z0, z1, z2⟩ := three_facts hA
  have HA := Lib.hid hA
  have HZ := Lib.hid hz
  clear hA hz hb1
  go_wp2_with fail
  refine (HR.out _ (in_below HI.out HZ.out)).mono ?_
  rintro e w2 ⟨rfl, hb⟩
  have hA := keep HA.out hb
  have hz := HZ.out.trans (hb.mono HZ.out.size)
  clear HA HZ c0 c1 c2 z0 z1 z2
  obtain ⟨c0, c1, c2, z0, z1, z2⟩ := three_facts hA
  have HA := Lib.hid hA
  have HZ := Lib.hid hz
  clear hA hz hb
  go_wp2_with fail
  go_ret
  exact ⟨rfl, HZ.out⟩

set_option maxRecDepth 100000 in
set_option maxHeartbeats 4000000 in
theorem finds_off2 (ad : Option Addr) (cap : Nat) (L : List (Int × Int × ByteArray)) (vk vn : Int) (vs : ByteArray) (hl : L.length ≤ 200) (hok : okR L = true) (hok2 : okR [(vk, vn, vs)] = false) (w : World) (hin : In ad w L) : Calls Try.prog 5 #[.slice ad L.length cap, .agg #[.int .i64 vk, .int .i64 vn, .string vs]] w fun e w' => e = .returned (.bool true) ∧ Below w.heap.size w w' := by
  have HI := Lib.hid hin
  have hl2 : ¬ (200 : Int) < (L.length : Int) := by omega
  have HR := Lib.hid fun w h => right_in ad cap L (by omega) w h
  rw [hok] at HR
  have HV : Hid (∀ w, Calls Try.prog 8 #[.slice (some ⟨w.heap.size, 0, none⟩) 1 1] (w.alloc (.cells #[.int .i64 vk, .int .i64 vn, .string vs] 30)) fun e w' => e = .returned (.bool (okR [(vk, vn, vs)])) ∧ Below w.heap.size w w') := fun w => (right_at w.heap.size 0 1 [(vk, vn, vs)] (by simp) (w.alloc (.cells #[.int .i64 vk, .int .i64 vn, .string vs] 30)) (by simp) (lit_at (vk, vn, vs))).mono fun e w' h => ⟨h.1, (box1 h.2).2⟩
  rw [hok2] at HV
  clear hin hok hok2
  go_enter Try.func5, Try.ntmps5
  go_wp2_with fail
  refine (keeps_any _).mono ?_
  rintro e w1 ⟨rfl, hb1⟩
  obtain ⟨hA, hz⟩ := box1 hb1
  obtain ⟨c0, c1, c2, z0, z1, z2⟩ := three_facts hA
  have HA := Lib.hid hA
  have HZ := Lib.hid hz
  clear hA hz hb1
  go_wp2_with fail
  refine (HR.out _ (in_below HI.out HZ.out)).mono ?_
  rintro e w2 ⟨rfl, hb⟩
  have hA := keep HA.out hb
  have hz := HZ.out.trans (hb.mono HZ.out.size)
  clear HA HZ c0 c1 c2 z0 z1 z2
  obtain ⟨c0, c1, c2, z0, z1, z2⟩ := three_facts hA
  have HA := Lib.hid hA
  have HZ := Lib.hid hz
  clear hA hz hb
  go_wp2_with fail
  refine (HV.out _).mono ?_
  rintro e w3 ⟨rfl, hb⟩
  have hA := keep HA.out hb
  have hz := HZ.out.trans (hb.mono HZ.out.size)
  clear HA HZ c0 c1 c2 z0 z1 z2
  obtain ⟨c0, c1, c2, z0, z1, z2⟩ := three_facts hA
  have HA := Lib.hid hA
  have HZ := Lib.hid hz
  clear hA hz hb
  go_wp2_with fail
  go_ret
  exact ⟨rfl, HZ.out⟩

set_option maxRecDepth 100000 in
set_option maxHeartbeats 16000000 in
theorem finds_all (ad : Option Addr) (cap : Nat) (L : List (Int × Int × ByteArray)) (vk vn : Int) (vs : ByteArray) (hl : L.length ≤ 200) (hok : okR L = true) (hok2 : okR [(vk, vn, vs)] = true) (w : World) (hin : In ad w L) : Calls Try.prog 5 #[.slice ad L.length cap, .agg #[.int .i64 vk, .int .i64 vn, .string vs]] w fun e w' => e = .returned (.bool true) ∧ Below w.heap.size w w' := by
  have HI := Lib.hid hin
  have hl2 : ¬ (200 : Int) < (L.length : Int) := by omega
  have HR := Lib.hid fun w h => right_in ad cap L (by omega) w h
  rw [hok] at HR
  have HV : Hid (∀ w, Calls Try.prog 8 #[.slice (some ⟨w.heap.size, 0, none⟩) 1 1] (w.alloc (.cells #[.int .i64 vk, .int .i64 vn, .string vs] 30)) fun e w' => e = .returned (.bool (okR [(vk, vn, vs)])) ∧ Below w.heap.size w w') := fun w => (right_at w.heap.size 0 1 [(vk, vn, vs)] (by simp) (w.alloc (.cells #[.int .i64 vk, .int .i64 vn, .string vs] 30)) (by simp) (lit_at (vk, vn, vs))).mono fun e w' h => ⟨h.1, (box1 h.2).2⟩
  rw [hok2] at HV
  clear hin hok hok2
  go_enter Try.func5, Try.ntmps5
  go_wp2_with fail
  refine (keeps_any _).mono ?_
  rintro e w1 ⟨rfl, hb1⟩
  obtain ⟨hA, hz⟩ := box1 hb1
  obtain ⟨c0, c1, c2, z0, z1, z2⟩ := three_facts hA
  have HA := Lib.hid hA
  have HZ := Lib.hid hz
  clear hA hz hb1
  go_wp2_with fail
  refine (HR.out _ (in_below HI.out HZ.out)).mono ?_
  rintro e w2 ⟨rfl, hb⟩
  have hA := keep HA.out hb
  have hz := HZ.out.trans (hb.mono HZ.out.size)
  clear HA HZ c0 c1 c2 z0 z1 z2
  obtain ⟨c0, c1, c2, z0, z1, z2⟩ := three_facts hA
  have HA := Lib.hid hA
  have HZ := Lib.hid hz
  clear hA hz hb
  go_wp2_with fail
  refine (HV.out _).mono ?_
  rintro e w3 ⟨rfl, hb⟩
  have hA := keep HA.out hb
  have hz := HZ.out.trans (hb.mono HZ.out.size)
  clear HA HZ c0 c1 c2 z0 z1 z2
  obtain ⟨c0, c1, c2, z0, z1, z2⟩ := three_facts hA
  have HA := Lib.hid hA
  have HZ := Lib.hid hz
  clear hA hz hb
  go_wp2_with fail
  refine (new_any ad cap L w3 (by omega) (in_src (in_below HI.out HZ.out))).mono ?_
  rintro e w4 ⟨b, ad1, cap1, rfl, hL, hb⟩
  have hA := keep HA.out hb
  have hz := HZ.out.trans (hb.mono HZ.out.size)
  have hL := isL_mono (B' := w.heap.size) hL HZ.out.size
  clear HA HZ c0 c1 c2 z0 z1 z2
  have HA := Lib.hid hA
  have HZ := Lib.hid hz
  have HL := Lib.hid hL
  clear hA hz hb hL
  go_wp2_with fail
  go_loopw [6, 7, 31] (fun a c i wr => ∃ (k : Nat) (z : Int), k ≤ L.length ∧ i = .int .i64 (k : Int) ∧ a = .int .i64 z ∧ c = .int .i64 (((refs (kd L) (nm L) k).length : Nat) : Int) ∧ Hid (Sofar (vk, vn, vs) L k z) ∧ Below w4.heap.size w4 wr) (fun _ _ i _ => L.length - (intOf i).toNat)
  case atStart => exact ⟨0, -1, by omega, rfl, rfl, rfl, Or.inl ⟨rfl, rfl⟩, Below.refl _ _⟩
  case round =>
    obtain ⟨k, z, hk, rfl, rfl, rfl, HS, hb⟩ := hrel
    have hbs := hb.size
    have hzs := HZ.out.size
    have hrl := refs_len (kd L) (nm L) k
    have hbz := HZ.out.trans (hb.mono hzs)
    by_cases hlt : k < L.length
    · obtain ⟨g, off, rfl, hg, ha⟩ : ∃ g off, ad = some ⟨g, off, none⟩ ∧ g < w.heap.size ∧ At w g off L := by
        rcases HI.out with e | h
        · subst e; exact absurd hlt (Nat.not_lt_zero _)
        · exact h
      obtain ⟨e0, e1, e2⟩ := at_below ha hbz hg k hlt
      have hE : Below wr.heap.size wr (wr.alloc (.cells #[.int .i64 (L[k]).1, .int .i64 (L[k]).2.1, .string (L[k]).2.2] 30)) := (Below.refl _ _).alloc (Nat.le_refl _) _
      have hAr := keep HA.out hb
      obtain ⟨d0, d1, d2, _, _, _⟩ := three_facts (keep hAr hE)
      have HB := Lib.hid (hb.alloc hbs (.cells #[.int .i64 (L[k]).1, .int .i64 (L[k]).2.1, .string (L[k]).2.2] 30))
      have hways : ((L[k].1 = vk ∧ L[k].2.1 = vn ∧ L[k].2.2 = vs) ∧ z = -1) ∨ ((L[k].1 = vk ∧ L[k].2.1 = vn ∧ L[k].2.2 = vs) ∧ 0 ≤ z) ∨ ¬ L[k].1 = vk ∨ (L[k].1 = vk ∧ ¬ L[k].2.1 = vn) ∨ (L[k].1 = vk ∧ L[k].2.1 = vn ∧ ¬ L[k].2.2 = vs) := by
        have hz2 : z = -1 ∨ 0 ≤ z := HS.out.elim (fun h => Or.inl h.1) (fun h => Or.inr h.1)
        by_cases h1 : L[k].1 = vk
        · by_cases h2 : L[k].2.1 = vn
          · by_cases h3 : L[k].2.2 = vs
            · rcases hz2 with h | h
              · exact Or.inl ⟨⟨h1, h2, h3⟩, h⟩
              · exact Or.inr (Or.inl ⟨⟨h1, h2, h3⟩, h⟩)
            · exact Or.inr (Or.inr (Or.inr (Or.inr ⟨h1, h2, h3⟩)))
          · exact Or.inr (Or.inr (Or.inr (Or.inl ⟨h1, h2⟩)))
        · exact Or.inr (Or.inr (Or.inl h1))
      have HF4 : Hid (L[k].1 = 4 → (refs (kd L) (nm L) (k + 1)).length = (refs (kd L) (nm L) k).length + 1) := fun h => refs_four hlt h
      have HE4 : Hid (¬ L[k].1 = 4 → (refs (kd L) (nm L) (k + 1)).length = (refs (kd L) (nm L) k).length) := fun h => refs_else hlt h
      clear hE hAr hbz hb ha
      rcases hways with ⟨hx, rfl⟩ | ⟨hx, hz0⟩ | h1 | ⟨h1, h2⟩ | ⟨h1, h2, h3⟩
      · have HS2 := Lib.hid (sofar_here HS.out hlt hx)
        obtain ⟨h1, h2, h3⟩ := hx
        rw [h1] at e0 HF4 HE4 HB d0
        rw [h2] at e1 HB d1
        rw [h3] at e2 HB d2
        try rw [h1] at d1 d2
        try rw [h2] at d0 d2
        try rw [h3] at d0 d1
        clear h1 h2 h3
        have hkk : vk = vk := rfl
        skip
        by_cases h4 : vk = 4
        · have HN := Lib.hid (HF4.out h4)
          subst h4
          go_wp2_with fail
          go_roundw
          case rel => exact ⟨k + 1, ((k : Nat) : Int), by omega, by go_num, rfl, by first | (rw [HN.out]; done) | (rw [HN.out]; go_num), HS2.out, HB.out⟩
          case measure => simp [intOf]; omega
        · have HN := Lib.hid (HE4.out h4)
          have e4 : (vk == 4) = false := beq_no' h4
          go_wp2_with fail
          go_roundw
          case rel => exact ⟨k + 1, ((k : Nat) : Int), by omega, by go_num, rfl, by rw [HN.out], HS2.out, HB.out⟩
          case measure => simp [intOf]; omega
      · have HS2 := Lib.hid (sofar_have HS.out hz0)
        have hz1 : ¬ z < 0 := by omega
        obtain ⟨h1, h2, h3⟩ := hx
        rw [h1] at e0 HF4 HE4 HB d0
        rw [h2] at e1 HB d1
        rw [h3] at e2 HB d2
        try rw [h1] at d1 d2
        try rw [h2] at d0 d2
        try rw [h3] at d0 d1
        clear h1 h2 h3
        have hkk : vk = vk := rfl
        skip
        by_cases h4 : vk = 4
        · have HN := Lib.hid (HF4.out h4)
          subst h4
          go_wp2_with fail
          go_roundw
          case rel => exact ⟨k + 1, z, by omega, by go_num, rfl, by first | (rw [HN.out]; done) | (rw [HN.out]; go_num), HS2.out, HB.out⟩
          case measure => simp [intOf]; omega
        · have HN := Lib.hid (HE4.out h4)
          have e4 : (vk == 4) = false := beq_no' h4
          go_wp2_with fail
          go_roundw
          case rel => exact ⟨k + 1, z, by omega, by go_num, rfl, by rw [HN.out], HS2.out, HB.out⟩
          case measure => simp [intOf]; omega
      · have HS2 := Lib.hid (sofar_not HS.out hlt (fun h => h1 h.1))
        skip
        by_cases h4 : L[k].1 = 4
        · have HN := Lib.hid (HF4.out h4)
          rw [h4] at e0 HB d0
          try rw [h4] at d1
          try rw [h4] at d2
          have h1 : ¬ (4 : Int) = vk := by rw [← h4]; exact h1
          clear h4
          go_wp2_with fail
          go_roundw
          case rel => exact ⟨k + 1, z, by omega, by go_num, rfl, by first | (rw [HN.out]; done) | (rw [HN.out]; go_num), HS2.out, HB.out⟩
          case measure => simp [intOf]; omega
        · have HN := Lib.hid (HE4.out h4)
          have e4 : (L[k].1 == 4) = false := beq_no' h4
          go_wp2_with fail
          go_roundw
          case rel => exact ⟨k + 1, z, by omega, by go_num, rfl, by rw [HN.out], HS2.out, HB.out⟩
          case measure => simp [intOf]; omega
      · have HS2 := Lib.hid (sofar_not HS.out hlt (fun h => h2 h.2.1))
        rw [h1] at e0 HF4 HE4 HB d0
        try rw [h1] at d1
        try rw [h1] at d2
        clear h1
        skip
        by_cases h4 : vk = 4
        · have HN := Lib.hid (HF4.out h4)
          subst h4
          go_wp2_with fail
          go_roundw
          case rel => exact ⟨k + 1, z, by omega, by go_num, rfl, by first | (rw [HN.out]; done) | (rw [HN.out]; go_num), HS2.out, HB.out⟩
          case measure => simp [intOf]; omega
        · have HN := Lib.hid (HE4.out h4)
          have e4 : (vk == 4) = false := beq_no' h4
          go_wp2_with fail
          go_roundw
          case rel => exact ⟨k + 1, z, by omega, by go_num, rfl, by rw [HN.out], HS2.out, HB.out⟩
          case measure => simp [intOf]; omega
      · have HS2 := Lib.hid (sofar_not HS.out hlt (fun h => h3 h.2.2))
        rw [h1] at e0 HF4 HE4 HB d0
        try rw [h1] at d1
        try rw [h1] at d2
        clear h1
        have hs : ¬ (L[k].2.2).toList = vs.toList := fun e => h3 (list_inj e)
        rw [h2] at e1 HB d1
        try rw [h2] at d0
        try rw [h2] at d2
        clear h2 h3
        skip
        by_cases h4 : vk = 4
        · have HN := Lib.hid (HF4.out h4)
          subst h4
          go_wp2_with fail
          go_roundw
          case rel => exact ⟨k + 1, z, by omega, by go_num, rfl, by first | (rw [HN.out]; done) | (rw [HN.out]; go_num), HS2.out, HB.out⟩
          case measure => simp [intOf]; omega
        · have HN := Lib.hid (HE4.out h4)
          have e4 : (vk == 4) = false := beq_no' h4
          go_wp2_with fail
          go_roundw
          case rel => exact ⟨k + 1, z, by omega, by go_num, rfl, by rw [HN.out], HS2.out, HB.out⟩
          case measure => simp [intOf]; omega
    · obtain rfl : k = L.length := by omega
      have HFN := Lib.hid (sofar_end HS.out)
      have hA := keep HA.out hb
      have hL := isL_below HL.out hb
      clear HA HZ HL HS
      have HA := Lib.hid hA
      have HZ := Lib.hid hbz
      have HL := Lib.hid hL
      clear hA hL hb hbz
      obtain ⟨w5, rfl⟩ : ∃ x, x = wr := ⟨wr, rfl⟩
      go_wp2_with fail
      refine (clone_any w.heap.size b ad1 cap1 L (by omega) w5 HL.out).mono ?_
      rintro e w6 ⟨b', ad', cap', rfl, hC, hb6⟩
      have hA := keep HA.out hb6
      have hL := isL_below HL.out hb6
      have hlow := hC.low
      have hrow := own_low hC.own
      have hz := HZ.out.trans (hb6.mono HZ.out.size)
      have hbl := lt_of_block HL.out.blk
      have hrl1 : ∀ g, ad1.map (·.block) = some g → g < w5.heap.size := fun g e => by obtain ⟨_, hc⟩ := own_block HL.out.own g e; exact lt_of_block hc
      have hA5 := lt_of_block HA.out
      have hC := isL_mono (B' := w.heap.size) hC HZ.out.size
      obtain ⟨c0, c1, c2, z0, z1, z2⟩ := three_facts hA
      have hE : Below w6.heap.size w6 (w6.alloc (.cells (flat [(vk, vn, vs)]).toArray 30)) := (Below.refl _ _).alloc (Nat.le_refl _) _
      have hA := keep hA hE
      have hL := isL_below hL hE
      have hC := isL_below hC hE
      have hz := hz.trans (hE.mono hz.size)
      clear HA HZ HL
      have HA := Lib.hid hA
      have HZ := Lib.hid hz
      have HL := Lib.hid hL
      have HC := Lib.hid hC
      clear hA hL hz hC hb6 hE
      go_wp2_with fail
      refine (push_any w.heap.size b' ad' ⟨w6.heap.size, 0, none⟩ cap' 1 L [(vk, vn, vs)] (by simp; omega) (w6.alloc (.cells (flat [(vk, vn, vs)]).toArray 30)) HZ.out.size HC.out (lit_src [(vk, vn, vs)])).mono ?_
      rintro e w7 ⟨rfl, hN⟩
      have hz := now_low HZ.out (Nat.le_refl _) HC.out hN
      obtain ⟨ad2, cap2, hC2, hu, _⟩ := hN
      have hL := isL_upd HL.out HC.out hu (by omega) (fun g e1 e2 => by have := hrl1 g e1; have := hrow g e2; omega)
      have hA := (hu.block w.heap.size (lt_of_block HA.out) (by omega) (fun e => by have := hrow _ e; omega)).trans HA.out
      clear HA HZ HL HC c0 c1 c2 z0 z1 z2
      obtain ⟨c0, c1, c2, z0, z1, z2⟩ := three_facts hA
      have HZ := Lib.hid hz
      have HL := Lib.hid hL
      have HC := Lib.hid hC2
      clear hA hL hz hC2 hu
      have hl3 : ((L ++ [(vk, vn, vs)]).length : Int) = (L.length : Int) + 1 := by simp
      go_wp2_with fail
      refine (find_any w.heap.size b ad1 cap1 L (vk, vn, vs) (by omega) w7 HL.out).mono ?_
      rintro e w8 ⟨rfl, hb8⟩
      rw [HFN.out]
      have HL8 := Lib.hid (isL_below HL.out hb8)
      go_wp2_with fail
      refine (lcells_any w.heap.size b ad1 cap1 L (by omega) w8 HL8.out).mono ?_
      rintro e w9 ⟨ad9, cap9, rfl, hb9⟩
      have HL9 := Lib.hid (isL_below HL8.out hb9)
      have hb79 := hb8.trans (hb9.mono hb8.size)
      have hz9 := HZ.out.trans (hb79.mono HZ.out.size)
      have HI9 := Lib.hid (in_below HI.out hz9)
      go_wp2_with fail
      refine (same_in w.heap.size b ad1 ad cap1 cap L (by omega) w9 HL9.out HI9.out).mono ?_
      rintro e w10 ⟨rfl, hb10⟩
      have hb710 := hb79.trans (hb10.mono hb79.size)
      have HC10 := Lib.hid (isL_below HC.out hb710)
      have HZ10 := Lib.hid (HZ.out.trans (hb710.mono HZ.out.size))
      clear hb8 hb9 hb79 hz9 hb10 hb710
      go_wp2_with fail
      refine (len_any w.heap.size b' ad2 cap2 (L ++ [(vk, vn, vs)]) w10 HC10.out).mono ?_
      rintro e _ ⟨rfl, rfl⟩
      rw [hl3]
      go_wp2_with fail
      go_ret
      exact ⟨rfl, HZ10.out⟩

theorem vals_in {ad : Option Addr} {len : Nat} {K N : Nat → Int} {S : Nat → ByteArray} {w : World} (h : len = 0 ∨ ∃ g off, ad = some ⟨g, off, none⟩ ∧ g < w.heap.size ∧ Vals w g off len K N S) : ∃ L, len = L.length ∧ In ad w L := by
  refine ⟨(List.range len).map fun i => (K i, N i, S i), by simp, ?_⟩
  rcases h with rfl | ⟨g, off, e, hg, hv⟩
  · exact Or.inl rfl
  · refine Or.inr ⟨g, off, e, hg, fun i hi => ?_⟩
    have hi' : i < len := by simpa using hi
    simpa using hv i hi'
theorem listFinds_in (ad : Option Addr) (len cap : Nat) (L : List (Int × Int × ByteArray)) (hlen : len = L.length) (vk vn : Int) (vs : ByteArray) (w : World) (hin : In ad w L) :
    Calls Try.prog 5 #[.slice ad len cap, .agg #[.int .i64 vk, .int .i64 vn, .string vs]] w fun e w' => e = .returned (.bool true) ∧ Below w.heap.size w w' := by
  subst hlen
  by_cases hl : L.length ≤ 200
  · cases hok : okR L
    · exact finds_off ad cap L vk vn vs hl hok w hin
    · cases hok2 : okR [(vk, vn, vs)]
      · exact finds_off2 ad cap L vk vn vs hl hok hok2 w hin
      · exact finds_all ad cap L vk vn vs hl hok hok2 w hin
  · exact finds_long ad cap L vk vn vs (by omega) w
theorem listFinds_walk (ad : Option Addr) (len cap : Nat) (K N : Nat → Int) (S : Nat → ByteArray) (_ : len ≤ maxLen) (_ : ∀ i, i < len → (Lit.int .i64 (K i)).wf = true ∧ (Lit.int .i64 (N i)).wf = true) (vk vn : Int) (vs : ByteArray) (_ : (Lit.int .i64 vk).wf = true) (_ : (Lit.int .i64 vn).wf = true) (_ : vs.size ≤ maxLen) (w : World)
    (h : len = 0 ∨ ∃ g off, ad = some ⟨g, off, none⟩ ∧ g < w.heap.size ∧ Vals w g off len K N S) :
    Calls Try.prog 5 #[.slice ad len cap, .agg #[.int .i64 vk, .int .i64 vn, .string vs]] w fun e w' => e = .returned (.bool true) ∧ Below w.heap.size w w' := by
  obtain ⟨L, hl, hi⟩ := vals_in h
  exact listFinds_in ad len cap L hl vk vn vs w hi
end Go.Proofs.Ytajdpggelpgjnaa.Li
