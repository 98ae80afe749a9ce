/- 'ListSlices': where it is a piece. -/
import Derived.Test.YtajdpggelpgjnaaList11
namespace Go.Proofs.Ytajdpggelpgjnaa.Li
open Go.RowKit Go.ChangeShapes Go.WideShapes Go.ChangeAt Go.Proofs.Ytajdpggelpgjnaa.Va

theorem now_mono {B B' b : Nat} {ad : Option Addr} {w w' : World} {L : List (Int × Int × ByteArray)} (hB : B' ≤ B) (h : Now B b ad w w' L) : Now B' b ad w w' L := by
  obtain ⟨a, c, h1, h2, h3⟩ := h
  exact ⟨a, c, isL_mono h1 hB, h2, h3⟩
set_option maxRecDepth 100000 in
set_option maxHeartbeats 16000000 in
theorem slices_yes111 (ad : Option Addr) (cap : Nat) (L : List (Int × Int × ByteArray)) (f t : Int) (hl : L.length ≤ 200) (hok : okR L = true) (hcap : L.length ≤ cap) (F n : Nat) (hF : placed f L.length = F) (hT : placed t L.length = ((F + n : Nat) : Int)) (hn : F + n ≤ L.length) (hc : cap = F) (hf : f < 0) (ht : t < 0) (w : World) (hin : In ad w L) : Calls Try.prog 4 #[.slice ad L.length cap, .int .i64 f, .int .i64 t] w fun e w' => e = .returned (.bool true) ∧ Below w.heap.size w w' := by
  have HI := Lib.hid hin
  have hl2 : ¬ (200 : Int) < (L.length : Int) := by omega
  have HR := Lib.hid fun w h => right_in ad cap L (by omega) w h
  rw [hok] at HR
  clear hin hok
  have HS := Lib.hid fun B b ad' cap' w (h : IsL B b ad' cap' w L) => slice_yes B b ad' cap' L f t F n hF hT hn (by omega) w h
  have HP := Lib.hid fun w (h : In ad w L) => in_slice h hn
  have hMl : ((L.drop F).take n).length = n := by rw [List.length_take, List.length_drop]; omega
  have HP0 : Hid (n = 0 → ((L.drop F).take n) = []) := fun e => by subst e; simp
  generalize (L.drop F).take n = M at *
  unfold placed at hF hT
  rw [if_pos hf] at hF
  rw [if_pos ht] at hT
  obtain rfl : n = 0 := by omega
  obtain rfl : M = [] := HP0.out rfl
  clear HP
  clear HP0
  simp only [Nat.add_zero] at *
  subst hc
  have HF := Lib.hid hF
  clear hF
  have HT := Lib.hid hT
  clear hT
  go_enter Try.func4, Try.ntmps4
  go_wp2_with fail
  refine (keeps_any _).mono ?_
  rintro e w1 ⟨rfl, hb1⟩
  have HZ := Lib.hid hb1
  clear hb1
  go_wp2_with fail
  refine (HR.out _ (in_below HI.out HZ.out)).mono ?_
  rintro e w2 ⟨rfl, hb⟩
  have hz := HZ.out.trans (hb.mono HZ.out.size)
  clear HZ
  have HZ := Lib.hid hz
  clear hz hb
  go_wp2_with fail
  refine (new_any ad cap L w2 (by omega) (in_src (in_below HI.out HZ.out))).mono ?_
  rintro e w4 ⟨b, ad1, cap1, rfl, hL, hb⟩
  have hz := HZ.out.trans (hb.mono HZ.out.size)
  clear HZ
  have HZ := Lib.hid hz
  have HL := Lib.hid hL
  clear hz hb hL
  go_wp2_with fail
  refine (HS.out _ _ _ _ _ HL.out).mono ?_
  rintro e w5 ⟨b', ad', cap', rfl, hC, hb⟩
  have hz := HZ.out.trans (hb.mono HZ.out.size)
  have hlb := lt_of_block HL.out.blk
  have hlr : ∀ g, ad1.map (·.block) = some g → g < w4.heap.size := fun g e => by obtain ⟨_, hc⟩ := own_block HL.out.own g e; exact lt_of_block hc
  have hL := isL_below HL.out hb
  have hs4 := HZ.out.size
  clear HZ HL
  have HZ := Lib.hid hz
  have HL := Lib.hid hL
  have HC := Lib.hid hC
  clear hz hb hL hC
  have hF := HF.out
  have hT := HT.out
  go_wp2_with fail
  clear hF
  clear hT
  refine (same_in' w4.heap.size b' ad' _ cap' _ 0 [] rfl (by omega) w5 HC.out (Or.inl rfl)).mono ?_
  rintro e w6 ⟨rfl, hb⟩
  have hz := HZ.out.trans (hb.mono HZ.out.size)
  have hL := isL_below HL.out hb
  have hC := isL_below HC.out hb
  clear HZ HL HC
  have HZ := Lib.hid hz
  have HL := Lib.hid hL
  have HC := Lib.hid hC
  clear hz hb hL hC
  go_wp2_with fail
  refine (int_any 1 w6).mono ?_
  rintro e w7 ⟨rfl, hb0⟩
  have hb : Below w6.heap.size w6 (w7.alloc (.cells (flat [E1]).toArray 30)) := hb0.alloc hb0.size _
  have hz := HZ.out.trans (hb.mono HZ.out.size)
  have hL := isL_below HL.out hb
  have hC := isL_below HC.out hb
  have hlow := hC.low
  have hrow := own_low hC.own
  have hs7 : w4.heap.size ≤ (w7.alloc (.cells (flat [E1]).toArray 30)).heap.size := by have := lt_of_block hC.blk; omega
  clear HZ HL HC hb0
  have HZ := Lib.hid hz
  have HL := Lib.hid hL
  have HC := Lib.hid hC
  have HSZ := Lib.hid hs7
  clear hz hb hL hC hs7
  go_wp2_with fail
  refine (push_any w4.heap.size b' ad' ⟨w7.heap.size, 0, none⟩ cap' 1 [] [E1] (by simp) (w7.alloc (.cells (flat [E1]).toArray 30)) HSZ.out HC.out (lit_src [E1])).mono ?_
  rintro e w8 ⟨rfl, hN⟩
  have hz := now_low HZ.out (Nat.le_refl _) (isL_mono HC.out hs4) (now_mono hs4 hN)
  obtain ⟨ad2, cap2, hC2, hu, _⟩ := hN
  have hL := isL_upd HL.out HC.out hu (by omega) (fun g e1 e2 => by have := hlr g e1; have := hrow g e2; omega)
  have hrow2 := own_low hC2.own
  clear HZ HL HC HSZ
  have HZ := Lib.hid hz
  have HL := Lib.hid hL
  have HC := Lib.hid hC2
  clear hz hL hC2 hu
  go_wp2_with fail
  refine (reverse_some w4.heap.size b' ad2 cap2 ([] ++ [E1]) (by simp) w8 HC.out).mono ?_
  rintro e w9 ⟨rfl, hu⟩
  have hz := upd_below HZ.out hu (by omega) (fun g e => by have := hrow2 g e; omega) HZ.out.size (Nat.le_refl _)
  have hL := isL_upd HL.out HC.out hu (by omega) (fun g e1 e2 => by have := hlr g e1; have := hrow2 g e2; omega)
  clear HZ HL HC
  have HZ := Lib.hid hz
  have HL := Lib.hid hL
  clear hz hL hu
  go_wp2_with fail
  refine (same_in _ b ad1 ad cap1 cap L (by omega) w9 HL.out (in_below HI.out HZ.out)).mono ?_
  rintro e w10 ⟨rfl, hb⟩
  have hz := HZ.out.trans (hb.mono HZ.out.size)
  clear HZ
  have HZ := Lib.hid hz
  clear hz hb
  go_wp2_with fail
  go_ret
  exact ⟨rfl, HZ.out⟩

set_option maxRecDepth 100000 in
set_option maxHeartbeats 16000000 in
theorem slices_yes110 (ad : Option Addr) (cap : Nat) (L : List (Int × Int × ByteArray)) (f t : Int) (hl : L.length ≤ 200) (hok : okR L = true) (hcap : L.length ≤ cap) (F n : Nat) (hF : placed f L.length = F) (hT : placed t L.length = ((F + n : Nat) : Int)) (hn : F + n ≤ L.length) (hc : cap = F) (hf : f < 0) (ht : ¬ t < 0) (w : World) (hin : In ad w L) : Calls Try.prog 4 #[.slice ad L.length cap, .int .i64 f, .int .i64 t] w fun e w' => e = .returned (.bool true) ∧ Below w.heap.size w w' := by
  have HI := Lib.hid hin
  have hl2 : ¬ (200 : Int) < (L.length : Int) := by omega
  have HR := Lib.hid fun w h => right_in ad cap L (by omega) w h
  rw [hok] at HR
  clear hin hok
  have HS := Lib.hid fun B b ad' cap' w (h : IsL B b ad' cap' w L) => slice_yes B b ad' cap' L f t F n hF hT hn (by omega) w h
  have HP := Lib.hid fun w (h : In ad w L) => in_slice h hn
  have hMl : ((L.drop F).take n).length = n := by rw [List.length_take, List.length_drop]; omega
  have HP0 : Hid (n = 0 → ((L.drop F).take n) = []) := fun e => by subst e; simp
  generalize (L.drop F).take n = M at *
  unfold placed at hF hT
  rw [if_pos hf] at hF
  rw [if_neg ht] at hT
  obtain rfl : n = 0 := by omega
  obtain rfl : M = [] := HP0.out rfl
  clear HP
  clear HP0
  simp only [Nat.add_zero] at *
  subst hc
  have HF := Lib.hid hF
  clear hF
  subst hT
  go_enter Try.func4, Try.ntmps4
  go_wp2_with fail
  refine (keeps_any _).mono ?_
  rintro e w1 ⟨rfl, hb1⟩
  have HZ := Lib.hid hb1
  clear hb1
  go_wp2_with fail
  refine (HR.out _ (in_below HI.out HZ.out)).mono ?_
  rintro e w2 ⟨rfl, hb⟩
  have hz := HZ.out.trans (hb.mono HZ.out.size)
  clear HZ
  have HZ := Lib.hid hz
  clear hz hb
  go_wp2_with fail
  refine (new_any ad cap L w2 (by omega) (in_src (in_below HI.out HZ.out))).mono ?_
  rintro e w4 ⟨b, ad1, cap1, rfl, hL, hb⟩
  have hz := HZ.out.trans (hb.mono HZ.out.size)
  clear HZ
  have HZ := Lib.hid hz
  have HL := Lib.hid hL
  clear hz hb hL
  go_wp2_with fail
  refine (HS.out _ _ _ _ _ HL.out).mono ?_
  rintro e w5 ⟨b', ad', cap', rfl, hC, hb⟩
  have hz := HZ.out.trans (hb.mono HZ.out.size)
  have hlb := lt_of_block HL.out.blk
  have hlr : ∀ g, ad1.map (·.block) = some g → g < w4.heap.size := fun g e => by obtain ⟨_, hc⟩ := own_block HL.out.own g e; exact lt_of_block hc
  have hL := isL_below HL.out hb
  have hs4 := HZ.out.size
  clear HZ HL
  have HZ := Lib.hid hz
  have HL := Lib.hid hL
  have HC := Lib.hid hC
  clear hz hb hL hC
  have hF := HF.out
  go_wp2_with fail
  clear hF
  refine (same_in' w4.heap.size b' ad' _ cap' _ 0 [] rfl (by omega) w5 HC.out (Or.inl rfl)).mono ?_
  rintro e w6 ⟨rfl, hb⟩
  have hz := HZ.out.trans (hb.mono HZ.out.size)
  have hL := isL_below HL.out hb
  have hC := isL_below HC.out hb
  clear HZ HL HC
  have HZ := Lib.hid hz
  have HL := Lib.hid hL
  have HC := Lib.hid hC
  clear hz hb hL hC
  go_wp2_with fail
  refine (int_any 1 w6).mono ?_
  rintro e w7 ⟨rfl, hb0⟩
  have hb : Below w6.heap.size w6 (w7.alloc (.cells (flat [E1]).toArray 30)) := hb0.alloc hb0.size _
  have hz := HZ.out.trans (hb.mono HZ.out.size)
  have hL := isL_below HL.out hb
  have hC := isL_below HC.out hb
  have hlow := hC.low
  have hrow := own_low hC.own
  have hs7 : w4.heap.size ≤ (w7.alloc (.cells (flat [E1]).toArray 30)).heap.size := by have := lt_of_block hC.blk; omega
  clear HZ HL HC hb0
  have HZ := Lib.hid hz
  have HL := Lib.hid hL
  have HC := Lib.hid hC
  have HSZ := Lib.hid hs7
  clear hz hb hL hC hs7
  go_wp2_with fail
  refine (push_any w4.heap.size b' ad' ⟨w7.heap.size, 0, none⟩ cap' 1 [] [E1] (by simp) (w7.alloc (.cells (flat [E1]).toArray 30)) HSZ.out HC.out (lit_src [E1])).mono ?_
  rintro e w8 ⟨rfl, hN⟩
  have hz := now_low HZ.out (Nat.le_refl _) (isL_mono HC.out hs4) (now_mono hs4 hN)
  obtain ⟨ad2, cap2, hC2, hu, _⟩ := hN
  have hL := isL_upd HL.out HC.out hu (by omega) (fun g e1 e2 => by have := hlr g e1; have := hrow g e2; omega)
  have hrow2 := own_low hC2.own
  clear HZ HL HC HSZ
  have HZ := Lib.hid hz
  have HL := Lib.hid hL
  have HC := Lib.hid hC2
  clear hz hL hC2 hu
  go_wp2_with fail
  refine (reverse_some w4.heap.size b' ad2 cap2 ([] ++ [E1]) (by simp) w8 HC.out).mono ?_
  rintro e w9 ⟨rfl, hu⟩
  have hz := upd_below HZ.out hu (by omega) (fun g e => by have := hrow2 g e; omega) HZ.out.size (Nat.le_refl _)
  have hL := isL_upd HL.out HC.out hu (by omega) (fun g e1 e2 => by have := hlr g e1; have := hrow2 g e2; omega)
  clear HZ HL HC
  have HZ := Lib.hid hz
  have HL := Lib.hid hL
  clear hz hL hu
  go_wp2_with fail
  refine (same_in _ b ad1 ad cap1 cap L (by omega) w9 HL.out (in_below HI.out HZ.out)).mono ?_
  rintro e w10 ⟨rfl, hb⟩
  have hz := HZ.out.trans (hb.mono HZ.out.size)
  clear HZ
  have HZ := Lib.hid hz
  clear hz hb
  go_wp2_with fail
  go_ret
  exact ⟨rfl, HZ.out⟩

set_option maxRecDepth 100000 in
set_option maxHeartbeats 16000000 in
theorem slices_yes101 (ad : Option Addr) (cap : Nat) (L : List (Int × Int × ByteArray)) (f t : Int) (hl : L.length ≤ 200) (hok : okR L = true) (hcap : L.length ≤ cap) (F n : Nat) (hF : placed f L.length = F) (hT : placed t L.length = ((F + n : Nat) : Int)) (hn : F + n ≤ L.length) (hc : cap = F) (hf : ¬ f < 0) (ht : t < 0) (w : World) (hin : In ad w L) : Calls Try.prog 4 #[.slice ad L.length cap, .int .i64 f, .int .i64 t] w fun e w' => e = .returned (.bool true) ∧ Below w.heap.size w w' := by
  have HI := Lib.hid hin
  have hl2 : ¬ (200 : Int) < (L.length : Int) := by omega
  have HR := Lib.hid fun w h => right_in ad cap L (by omega) w h
  rw [hok] at HR
  clear hin hok
  have HS := Lib.hid fun B b ad' cap' w (h : IsL B b ad' cap' w L) => slice_yes B b ad' cap' L f t F n hF hT hn (by omega) w h
  have HP := Lib.hid fun w (h : In ad w L) => in_slice h hn
  have hMl : ((L.drop F).take n).length = n := by rw [List.length_take, List.length_drop]; omega
  have HP0 : Hid (n = 0 → ((L.drop F).take n) = []) := fun e => by subst e; simp
  generalize (L.drop F).take n = M at *
  unfold placed at hF hT
  rw [if_neg hf] at hF
  rw [if_pos ht] at hT
  obtain rfl : n = 0 := by omega
  obtain rfl : M = [] := HP0.out rfl
  clear HP
  clear HP0
  simp only [Nat.add_zero] at *
  subst hc
  have HT := Lib.hid hT
  clear hT
  subst hF
  go_enter Try.func4, Try.ntmps4
  go_wp2_with fail
  refine (keeps_any _).mono ?_
  rintro e w1 ⟨rfl, hb1⟩
  have HZ := Lib.hid hb1
  clear hb1
  go_wp2_with fail
  refine (HR.out _ (in_below HI.out HZ.out)).mono ?_
  rintro e w2 ⟨rfl, hb⟩
  have hz := HZ.out.trans (hb.mono HZ.out.size)
  clear HZ
  have HZ := Lib.hid hz
  clear hz hb
  go_wp2_with fail
  refine (new_any ad cap L w2 (by omega) (in_src (in_below HI.out HZ.out))).mono ?_
  rintro e w4 ⟨b, ad1, cap1, rfl, hL, hb⟩
  have hz := HZ.out.trans (hb.mono HZ.out.size)
  clear HZ
  have HZ := Lib.hid hz
  have HL := Lib.hid hL
  clear hz hb hL
  go_wp2_with fail
  refine (HS.out _ _ _ _ _ HL.out).mono ?_
  rintro e w5 ⟨b', ad', cap', rfl, hC, hb⟩
  have hz := HZ.out.trans (hb.mono HZ.out.size)
  have hlb := lt_of_block HL.out.blk
  have hlr : ∀ g, ad1.map (·.block) = some g → g < w4.heap.size := fun g e => by obtain ⟨_, hc⟩ := own_block HL.out.own g e; exact lt_of_block hc
  have hL := isL_below HL.out hb
  have hs4 := HZ.out.size
  clear HZ HL
  have HZ := Lib.hid hz
  have HL := Lib.hid hL
  have HC := Lib.hid hC
  clear hz hb hL hC
  have hT := HT.out
  go_wp2_with fail
  clear hT
  refine (same_in' w4.heap.size b' ad' _ cap' _ 0 [] rfl (by omega) w5 HC.out (Or.inl rfl)).mono ?_
  rintro e w6 ⟨rfl, hb⟩
  have hz := HZ.out.trans (hb.mono HZ.out.size)
  have hL := isL_below HL.out hb
  have hC := isL_below HC.out hb
  clear HZ HL HC
  have HZ := Lib.hid hz
  have HL := Lib.hid hL
  have HC := Lib.hid hC
  clear hz hb hL hC
  go_wp2_with fail
  refine (int_any 1 w6).mono ?_
  rintro e w7 ⟨rfl, hb0⟩
  have hb : Below w6.heap.size w6 (w7.alloc (.cells (flat [E1]).toArray 30)) := hb0.alloc hb0.size _
  have hz := HZ.out.trans (hb.mono HZ.out.size)
  have hL := isL_below HL.out hb
  have hC := isL_below HC.out hb
  have hlow := hC.low
  have hrow := own_low hC.own
  have hs7 : w4.heap.size ≤ (w7.alloc (.cells (flat [E1]).toArray 30)).heap.size := by have := lt_of_block hC.blk; omega
  clear HZ HL HC hb0
  have HZ := Lib.hid hz
  have HL := Lib.hid hL
  have HC := Lib.hid hC
  have HSZ := Lib.hid hs7
  clear hz hb hL hC hs7
  go_wp2_with fail
  refine (push_any w4.heap.size b' ad' ⟨w7.heap.size, 0, none⟩ cap' 1 [] [E1] (by simp) (w7.alloc (.cells (flat [E1]).toArray 30)) HSZ.out HC.out (lit_src [E1])).mono ?_
  rintro e w8 ⟨rfl, hN⟩
  have hz := now_low HZ.out (Nat.le_refl _) (isL_mono HC.out hs4) (now_mono hs4 hN)
  obtain ⟨ad2, cap2, hC2, hu, _⟩ := hN
  have hL := isL_upd HL.out HC.out hu (by omega) (fun g e1 e2 => by have := hlr g e1; have := hrow g e2; omega)
  have hrow2 := own_low hC2.own
  clear HZ HL HC HSZ
  have HZ := Lib.hid hz
  have HL := Lib.hid hL
  have HC := Lib.hid hC2
  clear hz hL hC2 hu
  go_wp2_with fail
  refine (reverse_some w4.heap.size b' ad2 cap2 ([] ++ [E1]) (by simp) w8 HC.out).mono ?_
  rintro e w9 ⟨rfl, hu⟩
  have hz := upd_below HZ.out hu (by omega) (fun g e => by have := hrow2 g e; omega) HZ.out.size (Nat.le_refl _)
  have hL := isL_upd HL.out HC.out hu (by omega) (fun g e1 e2 => by have := hlr g e1; have := hrow2 g e2; omega)
  clear HZ HL HC
  have HZ := Lib.hid hz
  have HL := Lib.hid hL
  clear hz hL hu
  go_wp2_with fail
  refine (same_in _ b ad1 ad cap1 cap L (by omega) w9 HL.out (in_below HI.out HZ.out)).mono ?_
  rintro e w10 ⟨rfl, hb⟩
  have hz := HZ.out.trans (hb.mono HZ.out.size)
  clear HZ
  have HZ := Lib.hid hz
  clear hz hb
  go_wp2_with fail
  go_ret
  exact ⟨rfl, HZ.out⟩

set_option maxRecDepth 100000 in
set_option maxHeartbeats 16000000 in
theorem slices_yes100 (ad : Option Addr) (cap : Nat) (L : List (Int × Int × ByteArray)) (f t : Int) (hl : L.length ≤ 200) (hok : okR L = true) (hcap : L.length ≤ cap) (F n : Nat) (hF : placed f L.length = F) (hT : placed t L.length = ((F + n : Nat) : Int)) (hn : F + n ≤ L.length) (hc : cap = F) (hf : ¬ f < 0) (ht : ¬ t < 0) (w : World) (hin : In ad w L) : Calls Try.prog 4 #[.slice ad L.length cap, .int .i64 f, .int .i64 t] w fun e w' => e = .returned (.bool true) ∧ Below w.heap.size w w' := by
  have HI := Lib.hid hin
  have hl2 : ¬ (200 : Int) < (L.length : Int) := by omega
  have HR := Lib.hid fun w h => right_in ad cap L (by omega) w h
  rw [hok] at HR
  clear hin hok
  have HS := Lib.hid fun B b ad' cap' w (h : IsL B b ad' cap' w L) => slice_yes B b ad' cap' L f t F n hF hT hn (by omega) w h
  have HP := Lib.hid fun w (h : In ad w L) => in_slice h hn
  have hMl : ((L.drop F).take n).length = n := by rw [List.length_take, List.length_drop]; omega
  have HP0 : Hid (n = 0 → ((L.drop F).take n) = []) := fun e => by subst e; simp
  generalize (L.drop F).take n = M at *
  unfold placed at hF hT
  rw [if_neg hf] at hF
  rw [if_neg ht] at hT
  obtain rfl : n = 0 := by omega
  obtain rfl : M = [] := HP0.out rfl
  clear HP
  clear HP0
  simp only [Nat.add_zero] at *
  subst hc
  subst hF
  subst hT
  go_enter Try.func4, Try.ntmps4
  go_wp2_with fail
  refine (keeps_any _).mono ?_
  rintro e w1 ⟨rfl, hb1⟩
  have HZ := Lib.hid hb1
  clear hb1
  go_wp2_with fail
  refine (HR.out _ (in_below HI.out HZ.out)).mono ?_
  rintro e w2 ⟨rfl, hb⟩
  have hz := HZ.out.trans (hb.mono HZ.out.size)
  clear HZ
  have HZ := Lib.hid hz
  clear hz hb
  go_wp2_with fail
  refine (new_any ad cap L w2 (by omega) (in_src (in_below HI.out HZ.out))).mono ?_
  rintro e w4 ⟨b, ad1, cap1, rfl, hL, hb⟩
  have hz := HZ.out.trans (hb.mono HZ.out.size)
  clear HZ
  have HZ := Lib.hid hz
  have HL := Lib.hid hL
  clear hz hb hL
  go_wp2_with fail
  refine (HS.out _ _ _ _ _ HL.out).mono ?_
  rintro e w5 ⟨b', ad', cap', rfl, hC, hb⟩
  have hz := HZ.out.trans (hb.mono HZ.out.size)
  have hlb := lt_of_block HL.out.blk
  have hlr : ∀ g, ad1.map (·.block) = some g → g < w4.heap.size := fun g e => by obtain ⟨_, hc⟩ := own_block HL.out.own g e; exact lt_of_block hc
  have hL := isL_below HL.out hb
  have hs4 := HZ.out.size
  clear HZ HL
  have HZ := Lib.hid hz
  have HL := Lib.hid hL
  have HC := Lib.hid hC
  clear hz hb hL hC
  go_wp2_with fail
  refine (same_in' w4.heap.size b' ad' _ cap' _ 0 [] rfl (by omega) w5 HC.out (Or.inl rfl)).mono ?_
  rintro e w6 ⟨rfl, hb⟩
  have hz := HZ.out.trans (hb.mono HZ.out.size)
  have hL := isL_below HL.out hb
  have hC := isL_below HC.out hb
  clear HZ HL HC
  have HZ := Lib.hid hz
  have HL := Lib.hid hL
  have HC := Lib.hid hC
  clear hz hb hL hC
  go_wp2_with fail
  refine (int_any 1 w6).mono ?_
  rintro e w7 ⟨rfl, hb0⟩
  have hb : Below w6.heap.size w6 (w7.alloc (.cells (flat [E1]).toArray 30)) := hb0.alloc hb0.size _
  have hz := HZ.out.trans (hb.mono HZ.out.size)
  have hL := isL_below HL.out hb
  have hC := isL_below HC.out hb
  have hlow := hC.low
  have hrow := own_low hC.own
  have hs7 : w4.heap.size ≤ (w7.alloc (.cells (flat [E1]).toArray 30)).heap.size := by have := lt_of_block hC.blk; omega
  clear HZ HL HC hb0
  have HZ := Lib.hid hz
  have HL := Lib.hid hL
  have HC := Lib.hid hC
  have HSZ := Lib.hid hs7
  clear hz hb hL hC hs7
  go_wp2_with fail
  refine (push_any w4.heap.size b' ad' ⟨w7.heap.size, 0, none⟩ cap' 1 [] [E1] (by simp) (w7.alloc (.cells (flat [E1]).toArray 30)) HSZ.out HC.out (lit_src [E1])).mono ?_
  rintro e w8 ⟨rfl, hN⟩
  have hz := now_low HZ.out (Nat.le_refl _) (isL_mono HC.out hs4) (now_mono hs4 hN)
  obtain ⟨ad2, cap2, hC2, hu, _⟩ := hN
  have hL := isL_upd HL.out HC.out hu (by omega) (fun g e1 e2 => by have := hlr g e1; have := hrow g e2; omega)
  have hrow2 := own_low hC2.own
  clear HZ HL HC HSZ
  have HZ := Lib.hid hz
  have HL := Lib.hid hL
  have HC := Lib.hid hC2
  clear hz hL hC2 hu
  go_wp2_with fail
  refine (reverse_some w4.heap.size b' ad2 cap2 ([] ++ [E1]) (by simp) w8 HC.out).mono ?_
  rintro e w9 ⟨rfl, hu⟩
  have hz := upd_below HZ.out hu (by omega) (fun g e => by have := hrow2 g e; omega) HZ.out.size (Nat.le_refl _)
  have hL := isL_upd HL.out HC.out hu (by omega) (fun g e1 e2 => by have := hlr g e1; have := hrow2 g e2; omega)
  clear HZ HL HC
  have HZ := Lib.hid hz
  have HL := Lib.hid hL
  clear hz hL hu
  go_wp2_with fail
  refine (same_in _ b ad1 ad cap1 cap L (by omega) w9 HL.out (in_below HI.out HZ.out)).mono ?_
  rintro e w10 ⟨rfl, hb⟩
  have hz := HZ.out.trans (hb.mono HZ.out.size)
  clear HZ
  have HZ := Lib.hid hz
  clear hz hb
  go_wp2_with fail
  go_ret
  exact ⟨rfl, HZ.out⟩

set_option maxRecDepth 100000 in
set_option maxHeartbeats 16000000 in
theorem slices_yes011 (ad : Option Addr) (cap : Nat) (L : List (Int × Int × ByteArray)) (f t : Int) (hl : L.length ≤ 200) (hok : okR L = true) (hcap : L.length ≤ cap) (F n : Nat) (hF : placed f L.length = F) (hT : placed t L.length = ((F + n : Nat) : Int)) (hn : F + n ≤ L.length) (hc : ¬ cap = F) (hf : f < 0) (ht : t < 0) (w : World) (hin : In ad w L) : Calls Try.prog 4 #[.slice ad L.length cap, .int .i64 f, .int .i64 t] w fun e w' => e = .returned (.bool true) ∧ Below w.heap.size w w' := by
  have HI := Lib.hid hin
  have hl2 : ¬ (200 : Int) < (L.length : Int) := by omega
  have HR := Lib.hid fun w h => right_in ad cap L (by omega) w h
  rw [hok] at HR
  clear hin hok
  have HS := Lib.hid fun B b ad' cap' w (h : IsL B b ad' cap' w L) => slice_yes B b ad' cap' L f t F n hF hT hn (by omega) w h
  have HP := Lib.hid fun w (h : In ad w L) => in_slice h hn
  have hMl : ((L.drop F).take n).length = n := by rw [List.length_take, List.length_drop]; omega
  have HP0 : Hid (n = 0 → ((L.drop F).take n) = []) := fun e => by subst e; simp
  generalize (L.drop F).take n = M at *
  unfold placed at hF hT
  rw [if_pos hf] at hF
  rw [if_pos ht] at hT
  clear HP0
  have HNC := Lib.hid hc
  clear hc
  have HF := Lib.hid hF
  clear hF
  have HT := Lib.hid hT
  clear hT
  go_enter Try.func4, Try.ntmps4
  go_wp2_with fail
  refine (keeps_any _).mono ?_
  rintro e w1 ⟨rfl, hb1⟩
  have HZ := Lib.hid hb1
  clear hb1
  go_wp2_with fail
  refine (HR.out _ (in_below HI.out HZ.out)).mono ?_
  rintro e w2 ⟨rfl, hb⟩
  have hz := HZ.out.trans (hb.mono HZ.out.size)
  clear HZ
  have HZ := Lib.hid hz
  clear hz hb
  go_wp2_with fail
  refine (new_any ad cap L w2 (by omega) (in_src (in_below HI.out HZ.out))).mono ?_
  rintro e w4 ⟨b, ad1, cap1, rfl, hL, hb⟩
  have hz := HZ.out.trans (hb.mono HZ.out.size)
  clear HZ
  have HZ := Lib.hid hz
  have HL := Lib.hid hL
  clear hz hb hL
  go_wp2_with fail
  refine (HS.out _ _ _ _ _ HL.out).mono ?_
  rintro e w5 ⟨b', ad', cap', rfl, hC, hb⟩
  have hz := HZ.out.trans (hb.mono HZ.out.size)
  have hlb := lt_of_block HL.out.blk
  have hlr : ∀ g, ad1.map (·.block) = some g → g < w4.heap.size := fun g e => by obtain ⟨_, hc⟩ := own_block HL.out.own g e; exact lt_of_block hc
  have hL := isL_below HL.out hb
  have hs4 := HZ.out.size
  clear HZ HL
  have HZ := Lib.hid hz
  have HL := Lib.hid hL
  have HC := Lib.hid hC
  clear hz hb hL hC
  have hc := HNC.out
  have hF := HF.out
  have hT := HT.out
  go_wp2_with fail
  clear hc
  clear hF
  clear hT
  refine (same_in' w4.heap.size b' ad' _ cap' _ n M hMl (by omega) w5 HC.out (HP.out _ (in_below HI.out HZ.out))).mono ?_
  rintro e w6 ⟨rfl, hb⟩
  have hz := HZ.out.trans (hb.mono HZ.out.size)
  have hL := isL_below HL.out hb
  have hC := isL_below HC.out hb
  clear HZ HL HC
  have HZ := Lib.hid hz
  have HL := Lib.hid hL
  have HC := Lib.hid hC
  clear hz hb hL hC
  go_wp2_with fail
  refine (int_any 1 w6).mono ?_
  rintro e w7 ⟨rfl, hb0⟩
  have hb : Below w6.heap.size w6 (w7.alloc (.cells (flat [E1]).toArray 30)) := hb0.alloc hb0.size _
  have hz := HZ.out.trans (hb.mono HZ.out.size)
  have hL := isL_below HL.out hb
  have hC := isL_below HC.out hb
  have hlow := hC.low
  have hrow := own_low hC.own
  have hs7 : w4.heap.size ≤ (w7.alloc (.cells (flat [E1]).toArray 30)).heap.size := by have := lt_of_block hC.blk; omega
  clear HZ HL HC hb0
  have HZ := Lib.hid hz
  have HL := Lib.hid hL
  have HC := Lib.hid hC
  have HSZ := Lib.hid hs7
  clear hz hb hL hC hs7
  go_wp2_with fail
  refine (push_any w4.heap.size b' ad' ⟨w7.heap.size, 0, none⟩ cap' 1 M [E1] (by simp; omega) (w7.alloc (.cells (flat [E1]).toArray 30)) HSZ.out HC.out (lit_src [E1])).mono ?_
  rintro e w8 ⟨rfl, hN⟩
  have hz := now_low HZ.out (Nat.le_refl _) (isL_mono HC.out hs4) (now_mono hs4 hN)
  obtain ⟨ad2, cap2, hC2, hu, _⟩ := hN
  have hL := isL_upd HL.out HC.out hu (by omega) (fun g e1 e2 => by have := hlr g e1; have := hrow g e2; omega)
  have hrow2 := own_low hC2.own
  clear HZ HL HC HSZ
  have HZ := Lib.hid hz
  have HL := Lib.hid hL
  have HC := Lib.hid hC2
  clear hz hL hC2 hu
  go_wp2_with fail
  refine (reverse_some w4.heap.size b' ad2 cap2 (M ++ [E1]) (by simp; omega) w8 HC.out).mono ?_
  rintro e w9 ⟨rfl, hu⟩
  have hz := upd_below HZ.out hu (by omega) (fun g e => by have := hrow2 g e; omega) HZ.out.size (Nat.le_refl _)
  have hL := isL_upd HL.out HC.out hu (by omega) (fun g e1 e2 => by have := hlr g e1; have := hrow2 g e2; omega)
  clear HZ HL HC
  have HZ := Lib.hid hz
  have HL := Lib.hid hL
  clear hz hL hu
  go_wp2_with fail
  refine (same_in _ b ad1 ad cap1 cap L (by omega) w9 HL.out (in_below HI.out HZ.out)).mono ?_
  rintro e w10 ⟨rfl, hb⟩
  have hz := HZ.out.trans (hb.mono HZ.out.size)
  clear HZ
  have HZ := Lib.hid hz
  clear hz hb
  go_wp2_with fail
  go_ret
  exact ⟨rfl, HZ.out⟩

set_option maxRecDepth 100000 in
set_option maxHeartbeats 16000000 in
theorem slices_yes010 (ad : Option Addr) (cap : Nat) (L : List (Int × Int × ByteArray)) (f t : Int) (hl : L.length ≤ 200) (hok : okR L = true) (hcap : L.length ≤ cap) (F n : Nat) (hF : placed f L.length = F) (hT : placed t L.length = ((F + n : Nat) : Int)) (hn : F + n ≤ L.length) (hc : ¬ cap = F) (hf : f < 0) (ht : ¬ t < 0) (w : World) (hin : In ad w L) : Calls Try.prog 4 #[.slice ad L.length cap, .int .i64 f, .int .i64 t] w fun e w' => e = .returned (.bool true) ∧ Below w.heap.size w w' := by
  have HI := Lib.hid hin
  have hl2 : ¬ (200 : Int) < (L.length : Int) := by omega
  have HR := Lib.hid fun w h => right_in ad cap L (by omega) w h
  rw [hok] at HR
  clear hin hok
  have HS := Lib.hid fun B b ad' cap' w (h : IsL B b ad' cap' w L) => slice_yes B b ad' cap' L f t F n hF hT hn (by omega) w h
  have HP := Lib.hid fun w (h : In ad w L) => in_slice h hn
  have hMl : ((L.drop F).take n).length = n := by rw [List.length_take, List.length_drop]; omega
  have HP0 : Hid (n = 0 → ((L.drop F).take n) = []) := fun e => by subst e; simp
  generalize (L.drop F).take n = M at *
  unfold placed at hF hT
  rw [if_pos hf] at hF
  rw [if_neg ht] at hT
  clear HP0
  have HNC := Lib.hid hc
  clear hc
  have HF := Lib.hid hF
  clear hF
  subst hT
  go_enter Try.func4, Try.ntmps4
  go_wp2_with fail
  refine (keeps_any _).mono ?_
  rintro e w1 ⟨rfl, hb1⟩
  have HZ := Lib.hid hb1
  clear hb1
  go_wp2_with fail
  refine (HR.out _ (in_below HI.out HZ.out)).mono ?_
  rintro e w2 ⟨rfl, hb⟩
  have hz := HZ.out.trans (hb.mono HZ.out.size)
  clear HZ
  have HZ := Lib.hid hz
  clear hz hb
  go_wp2_with fail
  refine (new_any ad cap L w2 (by omega) (in_src (in_below HI.out HZ.out))).mono ?_
  rintro e w4 ⟨b, ad1, cap1, rfl, hL, hb⟩
  have hz := HZ.out.trans (hb.mono HZ.out.size)
  clear HZ
  have HZ := Lib.hid hz
  have HL := Lib.hid hL
  clear hz hb hL
  go_wp2_with fail
  refine (HS.out _ _ _ _ _ HL.out).mono ?_
  rintro e w5 ⟨b', ad', cap', rfl, hC, hb⟩
  have hz := HZ.out.trans (hb.mono HZ.out.size)
  have hlb := lt_of_block HL.out.blk
  have hlr : ∀ g, ad1.map (·.block) = some g → g < w4.heap.size := fun g e => by obtain ⟨_, hc⟩ := own_block HL.out.own g e; exact lt_of_block hc
  have hL := isL_below HL.out hb
  have hs4 := HZ.out.size
  clear HZ HL
  have HZ := Lib.hid hz
  have HL := Lib.hid hL
  have HC := Lib.hid hC
  clear hz hb hL hC
  have hc := HNC.out
  have hF := HF.out
  go_wp2_with fail
  clear hc
  clear hF
  refine (same_in' w4.heap.size b' ad' _ cap' _ n M hMl (by omega) w5 HC.out (HP.out _ (in_below HI.out HZ.out))).mono ?_
  rintro e w6 ⟨rfl, hb⟩
  have hz := HZ.out.trans (hb.mono HZ.out.size)
  have hL := isL_below HL.out hb
  have hC := isL_below HC.out hb
  clear HZ HL HC
  have HZ := Lib.hid hz
  have HL := Lib.hid hL
  have HC := Lib.hid hC
  clear hz hb hL hC
  go_wp2_with fail
  refine (int_any 1 w6).mono ?_
  rintro e w7 ⟨rfl, hb0⟩
  have hb : Below w6.heap.size w6 (w7.alloc (.cells (flat [E1]).toArray 30)) := hb0.alloc hb0.size _
  have hz := HZ.out.trans (hb.mono HZ.out.size)
  have hL := isL_below HL.out hb
  have hC := isL_below HC.out hb
  have hlow := hC.low
  have hrow := own_low hC.own
  have hs7 : w4.heap.size ≤ (w7.alloc (.cells (flat [E1]).toArray 30)).heap.size := by have := lt_of_block hC.blk; omega
  clear HZ HL HC hb0
  have HZ := Lib.hid hz
  have HL := Lib.hid hL
  have HC := Lib.hid hC
  have HSZ := Lib.hid hs7
  clear hz hb hL hC hs7
  go_wp2_with fail
  refine (push_any w4.heap.size b' ad' ⟨w7.heap.size, 0, none⟩ cap' 1 M [E1] (by simp; omega) (w7.alloc (.cells (flat [E1]).toArray 30)) HSZ.out HC.out (lit_src [E1])).mono ?_
  rintro e w8 ⟨rfl, hN⟩
  have hz := now_low HZ.out (Nat.le_refl _) (isL_mono HC.out hs4) (now_mono hs4 hN)
  obtain ⟨ad2, cap2, hC2, hu, _⟩ := hN
  have hL := isL_upd HL.out HC.out hu (by omega) (fun g e1 e2 => by have := hlr g e1; have := hrow g e2; omega)
  have hrow2 := own_low hC2.own
  clear HZ HL HC HSZ
  have HZ := Lib.hid hz
  have HL := Lib.hid hL
  have HC := Lib.hid hC2
  clear hz hL hC2 hu
  go_wp2_with fail
  refine (reverse_some w4.heap.size b' ad2 cap2 (M ++ [E1]) (by simp; omega) w8 HC.out).mono ?_
  rintro e w9 ⟨rfl, hu⟩
  have hz := upd_below HZ.out hu (by omega) (fun g e => by have := hrow2 g e; omega) HZ.out.size (Nat.le_refl _)
  have hL := isL_upd HL.out HC.out hu (by omega) (fun g e1 e2 => by have := hlr g e1; have := hrow2 g e2; omega)
  clear HZ HL HC
  have HZ := Lib.hid hz
  have HL := Lib.hid hL
  clear hz hL hu
  go_wp2_with fail
  refine (same_in _ b ad1 ad cap1 cap L (by omega) w9 HL.out (in_below HI.out HZ.out)).mono ?_
  rintro e w10 ⟨rfl, hb⟩
  have hz := HZ.out.trans (hb.mono HZ.out.size)
  clear HZ
  have HZ := Lib.hid hz
  clear hz hb
  go_wp2_with fail
  go_ret
  exact ⟨rfl, HZ.out⟩

set_option maxRecDepth 100000 in
set_option maxHeartbeats 16000000 in
theorem slices_yes001 (ad : Option Addr) (cap : Nat) (L : List (Int × Int × ByteArray)) (f t : Int) (hl : L.length ≤ 200) (hok : okR L = true) (hcap : L.length ≤ cap) (F n : Nat) (hF : placed f L.length = F) (hT : placed t L.length = ((F + n : Nat) : Int)) (hn : F + n ≤ L.length) (hc : ¬ cap = F) (hf : ¬ f < 0) (ht : t < 0) (w : World) (hin : In ad w L) : Calls Try.prog 4 #[.slice ad L.length cap, .int .i64 f, .int .i64 t] w fun e w' => e = .returned (.bool true) ∧ Below w.heap.size w w' := by
  have HI := Lib.hid hin
  have hl2 : ¬ (200 : Int) < (L.length : Int) := by omega
  have HR := Lib.hid fun w h => right_in ad cap L (by omega) w h
  rw [hok] at HR
  clear hin hok
  have HS := Lib.hid fun B b ad' cap' w (h : IsL B b ad' cap' w L) => slice_yes B b ad' cap' L f t F n hF hT hn (by omega) w h
  have HP := Lib.hid fun w (h : In ad w L) => in_slice h hn
  have hMl : ((L.drop F).take n).length = n := by rw [List.length_take, List.length_drop]; omega
  have HP0 : Hid (n = 0 → ((L.drop F).take n) = []) := fun e => by subst e; simp
  generalize (L.drop F).take n = M at *
  unfold placed at hF hT
  rw [if_neg hf] at hF
  rw [if_pos ht] at hT
  clear HP0
  have HNC := Lib.hid hc
  clear hc
  have HT := Lib.hid hT
  clear hT
  subst hF
  go_enter Try.func4, Try.ntmps4
  go_wp2_with fail
  refine (keeps_any _).mono ?_
  rintro e w1 ⟨rfl, hb1⟩
  have HZ := Lib.hid hb1
  clear hb1
  go_wp2_with fail
  refine (HR.out _ (in_below HI.out HZ.out)).mono ?_
  rintro e w2 ⟨rfl, hb⟩
  have hz := HZ.out.trans (hb.mono HZ.out.size)
  clear HZ
  have HZ := Lib.hid hz
  clear hz hb
  go_wp2_with fail
  refine (new_any ad cap L w2 (by omega) (in_src (in_below HI.out HZ.out))).mono ?_
  rintro e w4 ⟨b, ad1, cap1, rfl, hL, hb⟩
  have hz := HZ.out.trans (hb.mono HZ.out.size)
  clear HZ
  have HZ := Lib.hid hz
  have HL := Lib.hid hL
  clear hz hb hL
  go_wp2_with fail
  refine (HS.out _ _ _ _ _ HL.out).mono ?_
  rintro e w5 ⟨b', ad', cap', rfl, hC, hb⟩
  have hz := HZ.out.trans (hb.mono HZ.out.size)
  have hlb := lt_of_block HL.out.blk
  have hlr : ∀ g, ad1.map (·.block) = some g → g < w4.heap.size := fun g e => by obtain ⟨_, hc⟩ := own_block HL.out.own g e; exact lt_of_block hc
  have hL := isL_below HL.out hb
  have hs4 := HZ.out.size
  clear HZ HL
  have HZ := Lib.hid hz
  have HL := Lib.hid hL
  have HC := Lib.hid hC
  clear hz hb hL hC
  have hc := HNC.out
  have hT := HT.out
  go_wp2_with fail
  clear hc
  clear hT
  refine (same_in' w4.heap.size b' ad' _ cap' _ n M hMl (by omega) w5 HC.out (HP.out _ (in_below HI.out HZ.out))).mono ?_
  rintro e w6 ⟨rfl, hb⟩
  have hz := HZ.out.trans (hb.mono HZ.out.size)
  have hL := isL_below HL.out hb
  have hC := isL_below HC.out hb
  clear HZ HL HC
  have HZ := Lib.hid hz
  have HL := Lib.hid hL
  have HC := Lib.hid hC
  clear hz hb hL hC
  go_wp2_with fail
  refine (int_any 1 w6).mono ?_
  rintro e w7 ⟨rfl, hb0⟩
  have hb : Below w6.heap.size w6 (w7.alloc (.cells (flat [E1]).toArray 30)) := hb0.alloc hb0.size _
  have hz := HZ.out.trans (hb.mono HZ.out.size)
  have hL := isL_below HL.out hb
  have hC := isL_below HC.out hb
  have hlow := hC.low
  have hrow := own_low hC.own
  have hs7 : w4.heap.size ≤ (w7.alloc (.cells (flat [E1]).toArray 30)).heap.size := by have := lt_of_block hC.blk; omega
  clear HZ HL HC hb0
  have HZ := Lib.hid hz
  have HL := Lib.hid hL
  have HC := Lib.hid hC
  have HSZ := Lib.hid hs7
  clear hz hb hL hC hs7
  go_wp2_with fail
  refine (push_any w4.heap.size b' ad' ⟨w7.heap.size, 0, none⟩ cap' 1 M [E1] (by simp; omega) (w7.alloc (.cells (flat [E1]).toArray 30)) HSZ.out HC.out (lit_src [E1])).mono ?_
  rintro e w8 ⟨rfl, hN⟩
  have hz := now_low HZ.out (Nat.le_refl _) (isL_mono HC.out hs4) (now_mono hs4 hN)
  obtain ⟨ad2, cap2, hC2, hu, _⟩ := hN
  have hL := isL_upd HL.out HC.out hu (by omega) (fun g e1 e2 => by have := hlr g e1; have := hrow g e2; omega)
  have hrow2 := own_low hC2.own
  clear HZ HL HC HSZ
  have HZ := Lib.hid hz
  have HL := Lib.hid hL
  have HC := Lib.hid hC2
  clear hz hL hC2 hu
  go_wp2_with fail
  refine (reverse_some w4.heap.size b' ad2 cap2 (M ++ [E1]) (by simp; omega) w8 HC.out).mono ?_
  rintro e w9 ⟨rfl, hu⟩
  have hz := upd_below HZ.out hu (by omega) (fun g e => by have := hrow2 g e; omega) HZ.out.size (Nat.le_refl _)
  have hL := isL_upd HL.out HC.out hu (by omega) (fun g e1 e2 => by have := hlr g e1; have := hrow2 g e2; omega)
  clear HZ HL HC
  have HZ := Lib.hid hz
  have HL := Lib.hid hL
  clear hz hL hu
  go_wp2_with fail
  refine (same_in _ b ad1 ad cap1 cap L (by omega) w9 HL.out (in_below HI.out HZ.out)).mono ?_
  rintro e w10 ⟨rfl, hb⟩
  have hz := HZ.out.trans (hb.mono HZ.out.size)
  clear HZ
  have HZ := Lib.hid hz
  clear hz hb
  go_wp2_with fail
  go_ret
  exact ⟨rfl, HZ.out⟩

set_option maxRecDepth 100000 in
set_option maxHeartbeats 16000000 in
theorem slices_yes000 (ad : Option Addr) (cap : Nat) (L : List (Int × Int × ByteArray)) (f t : Int) (hl : L.length ≤ 200) (hok : okR L = true) (hcap : L.length ≤ cap) (F n : Nat) (hF : placed f L.length = F) (hT : placed t L.length = ((F + n : Nat) : Int)) (hn : F + n ≤ L.length) (hc : ¬ cap = F) (hf : ¬ f < 0) (ht : ¬ t < 0) (w : World) (hin : In ad w L) : Calls Try.prog 4 #[.slice ad L.length cap, .int .i64 f, .int .i64 t] w fun e w' => e = .returned (.bool true) ∧ Below w.heap.size w w' := by
  have HI := Lib.hid hin
  have hl2 : ¬ (200 : Int) < (L.length : Int) := by omega
  have HR := Lib.hid fun w h => right_in ad cap L (by omega) w h
  rw [hok] at HR
  clear hin hok
  have HS := Lib.hid fun B b ad' cap' w (h : IsL B b ad' cap' w L) => slice_yes B b ad' cap' L f t F n hF hT hn (by omega) w h
  have HP := Lib.hid fun w (h : In ad w L) => in_slice h hn
  have hMl : ((L.drop F).take n).length = n := by rw [List.length_take, List.length_drop]; omega
  have HP0 : Hid (n = 0 → ((L.drop F).take n) = []) := fun e => by subst e; simp
  generalize (L.drop F).take n = M at *
  unfold placed at hF hT
  rw [if_neg hf] at hF
  rw [if_neg ht] at hT
  clear HP0
  have HNC := Lib.hid hc
  clear hc
  subst hF
  subst hT
  go_enter Try.func4, Try.ntmps4
  go_wp2_with fail
  refine (keeps_any _).mono ?_
  rintro e w1 ⟨rfl, hb1⟩
  have HZ := Lib.hid hb1
  clear hb1
  go_wp2_with fail
  refine (HR.out _ (in_below HI.out HZ.out)).mono ?_
  rintro e w2 ⟨rfl, hb⟩
  have hz := HZ.out.trans (hb.mono HZ.out.size)
  clear HZ
  have HZ := Lib.hid hz
  clear hz hb
  go_wp2_with fail
  refine (new_any ad cap L w2 (by omega) (in_src (in_below HI.out HZ.out))).mono ?_
  rintro e w4 ⟨b, ad1, cap1, rfl, hL, hb⟩
  have hz := HZ.out.trans (hb.mono HZ.out.size)
  clear HZ
  have HZ := Lib.hid hz
  have HL := Lib.hid hL
  clear hz hb hL
  go_wp2_with fail
  refine (HS.out _ _ _ _ _ HL.out).mono ?_
  rintro e w5 ⟨b', ad', cap', rfl, hC, hb⟩
  have hz := HZ.out.trans (hb.mono HZ.out.size)
  have hlb := lt_of_block HL.out.blk
  have hlr : ∀ g, ad1.map (·.block) = some g → g < w4.heap.size := fun g e => by obtain ⟨_, hc⟩ := own_block HL.out.own g e; exact lt_of_block hc
  have hL := isL_below HL.out hb
  have hs4 := HZ.out.size
  clear HZ HL
  have HZ := Lib.hid hz
  have HL := Lib.hid hL
  have HC := Lib.hid hC
  clear hz hb hL hC
  have hc := HNC.out
  go_wp2_with fail
  clear hc
  refine (same_in' w4.heap.size b' ad' _ cap' _ n M hMl (by omega) w5 HC.out (HP.out _ (in_below HI.out HZ.out))).mono ?_
  rintro e w6 ⟨rfl, hb⟩
  have hz := HZ.out.trans (hb.mono HZ.out.size)
  have hL := isL_below HL.out hb
  have hC := isL_below HC.out hb
  clear HZ HL HC
  have HZ := Lib.hid hz
  have HL := Lib.hid hL
  have HC := Lib.hid hC
  clear hz hb hL hC
  go_wp2_with fail
  refine (int_any 1 w6).mono ?_
  rintro e w7 ⟨rfl, hb0⟩
  have hb : Below w6.heap.size w6 (w7.alloc (.cells (flat [E1]).toArray 30)) := hb0.alloc hb0.size _
  have hz := HZ.out.trans (hb.mono HZ.out.size)
  have hL := isL_below HL.out hb
  have hC := isL_below HC.out hb
  have hlow := hC.low
  have hrow := own_low hC.own
  have hs7 : w4.heap.size ≤ (w7.alloc (.cells (flat [E1]).toArray 30)).heap.size := by have := lt_of_block hC.blk; omega
  clear HZ HL HC hb0
  have HZ := Lib.hid hz
  have HL := Lib.hid hL
  have HC := Lib.hid hC
  have HSZ := Lib.hid hs7
  clear hz hb hL hC hs7
  go_wp2_with fail
  refine (push_any w4.heap.size b' ad' ⟨w7.heap.size, 0, none⟩ cap' 1 M [E1] (by simp; omega) (w7.alloc (.cells (flat [E1]).toArray 30)) HSZ.out HC.out (lit_src [E1])).mono ?_
  rintro e w8 ⟨rfl, hN⟩
  have hz := now_low HZ.out (Nat.le_refl _) (isL_mono HC.out hs4) (now_mono hs4 hN)
  obtain ⟨ad2, cap2, hC2, hu, _⟩ := hN
  have hL := isL_upd HL.out HC.out hu (by omega) (fun g e1 e2 => by have := hlr g e1; have := hrow g e2; omega)
  have hrow2 := own_low hC2.own
  clear HZ HL HC HSZ
  have HZ := Lib.hid hz
  have HL := Lib.hid hL
  have HC := Lib.hid hC2
  clear hz hL hC2 hu
  go_wp2_with fail
  refine (reverse_some w4.heap.size b' ad2 cap2 (M ++ [E1]) (by simp; omega) w8 HC.out).mono ?_
  rintro e w9 ⟨rfl, hu⟩
  have hz := upd_below HZ.out hu (by omega) (fun g e => by have := hrow2 g e; omega) HZ.out.size (Nat.le_refl _)
  have hL := isL_upd HL.out HC.out hu (by omega) (fun g e1 e2 => by have := hlr g e1; have := hrow2 g e2; omega)
  clear HZ HL HC
  have HZ := Lib.hid hz
  have HL := Lib.hid hL
  clear hz hL hu
  go_wp2_with fail
  refine (same_in _ b ad1 ad cap1 cap L (by omega) w9 HL.out (in_below HI.out HZ.out)).mono ?_
  rintro e w10 ⟨rfl, hb⟩
  have hz := HZ.out.trans (hb.mono HZ.out.size)
  clear HZ
  have HZ := Lib.hid hz
  clear hz hb
  go_wp2_with fail
  go_ret
  exact ⟨rfl, HZ.out⟩

theorem slices_yes (ad : Option Addr) (cap : Nat) (L : List (Int × Int × ByteArray)) (f t : Int) (hl : L.length ≤ 200) (hok : okR L = true) (hcap : L.length ≤ cap) (F n : Nat) (hF : placed f L.length = F) (hT : placed t L.length = ((F + n : Nat) : Int)) (hn : F + n ≤ L.length) (w : World) (hin : In ad w L) : Calls Try.prog 4 #[.slice ad L.length cap, .int .i64 f, .int .i64 t] w fun e w' => e = .returned (.bool true) ∧ Below w.heap.size w w' := by
  by_cases hc : cap = F <;> by_cases hf : f < 0 <;> by_cases ht : t < 0
  · exact slices_yes111 ad cap L f t hl hok hcap F n hF hT hn hc hf ht w hin
  · exact slices_yes110 ad cap L f t hl hok hcap F n hF hT hn hc hf ht w hin
  · exact slices_yes101 ad cap L f t hl hok hcap F n hF hT hn hc hf ht w hin
  · exact slices_yes100 ad cap L f t hl hok hcap F n hF hT hn hc hf ht w hin
  · exact slices_yes011 ad cap L f t hl hok hcap F n hF hT hn hc hf ht w hin
  · exact slices_yes010 ad cap L f t hl hok hcap F n hF hT hn hc hf ht w hin
  · exact slices_yes001 ad cap L f t hl hok hcap F n hF hT hn hc hf ht w hin
  · exact slices_yes000 ad cap L f t hl hok hcap F n hF hT hn hc hf ht w hin
theorem listSlices_in (ad : Option Addr) (len cap : Nat) (L : List (Int × Int × ByteArray)) (hlen : len = L.length) (hcap : len ≤ cap) (f t : Int) (w : World) (hin : In ad w L) :
    Calls Try.prog 4 #[.slice ad len cap, .int .i64 f, .int .i64 t] w fun e w' => e = .returned (.bool true) ∧ Below w.heap.size w w' := by
  subst hlen
  by_cases hl : L.length ≤ 200
  · cases hok : okR L
    · exact slices_off ad cap L f t hl hok w hin
    · by_cases hx : placed f L.length < 0 ∨ placed t L.length < placed f L.length ∨ (L.length : Int) < placed t L.length
      · exact slices_no ad cap L f t hl hok hx w hin
      · exact slices_yes ad cap L f t hl hok hcap (placed f L.length).toNat (placed t L.length - placed f L.length).toNat (by omega) (by omega) (by omega) w hin
  · exact slices_long ad cap L f t (by omega) w
theorem listSlices_walk (ad : Option Addr) (len cap : Nat) (K N : Nat → Int) (S : Nat → ByteArray) (_ : len ≤ maxLen) (_ : ∀ i, i < len → (Lit.int .i64 (K i)).wf = true ∧ (Lit.int .i64 (N i)).wf = true) (f : Int) (_ : (Lit.int .i64 f).wf = true) (t : Int) (_ : (Lit.int .i64 t).wf = true) (w : World)
    (h : len = 0 ∨ ∃ g off, ad = some ⟨g, off, none⟩ ∧ g < w.heap.size ∧ Vals w g off len K N S) (hcap : len ≤ cap) :
    Calls Try.prog 4 #[.slice ad len cap, .int .i64 f, .int .i64 t] w fun e w' => e = .returned (.bool true) ∧ Below w.heap.size w w' := by
  obtain ⟨L, hl, hi⟩ := vals_in h
  exact listSlices_in ad len cap L hl hcap f t w hi
end Go.Proofs.Ytajdpggelpgjnaa.Li
