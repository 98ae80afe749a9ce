/- 'ListGreat': the walk. -/
import Derived.Test.YtajdpggelpgjnaaList14
namespace Go.Proofs.Ytajdpggelpgjnaa.Li
open Go.RowKit Go.ChangeShapes Go.WideShapes Go.ChangeAt Go.Proofs.Ytajdpggelpgjnaa.Va

def EZ : Int × Int × ByteArray := (0, 0, ⟨#[]⟩)
theorem more_src {w : World} {g : Nat} {M : List (Int × Int × ByteArray)} (h : w.heap[g]? = some (.cells (flat (EZ :: M)).toArray 30)) : ∀ j u, (flat M)[j]? = some u → w.cell? ((⟨g, 3, none⟩ : Addr).add j) = some u := by
  intro j u hj
  rw [Go.WideShapes.add_plain]
  simp only [World.cell?, h]
  rw [flat_cons]
  show (cel EZ ++ flat M).toArray[3 + j]? = some u
  rw [List.getElem?_toArray, List.getElem?_append_right (by simp [cel]), ← hj]
  congr 1
  simp [cel]
theorem push_nil (B b : Nat) (ad : Option Addr) (a : Addr) (cap cap2 : Nat) (L : List (Int × Int × ByteArray)) (hm : L.length ≤ 1048576) (w : World) (hB : B ≤ w.heap.size) (h : IsL B b ad cap w L) :
    Calls Try.prog 11 #[.pointer (some ⟨b, 0, none⟩), .slice (some a) 0 cap2] w fun e w' => e = .returned (.int .i64 0) ∧ Now B b ad w w' L := by
  have h1 := push_any B b ad a cap cap2 L [] (by simpa using hm) w hB h (fun j u hj => by simp [flat] at hj)
  rw [List.append_nil, List.length_nil] at h1
  exact h1
theorem make_0 (w : World) : (Instr.makeSlice 25 (.int .i64 1) (.int .i64 1)).run Try.prog w = .ok (.slice (some ⟨w.heap.size, 0, none⟩) 1 1) (w.alloc (.cells #[.int .i64 0, .int .i64 0, .string ⟨#[]⟩] 30)) := by kernel_rfl
theorem make_1 (w : World) : (Instr.makeSlice 25 (.int .i64 2) (.int .i64 2)).run Try.prog w = .ok (.slice (some ⟨w.heap.size, 0, none⟩) 2 2) (w.alloc (.cells #[.int .i64 0, .int .i64 0, .string ⟨#[]⟩, .int .i64 0, .int .i64 0, .string ⟨#[]⟩] 30)) := by kernel_rfl
theorem make_2 (w : World) : (Instr.makeSlice 25 (.int .i64 3) (.int .i64 3)).run Try.prog w = .ok (.slice (some ⟨w.heap.size, 0, none⟩) 3 3) (w.alloc (.cells #[.int .i64 0, .int .i64 0, .string ⟨#[]⟩, .int .i64 0, .int .i64 0, .string ⟨#[]⟩, .int .i64 0, .int .i64 0, .string ⟨#[]⟩] 30)) := by kernel_rfl
theorem make_3 (w : World) : (Instr.makeSlice 25 (.int .i64 4) (.int .i64 4)).run Try.prog w = .ok (.slice (some ⟨w.heap.size, 0, none⟩) 4 4) (w.alloc (.cells #[.int .i64 0, .int .i64 0, .string ⟨#[]⟩, .int .i64 0, .int .i64 0, .string ⟨#[]⟩, .int .i64 0, .int .i64 0, .string ⟨#[]⟩, .int .i64 0, .int .i64 0, .string ⟨#[]⟩] 30)) := by kernel_rfl
set_option maxRecDepth 100000 in
set_option maxHeartbeats 4000000 in
theorem great_off (l : Int) (h : l < 0 ∨ 3 < l) (w : World) : Calls Try.prog 6 #[.int .i64 l] w fun e w' => e = .returned (.bool true) ∧ Below w.heap.size w w' := by
  have h' : l < 0 ∨ (¬ l < 0 ∧ 3 < l) := by omega
  clear h
  rcases h' with h1 | ⟨h1, h2⟩
  all_goals
    go_enter Try.func6, Try.ntmps6
    go_wp2_with fail
    refine (keeps_any _).mono ?_
    rintro e w1 ⟨rfl, hb1⟩
    have HZ := Lib.hid hb1
    clear hb1
    go_wp2_with fail
    go_ret
    exact ⟨rfl, HZ.out⟩
set_option maxRecDepth 100000 in
set_option maxHeartbeats 16000000 in
theorem great_0 (w : World) : Calls Try.prog 6 #[.int .i64 0] w fun e w' => e = .returned (.bool true) ∧ Below w.heap.size w w' := by
  go_enter Try.func6, Try.ntmps6
  go_wp2_with fail
  refine (keeps_any _).mono ?_
  rintro e w1 ⟨rfl, hb1⟩
  have HZ := Lib.hid hb1
  clear hb1
  go_wp2_with fail
  refine (new_any none 0 [] w1 (by simp) (Or.inl rfl)).mono ?_
  rintro e w2 ⟨b, ad, cap, rfl, hL, hb⟩
  have hz := HZ.out.trans (hb.mono HZ.out.size)
  have hL := isL_mono (B' := w.heap.size) hL HZ.out.size
  clear HZ
  have HZ := Lib.hid hz
  have HL := Lib.hid hL
  clear hz hL hb
  go_wp2_with fail
  refine (int_any 7 w2).mono ?_
  rintro e w3 ⟨rfl, hb⟩
  have hz := HZ.out.trans (hb.mono HZ.out.size)
  have hL := isL_below HL.out hb
  clear HZ HL
  have HZ := Lib.hid hz
  have HL := Lib.hid hL
  clear hz hL hb
  go_wp2_with fail
  refine (resize_up w.heap.size b ad cap [] 2 7 ⟨#[]⟩ 1048576 (by decide) (by decide) w3 HZ.out.size HL.out).mono ?_
  rintro e w4 ⟨rfl, hN⟩
  have hz := now_low HZ.out (Nat.le_refl _) HL.out hN
  obtain ⟨ad1, cap1, hL, _, _⟩ := hN
  have hlen : ([] ++ List.replicate (1048576 - ([] : List (Int × Int × ByteArray)).length) ((2, 7, ⟨#[]⟩) : Int × Int × ByteArray)).length = 1048576 := by rw [List.nil_append, List.length_replicate]; rfl
  generalize ([] ++ List.replicate (1048576 - ([] : List (Int × Int × ByteArray)).length) ((2, 7, ⟨#[]⟩) : Int × Int × ByteArray)) = M at *
  clear HZ HL
  have HZ := Lib.hid hz
  have HL := Lib.hid hL
  have HM := Lib.hid hlen
  clear hz hL hlen
  go_wp2_with fail
  refine (len_any w.heap.size b ad1 cap1 M w4 HL.out).mono ?_
  rintro e _ ⟨rfl, rfl⟩
  rw [HM.out]
  have mk := make_0 w4
  go_wp2_with fail
  clear mk
  have hE : Below w4.heap.size w4 (w4.alloc (.cells #[.int .i64 0, .int .i64 0, .string ⟨#[]⟩] 30)) := (Below.refl _ _).alloc (Nat.le_refl _) _
  have hz := HZ.out.trans (hE.mono HZ.out.size)
  have hL := isL_below HL.out hE
  have HG : Hid ((w4.alloc (.cells #[.int .i64 0, .int .i64 0, .string ⟨#[]⟩] 30)).heap[w4.heap.size]? = some (.cells #[.int .i64 0, .int .i64 0, .string ⟨#[]⟩] 30)) := heap_alloc_new w4 _
  clear HZ HL
  have HZ := Lib.hid hz
  have HL := Lib.hid hL
  clear hz hL hE
  generalize hw5 : w4.alloc (.cells #[.int .i64 0, .int .i64 0, .string ⟨#[]⟩] 30) = w5 at *
  clear hw5
  refine (push_no w.heap.size b ad1 _ cap1 1 1 M (by have := HM.out; omega) (by decide) (by have := HM.out; omega) w5 HL.out).mono ?_
  rintro e _ ⟨rfl, rfl⟩
  go_wp2_with fail
  refine (len_any w.heap.size b ad1 cap1 M w5 HL.out).mono ?_
  rintro e _ ⟨rfl, rfl⟩
  rw [HM.out]
  go_wp2_with fail
  refine (null_any w5).mono ?_
  rintro e w6 ⟨rfl, hb⟩
  have hz := HZ.out.trans (hb.mono HZ.out.size)
  have hL := isL_below HL.out hb
  have hG := keep HG.out hb
  clear HZ HL HG
  have HZ := Lib.hid hz
  have HL := Lib.hid hL
  have HG := Lib.hid hG
  clear hz hL hb hG
  go_wp2_with fail
  refine (resize_long (some ⟨b, 0, none⟩) 0 0 ⟨#[]⟩ 1048577 (by decide) w6).mono ?_
  rintro e w7 ⟨rfl, hb⟩
  have hz := HZ.out.trans (hb.mono HZ.out.size)
  have hL := isL_below HL.out hb
  have hG := keep HG.out hb
  clear HZ HL HG
  have HZ := Lib.hid hz
  have HL := Lib.hid hL
  have HG := Lib.hid hG
  clear hz hL hb hG
  go_wp2_with fail
  refine (push_nil w.heap.size b ad1 _ cap1 _ M (Nat.le_of_eq HM.out) w7 HZ.out.size HL.out).mono ?_
  rintro e w8 ⟨rfl, hN⟩
  have hz := now_low HZ.out (Nat.le_refl _) HL.out hN
  obtain ⟨ad2, cap2, hL, _, _⟩ := hN
  have hlen := HM.out
  generalize M = M2 at *
  clear HZ HL HG
  have HZ := Lib.hid hz
  have HL := Lib.hid hL
  have HM2 := Lib.hid hlen
  clear hz hL hlen
  go_wp2_with fail
  refine (len_any w.heap.size b ad2 cap2 M2 w8 HL.out).mono ?_
  rintro e _ ⟨rfl, rfl⟩
  rw [HM2.out]
  go_wp2_with fail
  refine (null_any w8).mono ?_
  rintro e w9 ⟨rfl, hb⟩
  have hz := HZ.out.trans (hb.mono HZ.out.size)
  have hL := isL_below HL.out hb
  clear HZ HL
  have HZ := Lib.hid hz
  have HL := Lib.hid hL
  clear hz hL hb
  go_wp2_with fail
  refine (insert_no w.heap.size b ad2 cap2 M2 0 0 ⟨#[]⟩ 0 (by decide) (by have := HM2.out; omega) (by have := HM2.out; omega) (by have := HM2.out; omega) w9 HL.out).mono ?_
  rintro e w10 ⟨rfl, hb⟩
  have hz := HZ.out.trans (hb.mono HZ.out.size)
  have hL := isL_below HL.out hb
  clear HZ HL
  have HZ := Lib.hid hz
  have HL := Lib.hid hL
  clear hz hL hb
  go_wp2_with fail
  refine (len_any w.heap.size b ad2 cap2 M2 w10 HL.out).mono ?_
  rintro e _ ⟨rfl, rfl⟩
  rw [HM2.out]
  go_wp2_with fail
  go_ret
  exact ⟨rfl, HZ.out⟩
set_option maxRecDepth 100000 in
set_option maxHeartbeats 16000000 in
theorem great_1 (w : World) : Calls Try.prog 6 #[.int .i64 1] w fun e w' => e = .returned (.bool true) ∧ Below w.heap.size w w' := by
  go_enter Try.func6, Try.ntmps6
  go_wp2_with fail
  refine (keeps_any _).mono ?_
  rintro e w1 ⟨rfl, hb1⟩
  have HZ := Lib.hid hb1
  clear hb1
  go_wp2_with fail
  refine (new_any none 0 [] w1 (by simp) (Or.inl rfl)).mono ?_
  rintro e w2 ⟨b, ad, cap, rfl, hL, hb⟩
  have hz := HZ.out.trans (hb.mono HZ.out.size)
  have hL := isL_mono (B' := w.heap.size) hL HZ.out.size
  clear HZ
  have HZ := Lib.hid hz
  have HL := Lib.hid hL
  clear hz hL hb
  go_wp2_with fail
  refine (int_any 7 w2).mono ?_
  rintro e w3 ⟨rfl, hb⟩
  have hz := HZ.out.trans (hb.mono HZ.out.size)
  have hL := isL_below HL.out hb
  clear HZ HL
  have HZ := Lib.hid hz
  have HL := Lib.hid hL
  clear hz hL hb
  go_wp2_with fail
  refine (resize_up w.heap.size b ad cap [] 2 7 ⟨#[]⟩ 1048575 (by decide) (by decide) w3 HZ.out.size HL.out).mono ?_
  rintro e w4 ⟨rfl, hN⟩
  have hz := now_low HZ.out (Nat.le_refl _) HL.out hN
  obtain ⟨ad1, cap1, hL, _, _⟩ := hN
  have hlen : ([] ++ List.replicate (1048575 - ([] : List (Int × Int × ByteArray)).length) ((2, 7, ⟨#[]⟩) : Int × Int × ByteArray)).length = 1048575 := by rw [List.nil_append, List.length_replicate]; rfl
  generalize ([] ++ List.replicate (1048575 - ([] : List (Int × Int × ByteArray)).length) ((2, 7, ⟨#[]⟩) : Int × Int × ByteArray)) = M at *
  clear HZ HL
  have HZ := Lib.hid hz
  have HL := Lib.hid hL
  have HM := Lib.hid hlen
  clear hz hL hlen
  go_wp2_with fail
  refine (len_any w.heap.size b ad1 cap1 M w4 HL.out).mono ?_
  rintro e _ ⟨rfl, rfl⟩
  rw [HM.out]
  have mk := make_1 w4
  go_wp2_with fail
  clear mk
  have hE : Below w4.heap.size w4 (w4.alloc (.cells #[.int .i64 0, .int .i64 0, .string ⟨#[]⟩, .int .i64 0, .int .i64 0, .string ⟨#[]⟩] 30)) := (Below.refl _ _).alloc (Nat.le_refl _) _
  have hz := HZ.out.trans (hE.mono HZ.out.size)
  have hL := isL_below HL.out hE
  have HG : Hid ((w4.alloc (.cells #[.int .i64 0, .int .i64 0, .string ⟨#[]⟩, .int .i64 0, .int .i64 0, .string ⟨#[]⟩] 30)).heap[w4.heap.size]? = some (.cells #[.int .i64 0, .int .i64 0, .string ⟨#[]⟩, .int .i64 0, .int .i64 0, .string ⟨#[]⟩] 30)) := heap_alloc_new w4 _
  clear HZ HL
  have HZ := Lib.hid hz
  have HL := Lib.hid hL
  clear hz hL hE
  generalize hw5 : w4.alloc (.cells #[.int .i64 0, .int .i64 0, .string ⟨#[]⟩, .int .i64 0, .int .i64 0, .string ⟨#[]⟩] 30) = w5 at *
  clear hw5
  refine (push_no w.heap.size b ad1 _ cap1 2 2 M (by have := HM.out; omega) (by decide) (by have := HM.out; omega) w5 HL.out).mono ?_
  rintro e _ ⟨rfl, rfl⟩
  go_wp2_with fail
  refine (len_any w.heap.size b ad1 cap1 M w5 HL.out).mono ?_
  rintro e _ ⟨rfl, rfl⟩
  rw [HM.out]
  go_wp2_with fail
  refine (null_any w5).mono ?_
  rintro e w6 ⟨rfl, hb⟩
  have hz := HZ.out.trans (hb.mono HZ.out.size)
  have hL := isL_below HL.out hb
  have hG := keep HG.out hb
  clear HZ HL HG
  have HZ := Lib.hid hz
  have HL := Lib.hid hL
  have HG := Lib.hid hG
  clear hz hL hb hG
  go_wp2_with fail
  refine (resize_long (some ⟨b, 0, none⟩) 0 0 ⟨#[]⟩ 1048577 (by decide) w6).mono ?_
  rintro e w7 ⟨rfl, hb⟩
  have hz := HZ.out.trans (hb.mono HZ.out.size)
  have hL := isL_below HL.out hb
  have hG := keep HG.out hb
  clear HZ HL HG
  have HZ := Lib.hid hz
  have HL := Lib.hid hL
  have HG := Lib.hid hG
  clear hz hL hb hG
  go_wp2_with fail
  refine (push_any w.heap.size b ad1 _ cap1 _ M [EZ] (by have := HM.out; simp; omega) w7 HZ.out.size HL.out (more_src (M := [EZ]) HG.out)).mono ?_
  rintro e w8 ⟨rfl, hN⟩
  have hz := now_low HZ.out (Nat.le_refl _) HL.out hN
  obtain ⟨ad2, cap2, hL, _, _⟩ := hN
  have hlen : (M ++ [EZ]).length = 1048576 := by have := HM.out; simp; omega
  generalize M ++ [EZ] = M2 at *
  clear HZ HL HG
  have HZ := Lib.hid hz
  have HL := Lib.hid hL
  have HM2 := Lib.hid hlen
  clear hz hL hlen
  go_wp2_with fail
  refine (len_any w.heap.size b ad2 cap2 M2 w8 HL.out).mono ?_
  rintro e _ ⟨rfl, rfl⟩
  rw [HM2.out]
  go_wp2_with fail
  refine (null_any w8).mono ?_
  rintro e w9 ⟨rfl, hb⟩
  have hz := HZ.out.trans (hb.mono HZ.out.size)
  have hL := isL_below HL.out hb
  clear HZ HL
  have HZ := Lib.hid hz
  have HL := Lib.hid hL
  clear hz hL hb
  go_wp2_with fail
  refine (insert_no w.heap.size b ad2 cap2 M2 0 0 ⟨#[]⟩ 0 (by decide) (by have := HM2.out; omega) (by have := HM2.out; omega) (by have := HM2.out; omega) w9 HL.out).mono ?_
  rintro e w10 ⟨rfl, hb⟩
  have hz := HZ.out.trans (hb.mono HZ.out.size)
  have hL := isL_below HL.out hb
  clear HZ HL
  have HZ := Lib.hid hz
  have HL := Lib.hid hL
  clear hz hL hb
  go_wp2_with fail
  refine (len_any w.heap.size b ad2 cap2 M2 w10 HL.out).mono ?_
  rintro e _ ⟨rfl, rfl⟩
  rw [HM2.out]
  go_wp2_with fail
  go_ret
  exact ⟨rfl, HZ.out⟩
set_option maxRecDepth 100000 in
set_option maxHeartbeats 16000000 in
theorem great_2 (w : World) : Calls Try.prog 6 #[.int .i64 2] w fun e w' => e = .returned (.bool true) ∧ Below w.heap.size w w' := by
  go_enter Try.func6, Try.ntmps6
  go_wp2_with fail
  refine (keeps_any _).mono ?_
  rintro e w1 ⟨rfl, hb1⟩
  have HZ := Lib.hid hb1
  clear hb1
  go_wp2_with fail
  refine (new_any none 0 [] w1 (by simp) (Or.inl rfl)).mono ?_
  rintro e w2 ⟨b, ad, cap, rfl, hL, hb⟩
  have hz := HZ.out.trans (hb.mono HZ.out.size)
  have hL := isL_mono (B' := w.heap.size) hL HZ.out.size
  clear HZ
  have HZ := Lib.hid hz
  have HL := Lib.hid hL
  clear hz hL hb
  go_wp2_with fail
  refine (int_any 7 w2).mono ?_
  rintro e w3 ⟨rfl, hb⟩
  have hz := HZ.out.trans (hb.mono HZ.out.size)
  have hL := isL_below HL.out hb
  clear HZ HL
  have HZ := Lib.hid hz
  have HL := Lib.hid hL
  clear hz hL hb
  go_wp2_with fail
  refine (resize_up w.heap.size b ad cap [] 2 7 ⟨#[]⟩ 1048574 (by decide) (by decide) w3 HZ.out.size HL.out).mono ?_
  rintro e w4 ⟨rfl, hN⟩
  have hz := now_low HZ.out (Nat.le_refl _) HL.out hN
  obtain ⟨ad1, cap1, hL, _, _⟩ := hN
  have hlen : ([] ++ List.replicate (1048574 - ([] : List (Int × Int × ByteArray)).length) ((2, 7, ⟨#[]⟩) : Int × Int × ByteArray)).length = 1048574 := by rw [List.nil_append, List.length_replicate]; rfl
  generalize ([] ++ List.replicate (1048574 - ([] : List (Int × Int × ByteArray)).length) ((2, 7, ⟨#[]⟩) : Int × Int × ByteArray)) = M at *
  clear HZ HL
  have HZ := Lib.hid hz
  have HL := Lib.hid hL
  have HM := Lib.hid hlen
  clear hz hL hlen
  go_wp2_with fail
  refine (len_any w.heap.size b ad1 cap1 M w4 HL.out).mono ?_
  rintro e _ ⟨rfl, rfl⟩
  rw [HM.out]
  have mk := make_2 w4
  go_wp2_with fail
  clear mk
  have hE : Below w4.heap.size w4 (w4.alloc (.cells #[.int .i64 0, .int .i64 0, .string ⟨#[]⟩, .int .i64 0, .int .i64 0, .string ⟨#[]⟩, .int .i64 0, .int .i64 0, .string ⟨#[]⟩] 30)) := (Below.refl _ _).alloc (Nat.le_refl _) _
  have hz := HZ.out.trans (hE.mono HZ.out.size)
  have hL := isL_below HL.out hE
  have HG : Hid ((w4.alloc (.cells #[.int .i64 0, .int .i64 0, .string ⟨#[]⟩, .int .i64 0, .int .i64 0, .string ⟨#[]⟩, .int .i64 0, .int .i64 0, .string ⟨#[]⟩] 30)).heap[w4.heap.size]? = some (.cells #[.int .i64 0, .int .i64 0, .string ⟨#[]⟩, .int .i64 0, .int .i64 0, .string ⟨#[]⟩, .int .i64 0, .int .i64 0, .string ⟨#[]⟩] 30)) := heap_alloc_new w4 _
  clear HZ HL
  have HZ := Lib.hid hz
  have HL := Lib.hid hL
  clear hz hL hE
  generalize hw5 : w4.alloc (.cells #[.int .i64 0, .int .i64 0, .string ⟨#[]⟩, .int .i64 0, .int .i64 0, .string ⟨#[]⟩, .int .i64 0, .int .i64 0, .string ⟨#[]⟩] 30) = w5 at *
  clear hw5
  refine (push_no w.heap.size b ad1 _ cap1 3 3 M (by have := HM.out; omega) (by decide) (by have := HM.out; omega) w5 HL.out).mono ?_
  rintro e _ ⟨rfl, rfl⟩
  go_wp2_with fail
  refine (len_any w.heap.size b ad1 cap1 M w5 HL.out).mono ?_
  rintro e _ ⟨rfl, rfl⟩
  rw [HM.out]
  go_wp2_with fail
  refine (null_any w5).mono ?_
  rintro e w6 ⟨rfl, hb⟩
  have hz := HZ.out.trans (hb.mono HZ.out.size)
  have hL := isL_below HL.out hb
  have hG := keep HG.out hb
  clear HZ HL HG
  have HZ := Lib.hid hz
  have HL := Lib.hid hL
  have HG := Lib.hid hG
  clear hz hL hb hG
  go_wp2_with fail
  refine (resize_long (some ⟨b, 0, none⟩) 0 0 ⟨#[]⟩ 1048577 (by decide) w6).mono ?_
  rintro e w7 ⟨rfl, hb⟩
  have hz := HZ.out.trans (hb.mono HZ.out.size)
  have hL := isL_below HL.out hb
  have hG := keep HG.out hb
  clear HZ HL HG
  have HZ := Lib.hid hz
  have HL := Lib.hid hL
  have HG := Lib.hid hG
  clear hz hL hb hG
  go_wp2_with fail
  refine (push_any w.heap.size b ad1 _ cap1 _ M [EZ, EZ] (by have := HM.out; simp; omega) w7 HZ.out.size HL.out (more_src (M := [EZ, EZ]) HG.out)).mono ?_
  rintro e w8 ⟨rfl, hN⟩
  have hz := now_low HZ.out (Nat.le_refl _) HL.out hN
  obtain ⟨ad2, cap2, hL, _, _⟩ := hN
  have hlen : (M ++ [EZ, EZ]).length = 1048576 := by have := HM.out; simp; omega
  generalize M ++ [EZ, EZ] = M2 at *
  clear HZ HL HG
  have HZ := Lib.hid hz
  have HL := Lib.hid hL
  have HM2 := Lib.hid hlen
  clear hz hL hlen
  go_wp2_with fail
  refine (len_any w.heap.size b ad2 cap2 M2 w8 HL.out).mono ?_
  rintro e _ ⟨rfl, rfl⟩
  rw [HM2.out]
  go_wp2_with fail
  refine (null_any w8).mono ?_
  rintro e w9 ⟨rfl, hb⟩
  have hz := HZ.out.trans (hb.mono HZ.out.size)
  have hL := isL_below HL.out hb
  clear HZ HL
  have HZ := Lib.hid hz
  have HL := Lib.hid hL
  clear hz hL hb
  go_wp2_with fail
  refine (insert_no w.heap.size b ad2 cap2 M2 0 0 ⟨#[]⟩ 0 (by decide) (by have := HM2.out; omega) (by have := HM2.out; omega) (by have := HM2.out; omega) w9 HL.out).mono ?_
  rintro e w10 ⟨rfl, hb⟩
  have hz := HZ.out.trans (hb.mono HZ.out.size)
  have hL := isL_below HL.out hb
  clear HZ HL
  have HZ := Lib.hid hz
  have HL := Lib.hid hL
  clear hz hL hb
  go_wp2_with fail
  refine (len_any w.heap.size b ad2 cap2 M2 w10 HL.out).mono ?_
  rintro e _ ⟨rfl, rfl⟩
  rw [HM2.out]
  go_wp2_with fail
  go_ret
  exact ⟨rfl, HZ.out⟩
set_option maxRecDepth 100000 in
set_option maxHeartbeats 16000000 in
theorem great_3 (w : World) : Calls Try.prog 6 #[.int .i64 3] w fun e w' => e = .returned (.bool true) ∧ Below w.heap.size w w' := by
  go_enter Try.func6, Try.ntmps6
  go_wp2_with fail
  refine (keeps_any _).mono ?_
  rintro e w1 ⟨rfl, hb1⟩
  have HZ := Lib.hid hb1
  clear hb1
  go_wp2_with fail
  refine (new_any none 0 [] w1 (by simp) (Or.inl rfl)).mono ?_
  rintro e w2 ⟨b, ad, cap, rfl, hL, hb⟩
  have hz := HZ.out.trans (hb.mono HZ.out.size)
  have hL := isL_mono (B' := w.heap.size) hL HZ.out.size
  clear HZ
  have HZ := Lib.hid hz
  have HL := Lib.hid hL
  clear hz hL hb
  go_wp2_with fail
  refine (int_any 7 w2).mono ?_
  rintro e w3 ⟨rfl, hb⟩
  have hz := HZ.out.trans (hb.mono HZ.out.size)
  have hL := isL_below HL.out hb
  clear HZ HL
  have HZ := Lib.hid hz
  have HL := Lib.hid hL
  clear hz hL hb
  go_wp2_with fail
  refine (resize_up w.heap.size b ad cap [] 2 7 ⟨#[]⟩ 1048573 (by decide) (by decide) w3 HZ.out.size HL.out).mono ?_
  rintro e w4 ⟨rfl, hN⟩
  have hz := now_low HZ.out (Nat.le_refl _) HL.out hN
  obtain ⟨ad1, cap1, hL, _, _⟩ := hN
  have hlen : ([] ++ List.replicate (1048573 - ([] : List (Int × Int × ByteArray)).length) ((2, 7, ⟨#[]⟩) : Int × Int × ByteArray)).length = 1048573 := by rw [List.nil_append, List.length_replicate]; rfl
  generalize ([] ++ List.replicate (1048573 - ([] : List (Int × Int × ByteArray)).length) ((2, 7, ⟨#[]⟩) : Int × Int × ByteArray)) = M at *
  clear HZ HL
  have HZ := Lib.hid hz
  have HL := Lib.hid hL
  have HM := Lib.hid hlen
  clear hz hL hlen
  go_wp2_with fail
  refine (len_any w.heap.size b ad1 cap1 M w4 HL.out).mono ?_
  rintro e _ ⟨rfl, rfl⟩
  rw [HM.out]
  have mk := make_3 w4
  go_wp2_with fail
  clear mk
  have hE : Below w4.heap.size w4 (w4.alloc (.cells #[.int .i64 0, .int .i64 0, .string ⟨#[]⟩, .int .i64 0, .int .i64 0, .string ⟨#[]⟩, .int .i64 0, .int .i64 0, .string ⟨#[]⟩, .int .i64 0, .int .i64 0, .string ⟨#[]⟩] 30)) := (Below.refl _ _).alloc (Nat.le_refl _) _
  have hz := HZ.out.trans (hE.mono HZ.out.size)
  have hL := isL_below HL.out hE
  have HG : Hid ((w4.alloc (.cells #[.int .i64 0, .int .i64 0, .string ⟨#[]⟩, .int .i64 0, .int .i64 0, .string ⟨#[]⟩, .int .i64 0, .int .i64 0, .string ⟨#[]⟩, .int .i64 0, .int .i64 0, .string ⟨#[]⟩] 30)).heap[w4.heap.size]? = some (.cells #[.int .i64 0, .int .i64 0, .string ⟨#[]⟩, .int .i64 0, .int .i64 0, .string ⟨#[]⟩, .int .i64 0, .int .i64 0, .string ⟨#[]⟩, .int .i64 0, .int .i64 0, .string ⟨#[]⟩] 30)) := heap_alloc_new w4 _
  clear HZ HL
  have HZ := Lib.hid hz
  have HL := Lib.hid hL
  clear hz hL hE
  generalize hw5 : w4.alloc (.cells #[.int .i64 0, .int .i64 0, .string ⟨#[]⟩, .int .i64 0, .int .i64 0, .string ⟨#[]⟩, .int .i64 0, .int .i64 0, .string ⟨#[]⟩, .int .i64 0, .int .i64 0, .string ⟨#[]⟩] 30) = w5 at *
  clear hw5
  refine (push_no w.heap.size b ad1 _ cap1 4 4 M (by have := HM.out; omega) (by decide) (by have := HM.out; omega) w5 HL.out).mono ?_
  rintro e _ ⟨rfl, rfl⟩
  go_wp2_with fail
  refine (len_any w.heap.size b ad1 cap1 M w5 HL.out).mono ?_
  rintro e _ ⟨rfl, rfl⟩
  rw [HM.out]
  go_wp2_with fail
  refine (null_any w5).mono ?_
  rintro e w6 ⟨rfl, hb⟩
  have hz := HZ.out.trans (hb.mono HZ.out.size)
  have hL := isL_below HL.out hb
  have hG := keep HG.out hb
  clear HZ HL HG
  have HZ := Lib.hid hz
  have HL := Lib.hid hL
  have HG := Lib.hid hG
  clear hz hL hb hG
  go_wp2_with fail
  refine (resize_long (some ⟨b, 0, none⟩) 0 0 ⟨#[]⟩ 1048577 (by decide) w6).mono ?_
  rintro e w7 ⟨rfl, hb⟩
  have hz := HZ.out.trans (hb.mono HZ.out.size)
  have hL := isL_below HL.out hb
  have hG := keep HG.out hb
  clear HZ HL HG
  have HZ := Lib.hid hz
  have HL := Lib.hid hL
  have HG := Lib.hid hG
  clear hz hL hb hG
  go_wp2_with fail
  refine (push_any w.heap.size b ad1 _ cap1 _ M [EZ, EZ, EZ] (by have := HM.out; simp; omega) w7 HZ.out.size HL.out (more_src (M := [EZ, EZ, EZ]) HG.out)).mono ?_
  rintro e w8 ⟨rfl, hN⟩
  have hz := now_low HZ.out (Nat.le_refl _) HL.out hN
  obtain ⟨ad2, cap2, hL, _, _⟩ := hN
  have hlen : (M ++ [EZ, EZ, EZ]).length = 1048576 := by have := HM.out; simp; omega
  generalize M ++ [EZ, EZ, EZ] = M2 at *
  clear HZ HL HG
  have HZ := Lib.hid hz
  have HL := Lib.hid hL
  have HM2 := Lib.hid hlen
  clear hz hL hlen
  go_wp2_with fail
  refine (len_any w.heap.size b ad2 cap2 M2 w8 HL.out).mono ?_
  rintro e _ ⟨rfl, rfl⟩
  rw [HM2.out]
  go_wp2_with fail
  refine (null_any w8).mono ?_
  rintro e w9 ⟨rfl, hb⟩
  have hz := HZ.out.trans (hb.mono HZ.out.size)
  have hL := isL_below HL.out hb
  clear HZ HL
  have HZ := Lib.hid hz
  have HL := Lib.hid hL
  clear hz hL hb
  go_wp2_with fail
  refine (insert_no w.heap.size b ad2 cap2 M2 0 0 ⟨#[]⟩ 0 (by decide) (by have := HM2.out; omega) (by have := HM2.out; omega) (by have := HM2.out; omega) w9 HL.out).mono ?_
  rintro e w10 ⟨rfl, hb⟩
  have hz := HZ.out.trans (hb.mono HZ.out.size)
  have hL := isL_below HL.out hb
  clear HZ HL
  have HZ := Lib.hid hz
  have HL := Lib.hid hL
  clear hz hL hb
  go_wp2_with fail
  refine (len_any w.heap.size b ad2 cap2 M2 w10 HL.out).mono ?_
  rintro e _ ⟨rfl, rfl⟩
  rw [HM2.out]
  go_wp2_with fail
  go_ret
  exact ⟨rfl, HZ.out⟩
theorem listGreat_walk (l : Int) (_ : (Lit.int .i64 l).wf = true) (w : World) : Calls Try.prog 6 #[.int .i64 l] w fun e w' => e = .returned (.bool true) ∧ Below w.heap.size w w' := by
  by_cases h : l < 0 ∨ 3 < l
  · exact great_off l h w
  · obtain rfl | rfl | rfl | rfl : l = 0 ∨ l = 1 ∨ l = 2 ∨ l = 3 := by omega
    · exact great_0 w
    · exact great_1 w
    · exact great_2 w
    · exact great_3 w
end Go.Proofs.Ytajdpggelpgjnaa.Li
