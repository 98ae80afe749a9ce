/- 'ListSlices': the walk. -/
import Derived.Test.YtajdpggelpgjnaaList10
namespace Go.Proofs.Ytajdpggelpgjnaa.Li
open Go.RowKit Go.ChangeShapes Go.WideShapes Go.ChangeAt Go.Proofs.Ytajdpggelpgjnaa.Va

theorem okWide_cap {P : Program} {w : World} {r : Reach} {b : Nat} {t e : TypeId} {a : Option Addr} {len cap : Nat} (ht : P.underlying t = some (.slice e)) (h : Value.okWide P w r b t (.slice a len cap)) : len ≤ cap := by
  simp only [Value.okWide, ht, Cell.okWide] at h
  cases a with
  | none => cases len <;> cases cap <;> simp_all [Cell.ok]
  | some a => simp only [Cell.ok, ht] at h; exact h.1
theorem in_slice {ad : Option Addr} {w : World} {L : List (Int × Int × ByteArray)} {F n : Nat} (h : In ad w L) (hn : F + n ≤ L.length) : In (ad.map fun x => x.add (F * 3)) w ((L.drop F).take n) := by
  rcases h with rfl | ⟨g, off, rfl, hg, ha⟩
  · exact Or.inl (by simp)
  · refine Or.inr ⟨g, off + F * 3, by simp [Go.WideShapes.add_plain], hg, fun i hi => ?_⟩
    have hi' : i < n := by have := hi; rw [List.length_take] at this; omega
    obtain ⟨h0, h1, h2⟩ := ha (F + i) (by omega)
    have e : ((L.drop F).take n)[i] = L[F + i]'(by omega) := by simp
    rw [e, show off + F * 3 + i * 3 = off + (F + i) * 3 by omega]
    exact ⟨h0, h1, h2⟩
theorem same_in' (B b : Nat) (ad ad2 : Option Addr) (cap c2 len : Nat) (L : List (Int × Int × ByteArray)) (hlen : L.length = len) (hl : L.length ≤ 1000000) (w : World) (h : IsL B b ad cap w L) (hi : In ad2 w L) :
    Calls Try.prog 19 #[.pointer (some ⟨b, 0, none⟩), .slice ad2 len c2] w fun e w' => e = .returned (.bool true) ∧ Below w.heap.size w w' := by
  subst hlen; exact same_in B b ad ad2 cap c2 L hl w h hi

set_option maxRecDepth 100000 in
set_option maxHeartbeats 4000000 in
theorem slices_long (ad : Option Addr) (cap : Nat) (L : List (Int × Int × ByteArray)) (f t : Int) (hl : 200 < L.length) (w : World) : Calls Try.prog 4 #[.slice ad L.length cap, .int .i64 f, .int .i64 t] w fun e w' => e = .returned (.bool true) ∧ Below w.heap.size w w' := by
  have hl2 : (200 : Int) < (L.length : Int) := by omega
  go_enter Try.func4, Try.ntmps4
  go_wp2_with fail
  refine (keeps_any _).mono ?_
  rintro e w1 ⟨rfl, hb1⟩
  have HZ := Lib.hid hb1
  clear hb1
  go_wp2_with fail
  go_ret
  exact ⟨rfl, HZ.out⟩

set_option maxRecDepth 100000 in
set_option maxHeartbeats 4000000 in
theorem slices_off (ad : Option Addr) (cap : Nat) (L : List (Int × Int × ByteArray)) (f t : Int) (hl : L.length ≤ 200) (hok : okR L = false) (w : World) (hin : In ad w L) : Calls Try.prog 4 #[.slice ad L.length cap, .int .i64 f, .int .i64 t] w fun e w' => e = .returned (.bool true) ∧ Below w.heap.size w w' := by
  have HI := Lib.hid hin
  have hl2 : ¬ (200 : Int) < (L.length : Int) := by omega
  have HR := Lib.hid fun w h => right_in ad cap L (by omega) w h
  rw [hok] at HR
  clear hin hok
  go_enter Try.func4, Try.ntmps4
  go_wp2_with fail
  refine (keeps_any _).mono ?_
  rintro e w1 ⟨rfl, hb1⟩
  have HZ := Lib.hid hb1
  clear hb1
  go_wp2_with fail
  refine (HR.out _ (in_below HI.out HZ.out)).mono ?_
  rintro e w2 ⟨rfl, hb⟩
  have hz := HZ.out.trans (hb.mono HZ.out.size)
  clear HZ
  have HZ := Lib.hid hz
  clear hz hb
  go_wp2_with fail
  go_ret
  exact ⟨rfl, HZ.out⟩

set_option maxRecDepth 100000 in
set_option maxHeartbeats 16000000 in
theorem slices_no (ad : Option Addr) (cap : Nat) (L : List (Int × Int × ByteArray)) (f t : Int) (hl : L.length ≤ 200) (hok : okR L = true) (hx : placed f L.length < 0 ∨ placed t L.length < placed f L.length ∨ (L.length : Int) < placed t L.length) (w : World) (hin : In ad w L) : Calls Try.prog 4 #[.slice ad L.length cap, .int .i64 f, .int .i64 t] w fun e w' => e = .returned (.bool true) ∧ Below w.heap.size w w' := by
  have HI := Lib.hid hin
  have hl2 : ¬ (200 : Int) < (L.length : Int) := by omega
  have HR := Lib.hid fun w h => right_in ad cap L (by omega) w h
  rw [hok] at HR
  clear hin hok
  have HS := Lib.hid fun B b ad' cap' w (h : IsL B b ad' cap' w L) => slice_no B b ad' cap' L f t hx w h
  have hx' : placed f L.length < 0 ∨ (¬ placed f L.length < 0 ∧ placed t L.length < placed f L.length) ∨ (¬ placed f L.length < 0 ∧ ¬ placed t L.length < placed f L.length ∧ (L.length : Int) < placed t L.length) := by omega
  clear hx
  unfold placed at hx'
  by_cases hf : f < 0 <;> by_cases ht : t < 0
  all_goals
    simp only [hf, ht, if_true, if_false] at hx'
    rcases hx' with h1 | ⟨h1, h2⟩ | ⟨h1, h2, h3⟩
  all_goals (try (exfalso; omega))
  all_goals
    go_enter Try.func4, Try.ntmps4
    go_wp2_with fail
    refine (keeps_any _).mono ?_
    rintro e w1 ⟨rfl, hb1⟩
    have HZ := Lib.hid hb1
    clear hb1
    go_wp2_with fail
    refine (HR.out _ (in_below HI.out HZ.out)).mono ?_
    rintro e w2 ⟨rfl, hb⟩
    have hz := HZ.out.trans (hb.mono HZ.out.size)
    clear HZ
    have HZ := Lib.hid hz
    clear hz hb
    go_wp2_with fail
    refine (new_any ad cap L w2 (by omega) (in_src (in_below HI.out HZ.out))).mono ?_
    rintro e w4 ⟨b, ad1, cap1, rfl, hL, hb⟩
    have hz := HZ.out.trans (hb.mono HZ.out.size)
    clear HZ
    have HZ := Lib.hid hz
    have HL := Lib.hid hL
    clear hz hb hL
    go_wp2_with fail
    refine (HS.out _ _ _ _ _ HL.out).mono ?_
    rintro e _ ⟨rfl, rfl⟩
    go_wp2_with fail
    go_ret
    exact ⟨rfl, HZ.out⟩

end Go.Proofs.Ytajdpggelpgjnaa.Li
