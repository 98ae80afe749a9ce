/- Contracts of str.Escape. -/
import Derived.Test.YthjmlgbnpnfkgaaDoorBase
import Derived.BigRegion
import Derived.Laws.BitsAllLaws
namespace Go.Proofs.YthjmlgbnpnfkgaaDoor
open Go.RowKit Go.ChangeShapes Go.WideShapes Go.ChangeAt

/-- A digit to the base 16. -/
def hexN (d : Nat) : Nat := if d < 10 then 48 + d else 87 + d
def esc (c : Nat) : List UInt8 :=
  if c = 34 ∨ c = 39 ∨ c = 92 then [92, UInt8.ofNat c] else if c = 10 then [92, 110] else if c = 13 then [92, 114] else if c = 9 then [92, 116]
  else if 32 ≤ c ∧ c ≤ 126 then [UInt8.ofNat c] else [92, 120, UInt8.ofNat (hexN (c / 16)), UInt8.ofNat (hexN (c % 16))]
theorem hex_all : ∀ d : Fin 16, ((⟨#[48, 49, 50, 51, 52, 53, 54, 55, 56, 57, 97, 98, 99, 100, 101, 102]⟩ : ByteArray)[d.val]'d.isLt) = UInt8.ofNat (hexN d.val) := by decide
theorem hex_at (i d : Nat) (h : i < (⟨#[48, 49, 50, 51, 52, 53, 54, 55, 56, 57, 97, 98, 99, 100, 101, 102]⟩ : ByteArray).size) (e : i = d) :
    ((⟨#[48, 49, 50, 51, 52, 53, 54, 55, 56, 57, 97, 98, 99, 100, 101, 102]⟩ : ByteArray)[i]'h) = UInt8.ofNat (hexN d) := by
  subst e; exact hex_all ⟨i, h⟩
theorem and15 (c : Nat) (hc : c ≤ 255) : bits .and .u8 (c : Int) 15 = ((c % 16 : Nat) : Int) := by
  have h := u8_and_nat c 15 (by omega) (by omega)
  rw [show ((15 : Nat) : Int) = 15 from rfl] at h
  rw [h, show (15 : Nat) = 2 ^ 4 - 1 from rfl, Nat.and_two_pow_sub_one_eq_mod]
theorem ofN (c : Nat) (h : c ≤ 255) : (((UInt8.ofNat c).toNat : Nat) : Int) = (c : Int) := by rw [UInt8.toNat_ofNat']; omega

theorem conv4 (w : World) (x y : UInt8) :
    (convert 53 9 (.slice (some ⟨w.heap.size, 0, none⟩) 4 4)).run Tryd.prog (w.alloc (.cells #[.int .u8 92, .int .u8 120, .int .u8 (x.toNat : Int), .int .u8 (y.toNat : Int)] 5)).drew =
      .ok (.string ⟨#[92, 120, x, y]⟩) (w.alloc (.cells #[.int .u8 92, .int .u8 120, .int .u8 (x.toNat : Int), .int .u8 (y.toNat : Int)] 5)).drew := by
  refine run_convert_bytes_back (w.alloc (.cells #[.int .u8 92, .int .u8 120, .int .u8 (x.toNat : Int), .int .u8 (y.toNat : Int)] 5)).drew _ _ 5 _ 4 [92, 120, x, y] Tryd.underlying53 Tryd.underlying5 Tryd.underlying9 (fun j hj => ?_)
  have hadd : (⟨w.heap.size, 0, none⟩ : Addr).add j = ⟨w.heap.size, j, none⟩ := by unfold Addr.add; split <;> simp_all
  rw [hadd]
  refine (cell_of_row (World.drew _) _ _ _ _ _ (heap_alloc_new w _)).trans ?_
  match j, hj with
  | 0, _ => rfl
  | 1, _ => rfl
  | 2, _ => rfl
  | 3, _ => rfl
theorem conv2 (w : World) (x y : UInt8) :
    (convert 53 9 (.slice (some ⟨w.heap.size, 0, none⟩) 2 2)).run Tryd.prog (w.alloc (.cells #[.int .u8 (x.toNat : Int), .int .u8 (y.toNat : Int)] 5)) =
      .ok (.string ⟨#[x, y]⟩) (w.alloc (.cells #[.int .u8 (x.toNat : Int), .int .u8 (y.toNat : Int)] 5)) := by
  refine run_convert_bytes_back (w.alloc (.cells #[.int .u8 (x.toNat : Int), .int .u8 (y.toNat : Int)] 5)) _ _ 5 _ 2 [x, y] Tryd.underlying53 Tryd.underlying5 Tryd.underlying9 (fun j hj => ?_)
  have hadd : (⟨w.heap.size, 0, none⟩ : Addr).add j = ⟨w.heap.size, j, none⟩ := by unfold Addr.add; split <;> simp_all
  rw [hadd, cell_of_row _ _ _ _ _ _ (heap_alloc_new w _)]
  match j, hj with
  | 0, _ => rfl
  | 1, _ => rfl
theorem conv1 (w : World) (x : UInt8) :
    (convert 53 9 (.slice (some ⟨w.heap.size, 0, none⟩) 1 1)).run Tryd.prog (w.alloc (.cells #[.int .u8 (x.toNat : Int)] 5)) =
      .ok (.string ⟨#[x]⟩) (w.alloc (.cells #[.int .u8 (x.toNat : Int)] 5)) := by
  refine run_convert_bytes_back (w.alloc (.cells #[.int .u8 (x.toNat : Int)] 5)) _ _ 5 _ 1 [x] Tryd.underlying53 Tryd.underlying5 Tryd.underlying9 (fun j hj => ?_)
  have hadd : (⟨w.heap.size, 0, none⟩ : Addr).add j = ⟨w.heap.size, j, none⟩ := by unfold Addr.add; split <;> simp_all
  rw [hadd, cell_of_row _ _ _ _ _ _ (heap_alloc_new w _)]
  match j, hj with
  | 0, _ => rfl

set_option maxRecDepth 100000 in
set_option maxHeartbeats 1000000 in
theorem escape_hex (c : Nat) (hc : c ≤ 255) (h : ¬ (c = 34 ∨ c = 39 ∨ c = 92 ∨ c = 10 ∨ c = 13 ∨ c = 9)) (h2 : ¬ (32 ≤ c ∧ c ≤ 126)) (w : World) :
    Calls Tryd.prog 52 #[.int .u8 (c : Int)] w fun e w' => e = .returned (.string ⟨(esc c).toArray⟩) ∧ Below w.heap.size w w' := by
  have HE : Hid (esc c = [92, 120, UInt8.ofNat (hexN (c / 16)), UInt8.ofNat (hexN (c % 16))]) := by
    show _ = _; unfold esc; rw [if_neg (by omega), if_neg (by omega), if_neg (by omega), if_neg (by omega), if_neg h2]
  have e1 : ((c : Int) == 34) = false := by simp; omega
  have e2 : ((c : Int) == 39) = false := by simp; omega
  have e3 : ((c : Int) == 92) = false := by simp; omega
  have e4 : ((c : Int) == 10) = false := by simp; omega
  have e5 : ((c : Int) == 13) = false := by simp; omega
  have e6 : ((c : Int) == 9) = false := by simp; omega
  have ha := and15 c hc
  have b1 : 0 ≤ (c : Int) / 16 := by omega
  have b2 : (c : Int) / 16 < 16 := by omega
  have b3 : 0 ≤ (c : Int) % 16 := by omega
  have b4 : (c : Int) % 16 < 16 := by omega
  have hcv := conv4 w
  have h3 : c < 32 ∨ (32 ≤ c ∧ 126 < c) := by omega
  clear h h2
  rcases h3 with h3 | ⟨h3, h4⟩
  all_goals
    go_enter Tryd.func52, Tryd.ntmps52
    go_wp2
    go_region
    all_goals
      go_wp2
      go_ret
      refine ⟨?_, by go_grown⟩
      rw [HE.out, hex_at _ (c / 16) _ rfl, hex_at _ (c % 16) _ rfl]
      rfl
set_option maxRecDepth 100000 in
set_option maxHeartbeats 1000000 in
theorem escape_self (c : Nat) (h0 : 32 ≤ c) (h1 : c ≤ 126) (h : ¬ (c = 34 ∨ c = 39 ∨ c = 92)) (w : World) :
    Calls Tryd.prog 52 #[.int .u8 (c : Int)] w fun e w' => e = .returned (.string ⟨(esc c).toArray⟩) ∧ Below w.heap.size w w' := by
  have HE : Hid (esc c = [UInt8.ofNat c]) := by
    show _ = _; unfold esc; rw [if_neg (by omega), if_neg (by omega), if_neg (by omega), if_neg (by omega), if_pos ⟨h0, h1⟩]
  have e1 : ((c : Int) == 34) = false := by simp; omega
  have e2 : ((c : Int) == 39) = false := by simp; omega
  have e3 : ((c : Int) == 92) = false := by simp; omega
  have e4 : ((c : Int) == 10) = false := by simp; omega
  have e5 : ((c : Int) == 13) = false := by simp; omega
  have e6 : ((c : Int) == 9) = false := by simp; omega
  have hcv := conv1 w (UInt8.ofNat c)
  rw [ofN c (by omega)] at hcv
  have HCV := Lib.hid hcv
  clear h hcv
  go_enter Tryd.func52, Tryd.ntmps52
  go_wp2_with (refine wpList_convert_run rfl 53 9 (.tmp 24) rfl _ rfl HCV.out ?_)
  go_ret
  exact ⟨ret_str HE.out.symm, by go_grown⟩
set_option maxRecDepth 100000 in
set_option maxHeartbeats 1000000 in
theorem escape_slash (c : Nat) (h : c = 34 ∨ c = 39 ∨ c = 92) (w : World) :
    Calls Tryd.prog 52 #[.int .u8 (c : Int)] w fun e w' => e = .returned (.string ⟨(esc c).toArray⟩) ∧ Below w.heap.size w w' := by
  have HE : Hid (esc c = [92, UInt8.ofNat c]) := by show _ = _; unfold esc; rw [if_pos h]
  have hcv := conv2 w 92 (UInt8.ofNat c)
  rw [ofN c (by omega)] at hcv
  have HCV := Lib.hid hcv
  clear hcv
  have e1 : ((c : Int) == 34) = true ∨ (((c : Int) == 34) = false ∧ (((c : Int) == 39) = true ∨ (((c : Int) == 39) = false ∧ ((c : Int) == 92) = true))) := by simp; omega
  clear h
  rcases e1 with e1 | ⟨e1, e2 | ⟨e2, e3⟩⟩
  all_goals
    go_enter Tryd.func52, Tryd.ntmps52
    go_wp2_with (refine wpList_convert_run rfl 53 9 (.tmp 9) rfl _ rfl HCV.out ?_)
    go_ret
    exact ⟨ret_str HE.out.symm, by go_grown⟩
set_option maxRecDepth 100000 in
theorem escape_line (c : Nat) (h : c = 10 ∨ c = 13 ∨ c = 9) (w : World) :
    Calls Tryd.prog 52 #[.int .u8 (c : Int)] w fun e w' => e = .returned (.string ⟨(esc c).toArray⟩) ∧ Below w.heap.size w w' := by
  rcases h with rfl | rfl | rfl
  all_goals
    go_enter Tryd.func52, Tryd.ntmps52
    go_wp2
    go_ret
    exact ⟨rfl, by go_grown⟩
set_option maxRecDepth 100000 in
theorem escape_any (c : Nat) (hc : c ≤ 255) (w : World) :
    Calls Tryd.prog 52 #[.int .u8 (c : Int)] w fun e w' => e = .returned (.string ⟨(esc c).toArray⟩) ∧ Below w.heap.size w w' := by
  by_cases h1 : c = 34 ∨ c = 39 ∨ c = 92
  · exact escape_slash c h1 w
  · by_cases h2 : c = 10 ∨ c = 13 ∨ c = 9
    · exact escape_line c h2 w
    · by_cases h3 : 32 ≤ c ∧ c ≤ 126
      · exact escape_self c h3.1 h3.2 h1 w
      · exact escape_hex c hc (by omega) h3 w
end Go.Proofs.YthjmlgbnpnfkgaaDoor
