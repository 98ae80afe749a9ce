/- Contracts of lex's small functions: isDigit, isSign, Keyword, wordLen, lineLen, noteLen. -/
import Derived.Test.YtaonojimpfhkfaaStr2
import Derived.Test.YtaonojimpfhkfaaShelf
import Derived.Lib.IndexLaws
set_option linter.unusedVariables false
namespace Go.Proofs.Ytaonojimpfhkfaa.Lx
open Go.RowKit Go.ChangeShapes Go.WideShapes Go.ChangeAt

def signs : List (List UInt8) := [[62, 62, 62], [60, 61, 62], [60, 45], [60, 60], [62, 62], [60, 61], [62, 61], [61, 61], [33, 61], [38, 38], [124, 124], [43, 43], [45, 45], [43, 61], [45, 61], [42, 61], [47, 61], [37, 61], [58, 58], [43], [45], [42], [47], [37], [61], [60], [62], [33], [126], [38], [124], [94], [63], [58], [59], [44], [46], [40], [41], [123], [125], [91], [93]]
def kws : List (List UInt8) := [[98, 97, 115, 101], [98, 114, 101, 97, 107], [99, 97, 115, 101], [99, 97, 116, 99, 104], [99, 108, 97, 115, 115], [99, 108, 111, 110, 101], [99, 111, 110, 115, 116], [99, 111, 110, 115, 116, 114, 117, 99, 116, 111, 114], [99, 111, 110, 116, 105, 110, 117, 101], [100, 101, 102, 97, 117, 108, 116], [100, 101, 108, 101, 116, 101], [100, 111], [101, 108, 115, 101], [101, 110, 117, 109], [101, 120, 116, 101, 110, 100, 115], [102, 97, 108, 115, 101], [102, 111, 114], [102, 111, 114, 101, 97, 99, 104], [102, 117, 110, 99, 116, 105, 111, 110], [105, 102], [105, 110], [105, 110, 115, 116, 97, 110, 99, 101, 111, 102], [108, 111, 99, 97, 108], [110, 117, 108, 108], [114, 101, 115, 117, 109, 101], [114, 101, 116, 117, 114, 110], [115, 116, 97, 116, 105, 99], [115, 119, 105, 116, 99, 104], [116, 104, 105, 115], [116, 104, 114, 111, 119], [116, 114, 117, 101], [116, 114, 121], [116, 121, 112, 101, 111, 102], [119, 104, 105, 108, 101], [121, 105, 101, 108, 100]]
theorem yes_eq {L : List (List UInt8)} {x l : List UInt8} (h : (x == l) = true) (hm : L.contains l = true) : L.contains x = true := by
  rw [beq_iff_eq] at h; rw [h]; exact hm
theorem has_no {L : List (List UInt8)} {x : List UInt8} (h : ∀ y ∈ L, ¬ x = y) : L.contains x = false := by
  rw [← Bool.not_eq_true, List.contains_iff_mem]
  exact fun hm => h x hm rfl
theorem has_yes {L : List (List UInt8)} {x : List UInt8} (h : x ∈ L) : L.contains x = true := by rw [List.contains_iff_mem]; exact h
set_option maxRecDepth 100000 in
set_option maxHeartbeats 4000000 in
theorem keyword_any (s : ByteArray) (w : World) : Calls Try.prog 67 #[.string s] w fun e w' => e = .returned (.bool (kws.contains s.toList)) ∧ w = w' := by
  generalize hR : kws.contains s.toList = R
  have HR := Lib.hid hR
  clear hR
  go_enter Try.func67, Try.ntmps67
  go_wp2
  all_goals go_ret
  all_goals first
    | exact ⟨ret_b ((yes_eq (by assumption) (by decide)).symm.trans HR.out), rfl⟩
    | (exfalso; simp_all; done)
    | exact ⟨ret_b (Eq.trans (by simp only [kws, List.contains_cons, List.contains_nil, *, Bool.or_false]) HR.out), rfl⟩
/-- How many bytes of a name or number a text begins with. -/
def isW (c : UInt8) : Bool := dgB c.toNat || stB c.toNat
def wl : List UInt8 → Nat
  | [] => 0
  | c :: l => if isW c = true then wl l + 1 else 0
theorem wl_le : ∀ l : List UInt8, wl l ≤ l.length
  | [] => Nat.le_refl _
  | c :: l => by have := wl_le l; rw [wl, List.length_cons]; split <;> omega
theorem wl_yes {c : UInt8} {l : List UInt8} (h : isW c = true) : wl (c :: l) = wl l + 1 := by rw [wl, if_pos h]
theorem wl_no {c : UInt8} {l : List UInt8} (h : isW c = false) : wl (c :: l) = 0 := by rw [wl, if_neg (by simp [h])]
theorem one_byte (s : ByteArray) (k : Nat) (h : k < s.size) : (s.extract k (k + 1)).data.toList = [s[k]] := by
  rw [Lib.extract_data, show k + 1 - k = 1 by omega, drop_byte s k h]; rfl
theorem one_size (s : ByteArray) (k : Nat) (h : k < s.size) : (s.extract k (k + 1)).size = 1 := by simp; omega
theorem name_one (s : ByteArray) (k : Nat) (h : k < s.size) (w : World) : Calls Try.prog 66 #[.string (s.extract k (k + 1))] w fun e w' => e = .returned (.bool (stB s[k].toNat)) ∧ w = w' :=
  (name_any (s.extract k (k + 1)) (by rw [one_size s k h]; omega) w).mono fun e w' ⟨h1, h2⟩ => ⟨by
    rw [h1, one_size s k h, one_byte s k h]
    congr 2
    simp [named, okAt], h2⟩
/-- How many bytes a line has. -/
def ll (l : List UInt8) : Nat := if 0 ≤ Lib.indexByte l 10 then (Lib.indexByte l 10).toNat else l.length
/-- How many bytes a note has; 0: it doesn't end. -/
def nl (l : List UInt8) : Nat := if 0 ≤ Lib.index (l.drop 2) [42, 47] then (Lib.index (l.drop 2) [42, 47]).toNat + 4 else 0
end Go.Proofs.Ytaonojimpfhkfaa.Lx
