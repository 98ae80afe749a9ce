/- Contracts of str.Slice, Find, Name, Front, Back, Strip, Hash. -/
import Derived.Test.YthmeehmobcaadaaStr1
namespace Go.Proofs.Ythmeehmobcaadaa
open Go.RowKit Go.ChangeShapes Go.WideShapes Go.ChangeAt

/-! blanks at the ends -/
def ahead : List UInt8 → Nat → Nat
  | [], k => k
  | c :: l, k => if blB c.toNat = true then ahead l (k + 1) else k
theorem ahead_yes (c : UInt8) (l : List UInt8) (k : Nat) (h : blB c.toNat = true) : ahead (c :: l) k = ahead l (k + 1) := by rw [ahead, if_pos h]
theorem ahead_no (c : UInt8) (l : List UInt8) (k : Nat) (h : ¬ blB c.toNat = true) : ahead (c :: l) k = k := by rw [ahead, if_neg h]
theorem ahead_le : ∀ (l : List UInt8) (k : Nat), k ≤ ahead l k ∧ ahead l k ≤ k + l.length
  | [], k => by simp [ahead]
  | c :: l, k => by
    rw [ahead]; split
    · have := ahead_le l (k + 1); simp; omega
    · simp
def behind (s : ByteArray) (f : Nat) : Nat → Nat
  | 0 => 0
  | t + 1 => if f < t + 1 ∧ (∃ h : t < s.size, blB (s[t]'h).toNat = true) then behind s f t else t + 1
theorem behind_yes (s : ByteArray) (f t : Nat) (h : t < s.size) (h1 : f < t + 1) (h2 : blB (s[t]).toNat = true) : behind s f (t + 1) = behind s f t := by rw [behind, if_pos ⟨h1, h, h2⟩]
theorem behind_no (s : ByteArray) (f t : Nat) (h : t < s.size) (h2 : ¬ blB (s[t]).toNat = true) : behind s f (t + 1) = t + 1 := by
  rw [behind, if_neg (fun h3 => h2 h3.2.2)]
theorem behind_low (s : ByteArray) (f t : Nat) (h1 : t ≤ f) : behind s f t = t := by
  cases t with
  | zero => rfl
  | succ t => rw [behind, if_neg (fun h3 => by omega)]
theorem behind_le (s : ByteArray) (f : Nat) : ∀ t, behind s f t ≤ t
  | 0 => Nat.le_refl _
  | t + 1 => by rw [behind]; split; have := behind_le s f t; omega; omega
theorem behind_ge (s : ByteArray) (f : Nat) : ∀ t, f ≤ t → f ≤ behind s f t
  | 0, h => h
  | t + 1, h => by rw [behind]; split; rename_i h2; exact behind_ge s f t (by omega); exact h

/-! names -/
def okAt (c k : Nat) : Bool := stB c || (!decide (k = 0) && dgB c)
def named : List UInt8 → Nat → Bool
  | [], _ => true
  | c :: l, k => okAt c.toNat k && named l (k + 1)
end Go.Proofs.Ythmeehmobcaadaa
