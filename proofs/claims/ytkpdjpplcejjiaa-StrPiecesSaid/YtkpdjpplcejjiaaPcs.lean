/- The pieces of a text between bytes: what they are like. -/
import Derived.Test.YtkpdjpplcejjiaaRune2
namespace Go.Proofs.Ytkpdjpplcejjiaa
open Go.RowKit

/-- The pieces lie behind each other in a text, a byte between two; none has a byte that parts. -/
def pcs (cut : Nat → Bool) (s : ByteArray) : Bool → Nat → List ByteArray → Prop
  | _, z, [] => z = s.size
  | f, z, p :: l => (if f then z else z + 1) + p.size ≤ s.size ∧ s.extract (if f then z else z + 1) ((if f then z else z + 1) + p.size) = p ∧
      (∀ k (h : k < p.size), cut p[k].toNat = false) ∧ pcs cut s false ((if f then z else z + 1) + p.size) l
theorem srun_acc (cut : Nat → Bool) (s : ByteArray) : ∀ (l : List UInt8) (i a : Nat) (acc : List ByteArray), srun cut s l i a acc = acc ++ srun cut s l i a []
  | [], i, a, acc => by rw [srun_end, srun_end, List.nil_append]
  | c :: l, i, a, acc => by
    cases h : cut c.toNat
    · rw [srun_on _ _ _ _ _ _ _ h, srun_on _ _ _ _ _ _ _ h, srun_acc cut s l _ _ acc]
    · rw [srun_cut _ _ _ _ _ _ _ h, srun_cut _ _ _ _ _ _ _ h, srun_acc cut s l _ _ (acc ++ [s.extract a i]), List.nil_append, srun_acc cut s l _ _ [s.extract a i], List.append_assoc]
theorem srun_len (cut : Nat → Bool) (s : ByteArray) : ∀ (l : List UInt8) (i a : Nat) (acc : List ByteArray), (srun cut s l i a acc).length ≤ acc.length + l.length + 1
  | [], i, a, acc => by rw [srun_end]; simp
  | c :: l, i, a, acc => by
    cases h : cut c.toNat
    · rw [srun_on _ _ _ _ _ _ _ h]; have := srun_len cut s l (i + 1) a acc; simp; omega
    · rw [srun_cut _ _ _ _ _ _ _ h]; have := srun_len cut s l (i + 1) (i + 1) (acc ++ [s.extract a i]); simp at this ⊢; omega
theorem srun_pos (cut : Nat → Bool) (s : ByteArray) (l : List UInt8) (i a : Nat) : 0 < (srun cut s l i a []).length := by
  induction l generalizing i a with
  | nil => simp [srun]
  | cons c l ih =>
    cases h : cut c.toNat
    · rw [srun_on _ _ _ _ _ _ _ h]; exact ih _ _
    · rw [srun_cut _ _ _ _ _ _ _ h, srun_acc]; simp
theorem size_extract (s : ByteArray) (a b : Nat) (h : b ≤ s.size) : (s.extract a b).size = b - a := by simp; omega
theorem srun_pcs (cut : Nat → Bool) (s : ByteArray) : ∀ (l : List UInt8) (i a : Nat) (f : Bool) (z : Nat), l = s.data.toList.drop i → i ≤ s.size → a ≤ i → a = (if f then z else z + 1) →
    (∀ j (h : j < s.size), a ≤ j → j < i → cut s[j].toNat = false) → pcs cut s f z (srun cut s l i a [])
  | [], i, a, f, z, hl, hi, ha, hz, hn => by
    have hi2 : i = s.size := by
      have := congrArg List.length hl
      rw [List.length_drop, size_list] at this
      simp at this; omega
    subst hi2
    rw [srun_end, List.nil_append]
    have hs := size_extract s a s.size (Nat.le_refl _)
    refine ⟨?_, ?_, ?_, ?_⟩
    · rw [← hz, hs]; omega
    · rw [← hz, hs, show a + (s.size - a) = s.size by omega]
    · intro k h
      rw [ByteArray.getElem_extract]
      exact hn _ (by omega) (by omega) (by omega)
    · show _ = _
      rw [← hz, hs]; omega
  | c :: l, i, a, f, z, hl, hi, ha, hz, hn => by
    have hlt : i < s.size := by
      have := congrArg List.length hl
      rw [List.length_drop, size_list] at this
      simp at this; omega
    have hd := drop_byte s i hlt
    rw [← hl] at hd
    obtain ⟨hc, hl2⟩ := List.cons.inj hd
    cases h : cut c.toNat
    · rw [srun_on _ _ _ _ _ _ _ h]
      refine srun_pcs cut s l (i + 1) a f z hl2 (by omega) (by omega) hz (fun j hj h1 h2 => ?_)
      by_cases e : j = i
      · subst e; rw [← hc]; exact h
      · exact hn j hj h1 (by omega)
    · rw [srun_cut _ _ _ _ _ _ _ h, List.nil_append, srun_acc]
      have hs := size_extract s a i (by omega)
      refine ⟨?_, ?_, ?_, ?_⟩
      · rw [← hz, hs]; omega
      · rw [← hz, hs, show a + (i - a) = i by omega]
      · intro k h
        rw [ByteArray.getElem_extract]
        exact hn _ (by omega) (by omega) (by omega)
      · refine srun_pcs cut s l (i + 1) (i + 1) false _ hl2 (by omega) (by omega) ?_ (fun j hj h1 h2 => by omega)
        rw [← hz, hs, if_neg (by simp)]; omega
theorem pcs_join (cut : Nat → Bool) (s : ByteArray) (b : List UInt8) (hb : b.length = 1) : ∀ (l : List ByteArray) (f : Bool) (z : Nat) (acc : List UInt8), pcs cut s f z l → acc.length = z → (jrun b l f acc).length = s.size
  | [], f, z, acc, h, e => by rw [jrun, e]; exact h
  | p :: l, f, z, acc, h, e => by
    obtain ⟨_, _, _, h4⟩ := h
    rw [jrun]
    refine pcs_join cut s b hb l false _ _ h4 ?_
    cases f
    · rw [if_neg (by simp), if_neg (by simp), List.length_append, List.length_append, size_list]; omega
    · rw [if_pos rfl, if_pos rfl, List.length_append, size_list]; omega
theorem among_no (b : ByteArray) (c m : Nat) (hm : m < b.size) (h : among b.data.toList c = false) : ¬ c = b[m].toNat := by
  intro e
  have hd := drop_byte b m hm
  have hmem : b[m] ∈ b.data.toList := List.mem_of_mem_drop (i := m) (by rw [hd]; exact List.mem_cons_self)
  unfold among at h
  rw [List.any_eq_false] at h
  exact h _ hmem (by simp [e])
end Go.Proofs.Ytkpdjpplcejjiaa
