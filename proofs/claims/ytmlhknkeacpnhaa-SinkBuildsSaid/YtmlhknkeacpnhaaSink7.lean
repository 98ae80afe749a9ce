/- The walks of SinkParts, SinkReads. -/
import Derived.Test.YtmlhknkeacpnhaaSink6
set_option linter.unusedVariables false
namespace Go.Proofs.Ytmlhknkeacpnhaa.Sk
open Go.RowKit Go.ChangeShapes Go.WideShapes Go.ChangeAt

/-- Lines, a line end behind each. -/
def catL : List (List UInt8) → List UInt8
  | [] => []
  | l :: ls => l ++ 10 :: catL ls
theorem catL_append : ∀ (a b : List (List UInt8)), catL (a ++ b) = catL a ++ catL b
  | [], b => rfl
  | x :: a, b => by rw [List.cons_append, catL, catL, catL_append a b]; simp
/-- Does a text end with a line end, or is it empty? -/
def ended (l : List UInt8) : Bool := l.isEmpty || l.getLast? == some 10
theorem catL_lnsA : ∀ (l acc : List UInt8), (l = [] → acc = [] ∨ acc.getLast? ≠ some 10) → catL (lnsA l acc) = acc ++ l ++ (if ended (acc ++ l) = true then [] else [10])
  | [], acc, h => by
    rw [lnsA, List.append_nil]
    by_cases h0 : acc = []
    · subst h0; rfl
    · rw [if_neg h0]
      have : ended acc = false := by
        unfold ended
        rcases h rfl with h | h
        · exact absurd h h0
        · simp [h, h0]
      rw [this]; rfl
  | c :: l, acc, h => by
    by_cases hc : c = 10
    · subst hc
      rw [lnsA, if_pos rfl, catL, catL_lnsA l [] (fun _ => Or.inl rfl), List.nil_append]
      by_cases hl : l = []
      · subst hl
        simp [ended]
      · have : ended (acc ++ 10 :: l) = ended l := by
          unfold ended
          have h1 : (acc ++ 10 :: l).getLast? = l.getLast? := by
            rw [List.getLast?_append]
            obtain ⟨x, q, rfl⟩ := List.exists_cons_of_ne_nil hl
            rw [List.getLast?_cons_cons]
            cases hq : (x :: q).getLast? with
            | none => simp at hq
            | some v => rfl
          have e1 : (acc ++ 10 :: l).isEmpty = false := by simp
          have e2 : l.isEmpty = false := by simpa using hl
          rw [h1, e1, e2]
        rw [this]; simp only [List.append_assoc, List.cons_append]
    · rw [lnsA, if_neg hc, catL_lnsA l (acc ++ [c]) (fun _ => Or.inr (by simp [hc]))]
      simp
theorem catL_lns (l : List UInt8) : catL (lns l) = l ++ (if ended l = true then [] else [10]) := by
  have := catL_lnsA l [] (fun _ => Or.inl rfl)
  simpa [lns] using this
theorem lnsA_no : ∀ (l acc : List UInt8), (10 : UInt8) ∉ acc → ∀ x ∈ lnsA l acc, (10 : UInt8) ∉ x
  | [], acc, h, x, hx => by
    rw [lnsA] at hx
    by_cases h0 : acc = []
    · rw [if_pos h0] at hx; cases hx
    · rw [if_neg h0] at hx; simp at hx; rw [hx]; exact h
  | c :: l, acc, h, x, hx => by
    rw [lnsA] at hx
    by_cases hc : c = 10
    · rw [if_pos hc] at hx
      rcases List.mem_cons.1 hx with rfl | hx
      · exact h
      · exact lnsA_no l [] (by simp) x hx
    · rw [if_neg hc] at hx
      exact lnsA_no l _ (by simp [h, Ne.symm hc]) x hx
theorem no_byte {l : List UInt8} {c : UInt8} (h : c ∉ l) : Lib.indexByte l c = -1 := by
  have hg := Lib.indexByte_ge l c
  by_cases h0 : Lib.indexByte l c = -1
  · exact h0
  · obtain ⟨o, ho⟩ := Int.eq_ofNat_of_zero_le (a := Lib.indexByte l c) (by omega)
    have := (Lib.indexByte_some ho).1
    exact absurd (List.mem_of_getElem? this) h
theorem suffix_ended (l : List UInt8) (h : l ≠ []) : Lib.hasSuffix l [10] = ended l := by
  unfold Lib.hasSuffix ended
  rw [Bool.eq_iff_iff]
  simp only [List.isSuffixOf_iff_suffix, Bool.or_eq_true, List.isEmpty_iff, beq_iff_eq]
  constructor
  · rintro ⟨p, rfl⟩; right; simp
  · rintro (h' | h')
    · exact absurd h' h
    · obtain ⟨ys, hys⟩ := List.getLast?_eq_some_iff.1 h'
      exact ⟨ys, hys.symm⟩
theorem row_str {B n : Nat} {ad : Option Addr} {cap : Nat} {w : World} {M : List ByteArray} (h : w.ownsRow B 9 1 (.slice ad n cap) n (M.map Value.string)) (hn : n = M.length) {k : Nat} (hk : k < M.length) :
    ∃ g, ad = some ⟨g, 0, none⟩ ∧ B ≤ g ∧ g < w.heap.size ∧ w.cell? ⟨g, k, none⟩ = some (.string M[k]) := by
  subst hn
  rcases h.2 with ⟨_, e⟩ | ⟨g, c, cur, hv, hB, hg, _⟩
  · omega
  · simp only [Value.slice.injEq] at hv
    obtain ⟨rfl, _, rfl⟩ := hv
    refine ⟨g, rfl, hB, lt_of_block hg, ?_⟩
    rw [World.ownsRow.cellAt h k (by omega), List.getElem?_map, List.getElem?_eq_getElem hk]; rfl
theorem catL_take (L : List (List UInt8)) (k : Nat) (h : k < L.length) : catL (L.take (k + 1)) = catL (L.take k) ++ (L[k] ++ [10]) := by
  rw [List.take_succ_eq_append_getElem h, catL_append]; rfl
theorem catL_len : ∀ L : List (List UInt8), L.length ≤ (catL L).length
  | [] => Nat.le_refl _
  | l :: L => by
    have := catL_len L
    rw [catL, List.length_cons, List.length_append, List.length_cons]; omega
theorem catL_le (L : List (List UInt8)) (k : Nat) : (catL (L.take k)).length ≤ (catL L).length := by
  have := congrArg List.length (congrArg catL (List.take_append_drop k L))
  rw [catL_append, List.length_append] at this; omega
set_option maxRecDepth 100000 in
set_option maxHeartbeats 2000000 in
theorem sinkParts_walk (w : World) (s : ByteArray) (_ : s.size ≤ maxLen) (m : Int) (hm : w.cell? ⟨0, 0, none⟩ = some (.int .i64 m)) :
    Calls Try.prog 7 #[.string s] w fun e w' => e = .returned (.bool true) ∧ Below w.heap.size w w' := by
  have h0 : 0 < w.heap.size := by
    refine Nat.pos_of_ne_zero fun h => ?_
    have e : w.heap = #[] := Array.eq_empty_of_size_eq_zero h
    simp [World.cell?, e] at hm
  have HT := Lib.hid (prints_any m w hm)
  have HM := Lib.hid hm
  clear hm
  by_cases hs : s.size ≤ 1000
  · have HC := Lib.hid (catL_lns s.data.toList)
    have HNO : Hid (∀ x ∈ lns s.data.toList, (10 : UInt8) ∉ x) := lnsA_no s.data.toList [] (by simp)
    have HL := Lib.hid fun m w hm => lines_any s (by omega) m w hm
    unfold lnsB at HL
    have hLl := catL_len (lns s.data.toList)
    rw [HC.out, List.length_append, size_list] at hLl
    have hLl : (lns s.data.toList).length ≤ 1001 := by split at hLl <;> simp at hLl <;> omega
    generalize lns s.data.toList = L at *
    go_enter Try.func7, Try.ntmps7
    go_wp2_with fail
    refine HT.out.mono ?_
    rintro e w1 ⟨rfl, hb1⟩
    have z1 := hb1.size
    go_wp2_with fail
    refine (HL.out m _ (cell_below hb1 h0 HM.out)).mono ?_
    rintro e w2 ⟨v, n, rfl, hn, hown, hb2⟩
    obtain ⟨ad, cap, rfl⟩ := row_shape hown
    have hn' : n = L.length := by rw [hn]; simp
    subst hn'
    have HO := Lib.hid hown
    have z2 := hb2.size
    have hb02 := hb1.trans (hb2.mono z1)
    clear hown hn hb2
    go_wp2_with fail
    go_loopw [3, 14] (fun v i wr => ∃ (k : Nat) (A : ByteArray), k ≤ L.length ∧ i = .int .i64 (k : Int) ∧ v = .string A ∧ A.size ≤ 1001 ∧ Hid (A.data.toList = catL (L.take k)) ∧ Below w2.heap.size w2 wr) (fun _ i _ => L.length - (intOf i).toNat)
    case atStart => exact ⟨0, ⟨#[]⟩, by omega, rfl, rfl, by decide, rfl, Below.refl _ _⟩
    case round =>
      obtain ⟨k, A, hk, rfl, rfl, hA, HA, hbr⟩ := hrel
      by_cases hlt : k < L.length
      · have hlt' : k < (L.map fun l => (⟨l.toArray⟩ : ByteArray)).length := by simpa using hlt
        obtain ⟨g, rfl, _, hg, hc0⟩ := row_str HO.out (by simp) hlt'
        have hc := cell_below hbr hg hc0
        rw [List.getElem_map] at hc
        have hx := HNO.out L[k] (List.getElem_mem hlt)
        have hnx := Lib.hid (no_byte hx)
        have ht := catL_take L k hlt
        have hle := catL_le L (k + 1)
        rw [HC.out, ht, ← HA.out] at hle
        simp only [List.length_append, size_list, List.length_singleton] at hle
        have hxs : L[k].length + A.size ≤ 1000 := by
          split at hle <;> simp at hle <;> omega
        have hxz : (⟨L[k].toArray⟩ : ByteArray).size = L[k].length := size_mk _
        have HT2 : Hid ((⟨L[k].toArray⟩ : ByteArray).data.toList = L[k]) := by show _ = _; simp
        have HAT : Hid (catL (L.take (k + 1)) = A.data.toList ++ ((⟨L[k].toArray⟩ : ByteArray).data.toList ++ [10])) := by show _ = _; rw [ht, HT2.out, HA.out]
        have HCN : Hid (∀ w, Calls Try.prog 16 #[.string ⟨L[k].toArray⟩, .string ⟨#[10]⟩] w fun e w' => e = .returned (.bool false) ∧ w = w') := fun w => (Try.strings_Contains_one ⟨L[k].toArray⟩ 10 w).mono fun e w' ⟨h1, h2⟩ => ⟨by rw [h1, HT2.out, hnx.out]; rfl, h2.symm⟩
        have hxs2 : (⟨L[k].toArray⟩ : ByteArray).size + A.size ≤ 1000 := by omega
        have hxs3 : (⟨L[k].toArray⟩ : ByteArray).size ≤ 1000 := by omega
        clear ht hle hxz hx hc0
        generalize (⟨L[k].toArray⟩ : ByteArray) = x at *
        go_wp2_with fail
        refine (HCN.out _).mono ?_
        rintro e w3 ⟨rfl, rfl⟩
        go_wp2_with fail
        go_roundw
        case rel =>
          refine ⟨k + 1, A ++ (x ++ ⟨#[10]⟩), by omega, by go_num, rfl, ?_, ?_, hbr⟩
          · simp only [ByteArray.size_append]; have : (⟨#[10]⟩ : ByteArray).size = 1 := rfl; omega
          · show _ = _
            rw [HAT.out]; simp
        case measure => simp [intOf]; omega
      · have hkl : k = L.length := by omega
        subst hkl
        have hA2 : A.data.toList = catL L := by rw [HA.out, List.take_length]
        rw [HC.out] at hA2
        by_cases he : ended s.data.toList = true
        · rw [if_pos he, List.append_nil] at hA2
          have hAs : A = s := bytes_ext hA2
          subst hAs
          go_wp2_with fail
          go_ret
          exact ⟨rfl, hb02.trans (hbr.mono (by omega))⟩
        · rw [if_neg he] at hA2
          have hs0 : 0 < s.size := by
            by_cases h : 0 < s.size
            · exact h
            · exact absurd (by rw [no_list s (by omega)]; rfl) he
          have hsn : s.data.toList ≠ [] := by intro h; have := size_list s; rw [h] at this; simp at this; omega
          have hA3 : A = s ++ ⟨#[10]⟩ := bytes_ext (by rw [hA2]; simp)
          have hne : ¬ A.toList = s.toList := by
            intro h
            have := congrArg List.length h
            rw [ByteArray.toList_eq, ByteArray.toList_eq, size_list, size_list, hA3, ByteArray.size_append] at this
            have h1 : (⟨#[10]⟩ : ByteArray).size = 1 := rfl
            omega
          have he2 := some_bytes s hs0
          have he3 : (!s.toList.isEmpty) = true := by rw [he2]; rfl
          have HSF : Hid (∀ w, Calls Try.prog 28 #[.string s, .string ⟨#[10]⟩] w fun e w' => e = .returned (.bool false) ∧ w = w') := fun w => (Try.strings_HasSuffix s ⟨#[10]⟩ w (by omega)).mono fun e w' ⟨h1, h2⟩ => ⟨by
            rw [h1]; show Ending.returned (.bool (Lib.hasSuffix s.data.toList [10])) = _; rw [suffix_ended _ hsn]; simpa using he, h2.symm⟩
          subst hA3
          clear hA2 HA he hsn
          go_wp2_with fail
          refine (HSF.out _).mono ?_
          rintro e w3 ⟨rfl, rfl⟩
          go_wp2_with fail
          go_ret
          exact ⟨rfl, hb02.trans (hbr.mono (by omega))⟩
  · go_enter Try.func7, Try.ntmps7
    go_wp2_with fail
    refine HT.out.mono ?_
    rintro e w1 ⟨rfl, hb1⟩
    go_wp2_with fail
    go_ret
    exact ⟨rfl, hb1⟩
end Go.Proofs.Ytmlhknkeacpnhaa.Sk
