/- Contracts of num.Parse. -/
import Derived.Test.YthjmlgbnpnfkgaaDoorNum2
import Derived.Lib.Strings
import Derived.Lib.IndexBytes
namespace Go.Proofs.YthjmlgbnpnfkgaaDoor.Nu
open Go.RowKit Go.ChangeShapes Go.WideShapes Go.ChangeAt

theorem read_eq (s : ByteArray) (hs : s.size ≤ maxLen) (base : Nat) (hb1 : 2 ≤ base) (hb2 : base ≤ 36) (n er : Nat) (h : rdv base s.data.toList = (n, er)) (w : World) :
    Calls Tryd.prog 82 #[.string s, .int .u64 (base : Int)] w fun e w' => e = .returned (.tuple #[.int .u64 (n : Int), .int .i64 (er : Int)]) ∧ w = w' := by
  have := read_any s hs base hb1 hb2 w
  rw [h] at this
  exact this

theorem parse_no (s : ByteArray) (base : Int) (h : base < 2 ∨ 36 < base) (w : World) :
    Calls Tryd.prog 69 #[.string s, .int .i64 base] w fun e w' => e = .returned (.tuple #[.int .i64 0, .int .i64 1]) ∧ w = w' := by
  go_enter Tryd.func69, Tryd.ntmps69
  go_wp2_with fail
  refine (isBase_no _ h _).mono ?_
  rintro e w1 ⟨rfl, rfl⟩
  go_wp2_with fail
  go_ret2
  exact ⟨rfl, rfl⟩

theorem parse_below (s : ByteArray) (hs : s.size ≤ maxLen) (h0 : 0 < s.size) (h1 : (s[0]).toNat = 45) (base : Nat) (hb1 : 2 ≤ base) (hb2 : base ≤ 36) (w : World) :
    Calls Tryd.prog 69 #[.string s, .int .i64 (base : Int)] w fun e w' => e = .returned (.tuple #[.int .i64 (pv true (rdv base (s.data.toList.drop 1))).1, .int .i64 (((pv true (rdv base (s.data.toList.drop 1))).2 : Nat) : Int)]) ∧ w = w' := by
  have hsz : (s.extract 1 s.size).size ≤ maxLen := by simp; omega
  have hdat : (s.extract 1 s.size).data.toList = s.data.toList.drop 1 := Lib.extract_to_end s 1
  obtain ⟨n, er, he⟩ : ∃ n er, rdv base (s.data.toList.drop 1) = (n, er) := ⟨_, _, rfl⟩
  have hn : n ≤ 9223372036854775808 := by have := rdv_bound base hb1 (s.data.toList.drop 1); rw [he] at this; exact this
  rw [he]
  have HRD := Lib.hid fun w => read_eq (s.extract 1 s.size) hsz base hb1 hb2 n er (by rw [hdat, he]) w
  unfold maxLen at hs
  clear hdat he
  have hb : (((s[0]).toNat : Int) == 45) = true := by simp [h1]
  clear h1
  by_cases h2 : er = 0
  · subst h2
    have HF := Lib.hid (pv_below n)
    go_enter Tryd.func69, Tryd.ntmps69
    go_wp2_with fail
    refine (isBase_yes _ (by omega) (by omega) _).mono ?_
    rintro e w1 ⟨rfl, rfl⟩
    go_wp2_with fail
    refine (HRD.out _).mono ?_
    rintro e w1 ⟨rfl, rfl⟩
    go_wp2
    go_ret2
    rw [HF.out]
    exact ⟨ret_two (neg_room n hn) rfl, rfl⟩
  · have HF := Lib.hid (pv_bad true n er h2)
    have h3 : ((er : Int) != 0) = true := by simp; omega
    go_enter Tryd.func69, Tryd.ntmps69
    go_wp2_with fail
    refine (isBase_yes _ (by omega) (by omega) _).mono ?_
    rintro e w1 ⟨rfl, rfl⟩
    go_wp2_with fail
    refine (HRD.out _).mono ?_
    rintro e w1 ⟨rfl, rfl⟩
    go_wp2
    go_ret2
    rw [HF.out]
    exact ⟨rfl, rfl⟩

theorem parse_bare (s : ByteArray) (hs : s.size ≤ maxLen) (h1 : ∀ h : 0 < s.size, ¬ (s[0]).toNat = 45) (base : Nat) (hb1 : 2 ≤ base) (hb2 : base ≤ 36) (w : World) :
    Calls Tryd.prog 69 #[.string s, .int .i64 (base : Int)] w fun e w' => e = .returned (.tuple #[.int .i64 (pv false (rdv base s.data.toList)).1, .int .i64 (((pv false (rdv base s.data.toList)).2 : Nat) : Int)]) ∧ w = w' := by
  obtain ⟨n, er, he⟩ : ∃ n er, rdv base s.data.toList = (n, er) := ⟨_, _, rfl⟩
  have hn : n ≤ 9223372036854775808 := by have := rdv_bound base hb1 s.data.toList; rw [he] at this; exact this
  rw [he]
  have HRD := Lib.hid fun w => read_eq s hs base hb1 hb2 n er he w
  have HE : s.data.toList = [] → (n, er) = (0, 5) := fun hz => by rw [← he, rdv, if_pos hz]
  have HE' := Lib.hid HE
  clear HE
  unfold maxLen at hs
  clear he
  have start : (0 < s.size ∧ Hid (∃ h : 0 < s.size, (((s[0]'h).toNat : Int) == 45) = false)) ∨ ¬ 0 < s.size := by
    by_cases h : 0 < s.size
    · exact .inl ⟨h, h, by have := h1 h; simp; omega⟩
    · exact .inr h
  clear h1
  rcases start with ⟨h0, hbb⟩ | h0
  · obtain ⟨h0', hb⟩ := hbb.out
    clear hbb
    by_cases h2 : er = 0
    · subst h2
      by_cases h4 : n = 9223372036854775808
      · have h5 : ((n : Int) == 9223372036854775808) = true := by simp; omega
        have H4 := Lib.hid h4
        clear h4
        go_enter Tryd.func69, Tryd.ntmps69
        go_wp2_with fail
        refine (isBase_yes _ (by omega) (by omega) _).mono ?_
        rintro e w1 ⟨rfl, rfl⟩
        go_wp2_with fail
        refine (HRD.out _).mono ?_
        rintro e w1 ⟨rfl, rfl⟩
        go_wp2
        go_ret2
        rw [H4.out, pv_great]
        exact ⟨rfl, rfl⟩
      · have h5 : ((n : Int) == 9223372036854775808) = false := by simp; omega
        have hn2 : n ≤ 9223372036854775807 := by omega
        have HF := Lib.hid (pv_above n h4)
        clear h4
        go_enter Tryd.func69, Tryd.ntmps69
        go_wp2_with fail
        refine (isBase_yes _ (by omega) (by omega) _).mono ?_
        rintro e w1 ⟨rfl, rfl⟩
        go_wp2_with fail
        refine (HRD.out _).mono ?_
        rintro e w1 ⟨rfl, rfl⟩
        go_wp2
        go_ret2
        rw [HF.out]
        exact ⟨rfl, rfl⟩
    · have HF := Lib.hid (pv_bad false n er h2)
      have h3 : ((er : Int) != 0) = true := by simp; omega
      go_enter Tryd.func69, Tryd.ntmps69
      go_wp2_with fail
      refine (isBase_yes _ (by omega) (by omega) _).mono ?_
      rintro e w1 ⟨rfl, rfl⟩
      go_wp2_with fail
      refine (HRD.out _).mono ?_
      rintro e w1 ⟨rfl, rfl⟩
      go_wp2
      go_ret2
      rw [HF.out]
      exact ⟨rfl, rfl⟩
  · have hz : s.data.toList = [] := by
      have e : s.data.toList.length = s.size := by simp
      exact List.eq_nil_of_length_eq_zero (by omega)
    have hne : (n, er) = (0, 5) := HE'.out hz
    cases hne
    have h3 : (((5 : Nat) : Int) != 0) = true := by decide
    clear hz
    go_enter Tryd.func69, Tryd.ntmps69
    go_wp2_with fail
    refine (isBase_yes _ (by omega) (by omega) _).mono ?_
    rintro e w1 ⟨rfl, rfl⟩
    go_wp2_with fail
    refine (HRD.out _).mono ?_
    rintro e w1 ⟨rfl, rfl⟩
    go_wp2
    go_ret2
    exact ⟨rfl, rfl⟩
end Go.Proofs.YthjmlgbnpnfkgaaDoor.Nu
