/- 'StrNames': the walk. -/
import Derived.Test.YtkpdjpplcejjiaaLess
namespace Go.Proofs.Ytkpdjpplcejjiaa
open Go.RowKit Go.ChangeShapes Go.WideShapes Go.ChangeAt

/-- May a byte stand in a name behind its first one? -/
def okN (c : Nat) : Bool := dgB c || stB c
theorem named_later : ∀ (l : List UInt8) (k : Nat), 0 < k → named l k = l.all fun c => okN c.toNat
  | [], k, _ => rfl
  | c :: l, k, h => by
    rw [named, named_later l (k + 1) (by omega), List.all_cons]
    congr 1
    unfold okAt okN
    rw [show decide (k = 0) = false by simp; omega]
    cases stB c.toNat <;> cases dgB c.toNat <;> rfl
theorem st_no_dg (c : Nat) (h : dgB c = true) : stB c = false := by
  unfold dgB at h
  unfold stB upB loB
  simp at h ⊢
  omega
theorem named_all (c : UInt8) (l : List UInt8) : named (c :: l) 0 = (!dgB c.toNat && ((c :: l).all fun c => okN c.toNat)) := by
  rw [named, named_later l 1 (by omega), List.all_cons]
  unfold okAt okN
  cases h : dgB c.toNat
  · simp
  · rw [st_no_dg _ h]; simp
theorem okN_yes (c : Nat) (h : (48 ≤ c ∧ c ≤ 57) ∨ (65 ≤ c ∧ c ≤ 90) ∨ c = 95 ∨ (97 ≤ c ∧ c ≤ 122)) : okN c = true := by
  unfold okN dgB stB upB loB; simp; omega
theorem okN_no (c : Nat) (h : c < 48 ∨ (57 < c ∧ c < 65) ∨ (90 < c ∧ c < 95) ∨ c = 96 ∨ 122 < c) : okN c = false := by
  unfold okN dgB stB upB loB; simp; omega
/-- Is a text a name? -/
def goodN (s : ByteArray) : Bool := decide (0 < s.size) && named s.data.toList 0

set_option maxRecDepth 100000 in
set_option maxHeartbeats 2000000 in
theorem strNames_walk (s : ByteArray) (_ : s.size ≤ maxLen) (m : Int) (w : World) (hm : w.cell? ⟨0, 0, none⟩ = some (.int .i64 m)) :
    Calls Try.prog 10 #[.string s] w fun e w' => e = .returned (.bool true) ∧ Below w.heap.size w w' := by
  have HT := Lib.hid (texts_any m w hm)
  clear hm
  by_cases hs : s.size ≤ 200
  · have HN := Lib.hid fun w => name_any s (by omega) w
    have hG : goodN s = (decide (0 < s.size) && named s.data.toList 0) := rfl
    rw [← hG] at HN
    generalize goodN s = G at *
    have h4 : (0 < s.size ∧ s.toList.isEmpty = false ∧ ∃ h0 : 0 < s.size, (48 ≤ s[0].toNat ∧ s[0].toNat ≤ 57) ∧ Hid ((false && (s.data.toList.drop 0).all fun c => okN c.toNat) = G)) ∨
        (0 < s.size ∧ s.toList.isEmpty = false ∧ ∃ h0 : 0 < s.size, (s[0].toNat < 48) ∧ Hid ((true && (s.data.toList.drop 0).all fun c => okN c.toNat) = G)) ∨
        (0 < s.size ∧ s.toList.isEmpty = false ∧ ∃ h0 : 0 < s.size, (57 < s[0].toNat) ∧ Hid ((true && (s.data.toList.drop 0).all fun c => okN c.toNat) = G)) ∨
        (s.size = 0 ∧ s.toList.isEmpty = true ∧ Hid ((false && (s.data.toList.drop 0).all fun c => okN c.toNat) = G)) := by
      by_cases h0 : 0 < s.size
      · have hd0 := drop_byte s 0 h0
        rw [List.drop_zero] at hd0
        have hne := some_bytes s h0
        have hD : G = (!dgB s[0].toNat && ((s.data.toList.drop 0).all fun c => okN c.toNat)) := by
          rw [hG, List.drop_zero, hd0, named_all, show decide (0 < s.size) = true by simp; exact h0, Bool.true_and]
        have h3 : (48 ≤ s[0].toNat ∧ s[0].toNat ≤ 57) ∨ s[0].toNat < 48 ∨ 57 < s[0].toNat := by omega
        rcases h3 with h3 | h3 | h3
        · exact .inl ⟨h0, hne, h0, h3, by show _ = _; rw [hD, show dgB s[0].toNat = true by unfold dgB; simp; omega]; rfl⟩
        · exact .inr (.inl ⟨h0, hne, h0, h3, by show _ = _; rw [hD, show dgB s[0].toNat = false by unfold dgB; simp; omega]; rfl⟩)
        · exact .inr (.inr (.inl ⟨h0, hne, h0, h3, by show _ = _; rw [hD, show dgB s[0].toNat = false by unfold dgB; simp; omega]; rfl⟩))
      · exact .inr (.inr (.inr ⟨by omega, no_bytes s (by omega), by show _ = _; rw [hG, decide_eq_false h0]; rfl⟩))
    clear hG
    rcases h4 with ⟨h0, hne, _, ⟨h1, h2⟩, HG⟩ | ⟨h0, hne, _, h1, HG⟩ | ⟨h0, hne, _, h1, HG⟩ | ⟨h0, hne, HG⟩
    rotate_left 3
    · go_enter Try.func10, Try.ntmps10
      go_wp2_with fail
      refine HT.out.mono ?_
      rintro e w1 ⟨rfl, hb1⟩
      go_wp2_with fail
      go_loopw [3, 26] (fun v i wr => ∃ (k : Nat) (g : Bool), k ≤ s.size ∧ i = .int .i64 (k : Int) ∧ v = .bool g ∧ Hid ((g && (s.data.toList.drop k).all fun c => okN c.toNat) = G) ∧ Below w.heap.size w wr) (fun _ i _ => s.size - (intOf i).toNat)
      case atStart =>
        first
          | exact ⟨0, false, by omega, rfl, by first | rfl | (simp; omega), HG.out, hb1⟩
          | exact ⟨0, true, by omega, rfl, by first | rfl | (simp; omega), HG.out, hb1⟩
      case round =>
        obtain ⟨k, g, hk, rfl, rfl, HU, hb⟩ := hrel
        by_cases hlt : k < s.size
        · exact absurd hlt (by omega)
        · have hgG : g = G := by
            have h := HU.out
            rw [drop_end s k (by omega)] at h
            simpa using h
          subst hgG
          clear HU
          go_wp2_with fail
          refine (HN.out _).mono ?_
          rintro e w2 ⟨rfl, rfl⟩
          go_wp2_with fail
          go_ret
          exact ⟨rfl, hb⟩
    all_goals
      go_enter Try.func10, Try.ntmps10
      go_wp2_with fail
      refine HT.out.mono ?_
      rintro e w1 ⟨rfl, hb1⟩
      go_wp2_with fail
      go_loopw [3, 26] (fun v i wr => ∃ (k : Nat) (g : Bool), k ≤ s.size ∧ i = .int .i64 (k : Int) ∧ v = .bool g ∧ Hid ((g && (s.data.toList.drop k).all fun c => okN c.toNat) = G) ∧ Below w.heap.size w wr) (fun _ i _ => s.size - (intOf i).toNat)
      case atStart =>
        first
          | exact ⟨0, false, by omega, rfl, by first | rfl | (simp; omega), HG.out, hb1⟩
          | exact ⟨0, true, by omega, rfl, by first | rfl | (simp; omega), HG.out, hb1⟩
      case round =>
        obtain ⟨k, g, hk, rfl, rfl, HU, hb⟩ := hrel
        by_cases hlt : k < s.size
        · have hc := byte_lt s k hlt
          have hd := drop_byte s k hlt
          cases g
          · have HU2 : Hid ((false && (s.data.toList.drop (k + 1)).all fun c => okN c.toNat) = G) := by show _ = _; rw [← HU.out]; rfl
            clear hd HU
            go_wp2_with fail
            go_roundw
            case rel => exact ⟨k + 1, _, by omega, by go_num, rfl, HU2, hb⟩
            case measure => simp [intOf]; omega
          · have hcase : ((48 ≤ s[k].toNat ∧ s[k].toNat ≤ 57) ∨ (65 ≤ s[k].toNat ∧ s[k].toNat ≤ 90) ∨ s[k].toNat = 95 ∨ (97 ≤ s[k].toNat ∧ s[k].toNat ≤ 122)) ∨ (s[k].toNat < 48 ∨ (57 < s[k].toNat ∧ s[k].toNat < 65) ∨ (90 < s[k].toNat ∧ s[k].toNat < 95) ∨ s[k].toNat = 96 ∨ 122 < s[k].toNat) := by omega
            rcases hcase with hy | hn
            · have HU2 : Hid ((true && (s.data.toList.drop (k + 1)).all fun c => okN c.toNat) = G) := by show _ = _; rw [← HU.out, hd, List.all_cons, okN_yes _ hy]; rfl
              clear hd HU
              rcases hy with ⟨y1, y2⟩ | ⟨y1, y2⟩ | y1 | ⟨y1, y2⟩
              all_goals
                go_wp2_with fail
                go_roundw
                case rel => exact ⟨k + 1, true, by omega, by go_num, by first | rfl | (simp; omega), HU2, hb⟩
                case measure => simp [intOf]; omega
            · have HU2 : Hid ((false && (s.data.toList.drop (k + 1)).all fun c => okN c.toNat) = G) := by show _ = _; rw [← HU.out, hd, List.all_cons, okN_no _ hn]; rfl
              clear hd HU
              rcases hn with y1 | ⟨y1, y2⟩ | ⟨y1, y2⟩ | y1 | y1
              all_goals
                go_wp2_with fail
                go_roundw
                case rel => exact ⟨k + 1, false, by omega, by go_num, by first | rfl | (simp; omega), HU2, hb⟩
                case measure => simp [intOf]; omega
        · have hgG : g = G := by
            have h := HU.out
            rw [drop_end s k (by omega)] at h
            simpa using h
          subst hgG
          clear HU
          go_wp2_with fail
          refine (HN.out _).mono ?_
          rintro e w2 ⟨rfl, rfl⟩
          go_wp2_with fail
          go_ret
          exact ⟨rfl, hb⟩
  · go_enter Try.func10, Try.ntmps10
    go_wp2_with fail
    refine HT.out.mono ?_
    rintro e w1 ⟨rfl, hb1⟩
    go_wp2_with fail
    go_ret
    exact ⟨rfl, hb1⟩
end Go.Proofs.Ytkpdjpplcejjiaa
