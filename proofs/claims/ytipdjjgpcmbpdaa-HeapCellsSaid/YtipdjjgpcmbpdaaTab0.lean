/- Contracts of value.Hash: some number of 64 bits, the same for the same value. -/
import Derived.Test.YtipdjjgpcmbpdaaValBox
import Derived.Test.YtipdjjgpcmbpdaaHash
import Derived.Laws.Bits64
namespace Go.Proofs.Ytipdjjgpcmbpdaa.Ta
open Go.RowKit Go.ChangeShapes Go.WideShapes Go.ChangeAt Go.Proofs.Ytipdjjgpcmbpdaa.Va

theorem nhash_any (a : Int) (w : World) :
    Calls Try.prog 84 #[.int .i64 a] w fun e w' => e = .returned (.int .u64 ((Nu.hashN (Nu.U a) : Nat) : Int)) ∧ w = w' := by
  go_enter Try.func84, Try.ntmps84
  go_wp2
  go_ret
  refine ⟨ret_u64 ?_, rfl⟩
  rw [show IntKind.u64.wrap a = ((Nu.U a : Nat) : Int) from by rw [Nu.U_cast, IntKind.wrap_u64], Nu.mix1 _ (Nu.U_lt a), Nu.mix2 _ (Nu.mixN_lt _ _ _), Nu.mix3 _ (Nu.mixN_lt _ _ _)]
  rfl
/-- The hash of what is to come. -/
def mixed : List UInt8 → Int → Int
  | [], z => z
  | c :: l, z => mixed l (IntKind.u64.wrap (bits .xor .u64 z (c.toNat : Int) * 1099511628211))
theorem mixed_bd : ∀ (l : List UInt8) (z : Int), 0 ≤ z → z < 18446744073709551616 → 0 ≤ mixed l z ∧ mixed l z < 18446744073709551616
  | [], z, h1, h2 => ⟨h1, h2⟩
  | c :: l, z, _, _ => mixed_bd l _ (by rw [IntKind.wrap_u64]; omega) (by rw [IntKind.wrap_u64]; omega)
set_option maxHeartbeats 1000000 in
theorem shash_any (s : ByteArray) (hs : s.size ≤ 1048576) (w : World) : Calls Try.prog 83 #[.string s] w fun e w' => e = .returned (.int .u64 (mixed s.data.toList 14695981039346656037)) ∧ w = w' := by
  go_enter Try.func83, Try.ntmps83
  go_wp2
  go_loop [3, 7] (fun h i => ∃ (k : Nat) (z : Int), k ≤ s.size ∧ i = .int .i64 (k : Int) ∧ h = .int .u64 z ∧ Hid (mixed s.data.toList 14695981039346656037 = mixed (s.data.toList.drop k) z)) (fun _ i => s.size - (intOf i).toNat)
  case atStart => exact ⟨0, _, by omega, rfl, rfl, rfl⟩
  case round =>
    obtain ⟨k, z, hk, rfl, rfl, HR⟩ := hrel
    by_cases hlt : k < s.size
    · have hc := byte_lt s k hlt
      have hdr := Lib.hid (drop_byte s k hlt)
      go_wp2
      go_round
      case rel => exact ⟨k + 1, _, by omega, by go_num, rfl, by show _ = _; rw [HR.out, hdr.out]; rfl⟩
      case measure => simp [intOf]; omega
    · have hd := Lib.hid (drop_end s k (by omega))
      go_wp2
      go_ret
      exact ⟨ret_u64 (by rw [HR.out, hd.out]; rfl), rfl⟩
theorem drewN_below {B : Nat} {w w' : World} (h : Below B w w') : ∀ n, Below B w (w'.drewN n)
  | 0 => h
  | n + 1 => (drewN_below h n).drew
theorem wrap_small {k : Int} (h0 : 0 ≤ k) (h4 : k ≤ 4) : IntKind.u64.wrap k = k := by rw [IntKind.wrap_u64]; omega
/-- A value's hash. -/
def hsh (e : Int × Int × ByteArray) : Int := if e.1 = 3 then mixed e.2.2.data.toList 14695981039346656037 else IntKind.u64.wrap (((Nu.hashN (Nu.U e.2.1) : Nat) : Int) + e.1)
theorem hsh_bd (e : Int × Int × ByteArray) : 0 ≤ hsh e ∧ hsh e < 18446744073709551616 := by
  unfold hsh
  split
  · exact mixed_bd _ _ (by decide) (by decide)
  · rw [IntKind.wrap_u64]; omega
/-- A value that may be a key: its kind is one of the five, its text no longer than may be. -/
def okK (e : Int × Int × ByteArray) : Prop := 0 ≤ e.1 ∧ e.1 ≤ 4 ∧ e.2.2.size ≤ 1048576
set_option maxRecDepth 100000 in
theorem hash_any (e : Int × Int × ByteArray) (h : okK e) (w : World) : Calls Try.prog 82 #[.agg #[.int .i64 e.1, .int .i64 e.2.1, .string e.2.2]] w fun x w' => x = .returned (.int .u64 (hsh e)) ∧ Below w.heap.size w w' := by
  obtain ⟨k, n, s⟩ := e
  obtain ⟨h0, h4, hs⟩ := h
  simp only at h0 h4 hs ⊢
  by_cases h3 : k = 3
  · subst h3
    have HH := Lib.hid fun w => shash_any s hs w
    clear hs
    have HV : Hid (hsh (3, n, s) = mixed s.data.toList 14695981039346656037) := rfl
    generalize hsh (3, n, s) = v at *
    go_enter Try.func82, Try.ntmps82
    go_wp2_with fail
    refine (HH.out _).mono ?_
    rintro e _ ⟨rfl, rfl⟩
    go_wp2_with fail
    go_ret
    exact ⟨ret_u64 HV.out.symm, (Below.refl _ _).alloc (Nat.le_refl _) _⟩
  · have HH := Lib.hid fun w => nhash_any n w
    have HV : Hid (hsh (k, n, s) = IntKind.u64.wrap (((Nu.hashN (Nu.U n) : Nat) : Int) + k)) := by show _ = _; unfold hsh; rw [if_neg h3]
    generalize hsh (k, n, s) = v at *
    have e := beq_no' h3
    have hw := wrap_small h0 h4
    clear h3
    go_enter Try.func82, Try.ntmps82
    go_wp2_with fail
    go_quiet ((go_at_call 84; refine Calls.quiet_of_same ((HH.out _).mono fun _ _ h => ⟨h.1, h.2.symm⟩)))
    all_goals (try go_wp2)
    all_goals go_ret
    all_goals exact ⟨ret_u64 HV.out.symm, drewN_below ((Below.refl _ _).alloc (Nat.le_refl _) _) _⟩
end Go.Proofs.Ytipdjjgpcmbpdaa.Ta
