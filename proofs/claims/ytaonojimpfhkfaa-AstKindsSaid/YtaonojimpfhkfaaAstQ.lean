/- The reference: Is, One, Levels, Level. -/
import Derived.Test.YtaonojimpfhkfaaAstP
namespace Go.Proofs.Ytaonojimpfhkfaa.As
open Go.RowKit Go.ChangeShapes Go.WideShapes Go.ChangeAt

theorem is_E (k : Int) (w : World) : Calls Try.prog 22 #[.int .i64 k, .int .u8 69] w fun e w' => e = .returned (.bool (isE k)) ∧ w = w' := by
  by_cases h1 : 1 ≤ k
  all_goals
    go_enter Try.func22, Try.ntmps22
    go_wp2
    go_ret
    exact ⟨ret_b (by rw [Bool.eq_iff_iff]; simp [isE]; omega), rfl⟩
theorem is_S (k : Int) (w : World) : Calls Try.prog 22 #[.int .i64 k, .int .u8 83] w fun e w' => e = .returned (.bool (isS k)) ∧ w = w' := by
  by_cases h1 : 26 ≤ k
  all_goals
    go_enter Try.func22, Try.ntmps22
    go_wp2
    go_ret
    exact ⟨ret_b (by rw [Bool.eq_iff_iff]; simp [isS]; omega), rfl⟩
theorem is_L (k : Int) (w : World) : Calls Try.prog 22 #[.int .i64 k, .int .u8 76] w fun e w' => e = .returned (.bool (isL k)) ∧ w = w' := by
  by_cases h1 : 1 ≤ k
  all_goals
    go_enter Try.func22, Try.ntmps22
    go_wp2
    go_ret
    exact ⟨ret_b (by rw [Bool.eq_iff_iff]; simp [isL]; omega), rfl⟩
theorem is_T (k : Int) (w : World) : Calls Try.prog 22 #[.int .i64 k, .int .u8 84] w fun e w' => e = .returned (.bool (isT k)) ∧ w = w' := by
  by_cases h1 : k = 6
  · subst h1
    go_enter Try.func22, Try.ntmps22
    go_wp2
    go_ret
    exact ⟨rfl, rfl⟩
  by_cases h2 : k = 8
  · subst h2
    go_enter Try.func22, Try.ntmps22
    go_wp2
    go_ret
    exact ⟨rfl, rfl⟩
  by_cases h3 : k = 14
  · subst h3
    go_enter Try.func22, Try.ntmps22
    go_wp2
    go_ret
    exact ⟨rfl, rfl⟩
  by_cases h4 : k = 15
  · subst h4
    go_enter Try.func22, Try.ntmps22
    go_wp2
    go_ret
    exact ⟨rfl, rfl⟩
  have b1 : (k == 6) = false := by simpa using h1
  have b2 : (k == 8) = false := by simpa using h2
  have b3 : (k == 14) = false := by simpa using h3
  have b4 : (k == 15) = false := by simpa using h4
  have HE : Hid (false = isT k) := by show _ = _; unfold isT; rw [decide_eq_false h1, decide_eq_false h2, decide_eq_false h3, decide_eq_false h4]; rfl
  clear h1 h2 h3 h4
  go_enter Try.func22, Try.ntmps22
  go_wp2
  go_ret
  exact ⟨ret_b HE.out, rfl⟩
/-- A row of texts. -/
def RowS (w : World) (A : Option Addr) (L : List ByteArray) : Prop :=
  L = [] ∨ ∃ g o, A = some ⟨g, o, none⟩ ∧ ∀ (j : Nat) (x : ByteArray), L[j]? = some x → w.cell? ⟨g, o + j, none⟩ = some (.string x)
theorem rowS_new {w : World} {g : Nat} {L : List ByteArray} (h : w.heap[g]? = some (.cells ((L.map Value.string).toArray) 9 (0, 0))) : RowS w (some ⟨g, 0, none⟩) L := by
  refine Or.inr ⟨g, 0, rfl, fun j x hx => ?_⟩
  rw [cell_of_row w g (0 + j) _ _ _ h, Nat.zero_add]
  simp [hx]
/-- Is a text one of some? -/
def isIn (s : ByteArray) (L : List ByteArray) : Bool := (L.map (·.toList)).contains s.toList
theorem isIn_take {s x : ByteArray} {L : List ByteArray} {k : Nat} (h : L[k]? = some x) : isIn s (L.drop k) = ((x.toList == s.toList) || isIn s (L.drop (k + 1))) := by
  unfold isIn
  rw [drop_get h, List.map_cons, List.contains_cons]
  congr 1
  rw [Bool.eq_iff_iff, beq_iff_eq, beq_iff_eq]
  exact ⟨Eq.symm, Eq.symm⟩
set_option maxRecDepth 100000 in
set_option maxHeartbeats 1000000 in
theorem one_ref {w : World} {A : Option Addr} {c : Nat} {L : List ByteArray} (s : ByteArray) (h : RowS w A L) (hl : L.length ≤ 1000) :
    Calls Try.prog 41 #[.string s, .slice A L.length c] w fun e w' => e = .returned (.bool (isIn s L)) ∧ w = w' := by
  generalize hR : isIn s L = R
  have HR := Lib.hid hR
  clear hR
  have hlb : (L.length : Int) ≤ 1000 := by omega
  go_enter Try.func41, Try.ntmps41
  go_wp2
  go_loop [5] (fun i => ∃ k : Nat, k ≤ L.length ∧ i = .int .i64 (k : Int) ∧ Hid (R = isIn s (L.drop k))) (fun i => L.length - (intOf i).toNat)
  case atStart => exact ⟨0, Nat.zero_le _, rfl, HR.out.symm⟩
  case round =>
    obtain ⟨k, hk, rfl, HQ⟩ := hrel
    by_cases hlt : k < L.length
    · obtain ⟨x, hx⟩ := get_some hlt
      rcases h with h | ⟨g, o, rfl, h⟩
      · rw [h] at hlt; simp at hlt
      have hc := h k x hx
      have HD := Lib.hid (isIn_take (s := s) hx)
      have hkl : (k : Int) < (L.length : Int) := by omega
      clear hx h
      cases hb : (x.toList == s.toList)
      · have HB := Lib.hid hb
        go_wp2
        go_round
        case rel => exact ⟨k + 1, by omega, by go_num, by show _ = _; rw [HQ.out, HD.out, HB.out]; rfl⟩
        case measure => simp [intOf]; omega
      · have HB := Lib.hid hb
        go_wp2
        go_ret
        exact ⟨ret_b (by rw [HQ.out, HD.out, HB.out]; rfl), rfl⟩
    · go_wp2
      go_ret
      exact ⟨ret_b (by rw [HQ.out, List.drop_eq_nil_of_le (by omega)]; rfl), rfl⟩
/-- Blocks laid one behind the other. -/
def allocs (w : World) (os : List Obj) : World := os.foldl World.alloc w
theorem allocs_size (w : World) (os : List Obj) : (allocs w os).heap.size = w.heap.size + os.length := by
  induction os generalizing w with
  | nil => rfl
  | cons o os ih => show (allocs (w.alloc o) os).heap.size = _; rw [ih]; simp; omega
theorem allocs_below (w : World) (os : List Obj) : Below w.heap.size w (allocs w os) := by
  induction os generalizing w with
  | nil => exact Below.refl _ _
  | cons o os ih => exact (bel1 w o).trans ((ih (w.alloc o)).mono (by simp))
theorem allocs_at (w : World) (os : List Obj) (k : Nat) (o : Obj) (h : os[k]? = some o) : (allocs w os).heap[w.heap.size + k]? = some o := by
  induction os generalizing w k with
  | nil => simp at h
  | cons p os ih =>
    cases k with
    | zero =>
      obtain rfl : p = o := by simpa using h
      exact ((allocs_below (w.alloc p) os).block _ (by simp)).trans (new1 w p)
    | succ k =>
      have := ih (w.alloc p) k (by simpa using h)
      rw [show w.heap.size + (k + 1) = (w.alloc p).heap.size + k by simp; omega]
      exact this
def lvB : List (List ByteArray) := [[⟨#[124, 124]⟩], [⟨#[38, 38]⟩], [⟨#[124]⟩], [⟨#[94]⟩], [⟨#[38]⟩], [⟨#[61, 61]⟩, ⟨#[33, 61]⟩, ⟨#[60, 61, 62]⟩], [⟨#[60]⟩, ⟨#[60, 61]⟩, ⟨#[62]⟩, ⟨#[62, 61]⟩, ⟨#[105, 110]⟩, ⟨#[105, 110, 115, 116, 97, 110, 99, 101, 111, 102]⟩], [⟨#[60, 60]⟩, ⟨#[62, 62]⟩, ⟨#[62, 62, 62]⟩], [⟨#[43]⟩, ⟨#[45]⟩], [⟨#[42]⟩, ⟨#[47]⟩, ⟨#[37]⟩]]
theorem lvB_levs : lvB.map (fun l => l.map (·.toList)) = levs := by kernel_rfl
/-- The levels' rows in memory. -/
def Lvls (w : World) (g : Nat) : Prop := g < w.heap.size ∧ ∀ (i : Nat) (l : List ByteArray), lvB[i]? = some l → ∃ a, w.cell? ⟨g, i, none⟩ = some (.slice a l.length l.length) ∧ RowS w a l
def lvO (w : World) : List Obj := [(.cells #[.string ⟨#[124, 124]⟩] 9),
  (.cells #[.string ⟨#[38, 38]⟩] 9),
  (.cells #[.string ⟨#[124]⟩] 9),
  (.cells #[.string ⟨#[94]⟩] 9),
  (.cells #[.string ⟨#[38]⟩] 9),
  (.cells #[.string ⟨#[61, 61]⟩, .string ⟨#[33, 61]⟩, .string ⟨#[60, 61, 62]⟩] 9),
  (.cells #[.string ⟨#[60]⟩, .string ⟨#[60, 61]⟩, .string ⟨#[62]⟩, .string ⟨#[62, 61]⟩, .string ⟨#[105, 110]⟩, .string ⟨#[105, 110, 115, 116, 97, 110, 99, 101, 111, 102]⟩] 9),
  (.cells #[.string ⟨#[60, 60]⟩, .string ⟨#[62, 62]⟩, .string ⟨#[62, 62, 62]⟩] 9),
  (.cells #[.string ⟨#[43]⟩, .string ⟨#[45]⟩] 9),
  (.cells #[.string ⟨#[42]⟩, .string ⟨#[47]⟩, .string ⟨#[37]⟩] 9),
  (.cells #[.slice (some ⟨w.heap.size, 0, none⟩) 1 1, .slice (some ⟨w.heap.size + 1, 0, none⟩) 1 1, .slice (some ⟨w.heap.size + 1 + 1, 0, none⟩) 1 1, .slice (some ⟨w.heap.size + 1 + 1 + 1, 0, none⟩) 1 1, .slice (some ⟨w.heap.size + 1 + 1 + 1 + 1, 0, none⟩) 1 1, .slice (some ⟨w.heap.size + 1 + 1 + 1 + 1 + 1, 0, none⟩) 3 3, .slice (some ⟨w.heap.size + 1 + 1 + 1 + 1 + 1 + 1, 0, none⟩) 6 6, .slice (some ⟨w.heap.size + 1 + 1 + 1 + 1 + 1 + 1 + 1, 0, none⟩) 3 3, .slice (some ⟨w.heap.size + 1 + 1 + 1 + 1 + 1 + 1 + 1 + 1, 0, none⟩) 2 2, .slice (some ⟨w.heap.size + 1 + 1 + 1 + 1 + 1 + 1 + 1 + 1 + 1, 0, none⟩) 3 3] 74)]
set_option maxRecDepth 100000 in
theorem lvls_mk (w : World) : Lvls (allocs w (lvO w)) (w.heap.size + 1 + 1 + 1 + 1 + 1 + 1 + 1 + 1 + 1 + 1) := by
  have hout := allocs_at w (lvO w) 10 _ rfl
  refine ⟨by rw [allocs_size]; show w.heap.size + 10 < w.heap.size + 11; omega, fun i l hl => ?_⟩
  match i, hl with
  | 0, hl =>
    obtain rfl := Option.some.inj hl
    exact ⟨some ⟨w.heap.size, 0, none⟩, (cell_of_row _ (w.heap.size + 10) 0 _ _ _ hout).trans rfl, rowS_new (allocs_at w (lvO w) 0 _ rfl)⟩
  | 1, hl =>
    obtain rfl := Option.some.inj hl
    exact ⟨some ⟨w.heap.size + 1, 0, none⟩, (cell_of_row _ (w.heap.size + 10) 1 _ _ _ hout).trans rfl, rowS_new (allocs_at w (lvO w) 1 _ rfl)⟩
  | 2, hl =>
    obtain rfl := Option.some.inj hl
    exact ⟨some ⟨w.heap.size + 1 + 1, 0, none⟩, (cell_of_row _ (w.heap.size + 10) 2 _ _ _ hout).trans rfl, rowS_new (allocs_at w (lvO w) 2 _ rfl)⟩
  | 3, hl =>
    obtain rfl := Option.some.inj hl
    exact ⟨some ⟨w.heap.size + 1 + 1 + 1, 0, none⟩, (cell_of_row _ (w.heap.size + 10) 3 _ _ _ hout).trans rfl, rowS_new (allocs_at w (lvO w) 3 _ rfl)⟩
  | 4, hl =>
    obtain rfl := Option.some.inj hl
    exact ⟨some ⟨w.heap.size + 1 + 1 + 1 + 1, 0, none⟩, (cell_of_row _ (w.heap.size + 10) 4 _ _ _ hout).trans rfl, rowS_new (allocs_at w (lvO w) 4 _ rfl)⟩
  | 5, hl =>
    obtain rfl := Option.some.inj hl
    exact ⟨some ⟨w.heap.size + 1 + 1 + 1 + 1 + 1, 0, none⟩, (cell_of_row _ (w.heap.size + 10) 5 _ _ _ hout).trans rfl, rowS_new (allocs_at w (lvO w) 5 _ rfl)⟩
  | 6, hl =>
    obtain rfl := Option.some.inj hl
    exact ⟨some ⟨w.heap.size + 1 + 1 + 1 + 1 + 1 + 1, 0, none⟩, (cell_of_row _ (w.heap.size + 10) 6 _ _ _ hout).trans rfl, rowS_new (allocs_at w (lvO w) 6 _ rfl)⟩
  | 7, hl =>
    obtain rfl := Option.some.inj hl
    exact ⟨some ⟨w.heap.size + 1 + 1 + 1 + 1 + 1 + 1 + 1, 0, none⟩, (cell_of_row _ (w.heap.size + 10) 7 _ _ _ hout).trans rfl, rowS_new (allocs_at w (lvO w) 7 _ rfl)⟩
  | 8, hl =>
    obtain rfl := Option.some.inj hl
    exact ⟨some ⟨w.heap.size + 1 + 1 + 1 + 1 + 1 + 1 + 1 + 1, 0, none⟩, (cell_of_row _ (w.heap.size + 10) 8 _ _ _ hout).trans rfl, rowS_new (allocs_at w (lvO w) 8 _ rfl)⟩
  | 9, hl =>
    obtain rfl := Option.some.inj hl
    exact ⟨some ⟨w.heap.size + 1 + 1 + 1 + 1 + 1 + 1 + 1 + 1 + 1, 0, none⟩, (cell_of_row _ (w.heap.size + 10) 9 _ _ _ hout).trans rfl, rowS_new (allocs_at w (lvO w) 9 _ rfl)⟩
  | i + 10, hl => simp [lvB] at hl
set_option maxRecDepth 100000 in
set_option maxHeartbeats 4000000 in
theorem levels_any (w : World) : Calls Try.prog 40 #[] w fun e w' => ∃ g, e = .returned (.slice (some ⟨g, 0, none⟩) 10 10) ∧ Lvls w' g ∧ Below w.heap.size w w' := by
  have HL := Lib.hid (lvls_mk w)
  have HB := Lib.hid (allocs_below w (lvO w))
  go_enter Try.func40, Try.ntmps40
  go_wp2_with fail
  go_ret
  exact ⟨_, rfl, HL.out, HB.out⟩
theorem levN_drop (l : List UInt8) : ∀ (S : List (List (List UInt8))) (k : Nat) (x : List (List UInt8)), S[k]? = some x → ∀ j, levN l (S.drop k) j = if x.contains l = true then j else levN l (S.drop (k + 1)) (j + 1) := fun S k x h j => by
  rw [drop_get h]; rfl
set_option maxRecDepth 100000 in
set_option maxHeartbeats 2000000 in
theorem level_ref (s : ByteArray) (w : World) : Calls Try.prog 27 #[.string s] w fun e w' => e = .returned (.int .i64 (lev s.toList)) ∧ Below w.heap.size w w' := by
  generalize hR : lev s.toList = R
  have HR := Lib.hid hR
  clear hR
  go_enter Try.func27, Try.ntmps27
  go_wp2_with fail
  refine (levels_any _).mono ?_
  rintro e w1 ⟨g, rfl, hl, hb⟩
  have HL := Lib.hid hl
  have HB := Lib.hid hb
  clear hl hb
  go_wp2_with fail
  go_loop [4] (fun i => ∃ k : Nat, k ≤ 10 ∧ i = .int .i64 (k : Int) ∧ Hid (levN s.toList (levs.drop k) (k : Int) = R)) (fun i => 10 - (intOf i).toNat)
  case atStart => exact ⟨0, Nat.zero_le _, rfl, HR.out⟩
  case round =>
    obtain ⟨k, hk, rfl, HQ⟩ := hrel
    by_cases hlt : k < 10
    · obtain ⟨l, hl⟩ := get_some (show k < lvB.length from hlt)
      obtain ⟨a, hc, hrow⟩ := HL.out.2 k l hl
      have hlv : levs[k]? = some (l.map (·.toList)) := by rw [← lvB_levs, List.getElem?_map, hl]; rfl
      have HD := Lib.hid (levN_drop s.toList levs k _ hlv k)
      have hll : l.length ≤ 1000 := by
        have : l ∈ lvB := List.mem_of_getElem? hl
        have hall : ∀ x ∈ lvB, x.length ≤ 1000 := by unfold lvB; simp
        exact hall l this
      have HC : Hid (∀ c, Calls Try.prog 41 #[.string s, .slice a l.length c] w1 fun e w' => e = .returned (.bool ((l.map (·.toList)).contains s.toList)) ∧ w1 = w') := fun c => one_ref s hrow hll
      have hkl : (k : Int) < 10 := by omega
      clear hl hrow hlv hll
      generalize hb : (l.map (·.toList)).contains s.toList = b at *
      have HBq := Lib.hid hb
      clear hb
      cases b
      · go_wp2_with fail
        refine (HC.out _).mono ?_
        rintro e w' ⟨rfl, rfl⟩
        go_wp2_with fail
        go_round
        case rel => exact ⟨k + 1, by omega, by go_num, by show _ = _; rw [← HQ.out, HD.out]; simp⟩
        case measure => simp [intOf]; omega
      · go_wp2_with fail
        refine (HC.out _).mono ?_
        rintro e w' ⟨rfl, rfl⟩
        go_wp2_with fail
        go_ret
        exact ⟨ret_i64 (by rw [← HQ.out, HD.out]; simp), HB.out⟩
    · have hke : k = 10 := by omega
      subst hke
      go_wp2_with fail
      go_ret
      exact ⟨ret_i64 (by rw [← HQ.out]; rfl), HB.out⟩
end Go.Proofs.Ytaonojimpfhkfaa.As
