/- Tests of kids as function values; rows of tests. -/
import Derived.Test.YtaonojimpfhkfaaAst2
namespace Go.Proofs.Ytaonojimpfhkfaa.As
open Go.RowKit Go.ChangeShapes Go.WideShapes Go.ChangeAt

/-- Where a number stands first. -/
def findI (x : Int) : List Int → Nat → Int
  | [], _ => -1
  | y :: r, k => if x = y then (k : Int) else findI x r (k + 1)
theorem findI_contains (x : Int) : ∀ (L : List Int) (k : Nat), decide (0 ≤ findI x L k) = L.contains x
  | [], k => by simp [findI]
  | y :: r, k => by
    have := findI_contains x r (k + 1)
    rw [findI]
    by_cases h : x = y
    · rw [if_pos h, h]; simp
    · rw [if_neg h, this]; simp [h]
theorem drop_get {α : Type} {L : List α} {k : Nat} {x : α} (h : L[k]? = some x) : L.drop k = x :: L.drop (k + 1) := by
  obtain ⟨h1, h2⟩ := List.getElem?_eq_some_iff.1 h
  rw [List.drop_eq_getElem_cons h1, h2]
set_option maxRecDepth 100000 in
set_option maxHeartbeats 1000000 in
theorem indexI_any {w : World} {B c : Nat} {A : Option Addr} {L : List Int} (x : Int) (h : RowI w B A L) (hl : L.length ≤ 1000000) :
    Calls Try.prog 69 #[.slice A L.length c, .int .i64 x] w fun e w' => e = .returned (.int .i64 (findI x L 0)) ∧ w = w' := by
  have HL := Lib.hid hl
  go_enter Try.func69, Try.ntmps69
  go_wp2
  go_loop [8] (fun i => ∃ k : Nat, k ≤ L.length ∧ i = .int .i64 (k : Int) ∧ Hid (findI x L 0 = findI x (L.drop k) k)) (fun i => L.length - (intOf i).toNat)
  case atStart => exact ⟨0, Nat.zero_le _, rfl, rfl⟩
  case round =>
    obtain ⟨k, hk, rfl, HR⟩ := hrel
    by_cases hlt : k < L.length
    · obtain ⟨y, hy⟩ := get_some hlt
      obtain ⟨g, o, rfl, _, hc⟩ := h.at_ hy
      have HD := Lib.hid (drop_get hy)
      clear hy
      by_cases hxy : x = y
      · subst hxy
        go_wp2
        go_ret
        exact ⟨ret_i64 (by rw [HR.out, HD.out, findI, if_pos rfl]), rfl⟩
      · have hb : (x == y) = false := by simpa using hxy
        go_wp2
        go_round
        case rel => exact ⟨k + 1, by omega, by go_num, by show _ = _; rw [HR.out, HD.out, findI, if_neg hxy]⟩
        case measure => simp [intOf]; omega
    · go_wp2
      go_ret
      exact ⟨ret_i64 (by rw [HR.out, List.drop_eq_nil_of_le (by omega)]; rfl), rfl⟩
theorem contains_any {w : World} {B c : Nat} {A : Option Addr} {L : List Int} (x : Int) (h : RowI w B A L) (hl : L.length ≤ 1000000) :
    Calls Try.prog 63 #[.slice A L.length c, .int .i64 x] w fun e w' => e = .returned (.bool (L.contains x)) ∧ w = w' := by
  have HE := Lib.hid (findI_contains x L 0)
  have HI := Lib.hid fun c => indexI_any (c := c) x h hl
  go_enter Try.func63, Try.ntmps63
  go_wp2_with fail
  refine (HI.out _).mono ?_
  rintro e w' ⟨rfl, rfl⟩
  generalize findI x L 0 = F at *
  go_wp2
  go_ret
  exact ⟨ret_b HE.out, rfl⟩

/-! tests as function values -/
def fnE : Value := .func (.func 21) #[] #[]
def OneV (w : World) (B : Nat) (ks : List Int) (v : Value) : Prop :=
  ∃ (g : Nat) (A : Option Addr) (c : Nat), v = .func (.func 62) #[] #[.pointer (some ⟨g, 0, none⟩)] ∧ g < B ∧ w.heap[g]? = some (.cells #[.slice A ks.length c] 35 (0, 0)) ∧ RowI w B A ks ∧ ks.length ≤ 1000
def TsV (w : World) (B : Nat) : Tst → Value → Prop
  | .e, v => v = .func (.func 21) #[] #[]
  | .s, v => v = .func (.func 23) #[] #[]
  | .tg, v => v = .func (.func 24) #[] #[]
  | .lt, v => v = .func (.func 25) #[] #[]
  | .one ks, v => OneV w B ks v
  | .pe, v => ∃ g : Nat, v = .func (.func 70) #[] #[.pointer (some ⟨g, 0, none⟩)] ∧ g < B ∧ w.heap[g]? = some (.cells #[.func (.func 21) #[] #[]] 50 (0, 0))
  | .po ks, v => ∃ (g : Nat) (u : Value), v = .func (.func 70) #[] #[.pointer (some ⟨g, 0, none⟩)] ∧ g < B ∧ w.heap[g]? = some (.cells #[u] 50 (0, 0)) ∧ OneV w B ks u
theorem OneV.keep {w w' : World} {B B' : Nat} {ks : List Int} {v : Value} (h : OneV w B ks v) (hB : B ≤ B') (hk : ∀ b, b < B → w'.heap[b]? = w.heap[b]?) : OneV w' B' ks v := by
  obtain ⟨g, A, c, e, hg, h1, h2, h3⟩ := h
  exact ⟨g, A, c, e, by omega, (hk g hg).trans h1, h2.keep hB hk, h3⟩
theorem TsV.keep {w w' : World} {B B' : Nat} {t : Tst} {v : Value} (h : TsV w B t v) (hB : B ≤ B') (hk : ∀ b, b < B → w'.heap[b]? = w.heap[b]?) : TsV w' B' t v := by
  cases t with
  | e => exact h
  | s => exact h
  | tg => exact h
  | lt => exact h
  | one ks => exact OneV.keep h hB hk
  | pe => obtain ⟨g, e, hg, h1⟩ := h; exact ⟨g, e, by omega, (hk g hg).trans h1⟩
  | po ks => obtain ⟨g, u, e, hg, h1, h2⟩ := h; exact ⟨g, u, e, by omega, (hk g hg).trans h1, h2.keep hB hk⟩
theorem one_any {w : World} {B g c : Nat} {A : Option Addr} {ks : List Int} (k : Int) (hg : w.heap[g]? = some (.cells #[.slice A ks.length c] 35 (0, 0))) (h : RowI w B A ks) (hl : ks.length ≤ 1000) :
    Calls Try.prog 62 #[.int .i64 k, .pointer (some ⟨g, 0, none⟩)] w fun e w' => e = .returned (.bool (ks.contains k)) ∧ w = w' := by
  have hc := cell_of_one hg
  have HI := Lib.hid (contains_any (c := c) k h (by omega))
  clear hg h
  generalize ks.contains k = F at *
  go_enter Try.func62, Try.ntmps62
  go_wp2_with fail
  refine HI.out.mono ?_
  rintro e w' ⟨rfl, rfl⟩
  go_wp2
  go_ret
  exact ⟨rfl, rfl⟩
theorem pe_any {w : World} {g : Nat} (k : Int) (hg : w.heap[g]? = some (.cells #[.func (.func 21) #[] #[]] 50 (0, 0))) :
    Calls Try.prog 70 #[.int .i64 k, .pointer (some ⟨g, 0, none⟩)] w fun e w' => e = .returned (.bool (Tst.ok .pe k)) ∧ w = w' := by
  have hc := cell_of_one hg
  clear hg
  generalize hR : Tst.ok .pe k = R
  have HR := Lib.hid hR
  clear hR
  by_cases h0 : k = 0
  · subst h0
    have HE : Hid (true = R) := by show _ = _; rw [← HR.out]; rfl
    clear HR
    go_enter Try.func70, Try.ntmps70
    go_wp2
    go_ret
    exact ⟨ret_b HE.out, rfl⟩
  · have hb : (k == 0) = false := by simpa using h0
    have HE : Hid (isE k = R) := by show _ = _; rw [← HR.out]; unfold Tst.ok; simp [h0]
    clear HR
    go_enter Try.func70, Try.ntmps70
    go_wp2_with fail
    refine (expr_any k _).mono ?_
    rintro e w' ⟨rfl, rfl⟩
    generalize isE k = F at *
    go_wp2
    go_ret
    exact ⟨ret_b HE.out, rfl⟩
theorem po_any {w : World} {B g : Nat} {ks : List Int} {u : Value} (k : Int) (hg : w.heap[g]? = some (.cells #[u] 50 (0, 0))) (hu : OneV w B ks u) :
    Calls Try.prog 70 #[.int .i64 k, .pointer (some ⟨g, 0, none⟩)] w fun e w' => e = .returned (.bool (Tst.ok (.po ks) k)) ∧ w = w' := by
  obtain ⟨g1, A, c, rfl, _, h1, h2, h3⟩ := hu
  have hc := cell_of_one hg
  have HO := Lib.hid (one_any k h1 h2 h3)
  clear hg h1 h2
  generalize hR : Tst.ok (.po ks) k = R
  have HR := Lib.hid hR
  clear hR
  by_cases h0 : k = 0
  · subst h0
    have HE : Hid (true = R) := by show _ = _; rw [← HR.out]; rfl
    clear HR
    go_enter Try.func70, Try.ntmps70
    go_wp2
    go_ret
    exact ⟨ret_b HE.out, rfl⟩
  · have hb : (k == 0) = false := by simpa using h0
    have HE : Hid (ks.contains k = R) := by show _ = _; rw [← HR.out]; unfold Tst.ok; simp [h0]
    clear HR
    go_enter Try.func70, Try.ntmps70
    go_wp2_with fail
    refine HO.out.mono ?_
    rintro e w' ⟨rfl, rfl⟩
    generalize ks.contains k = F at *
    go_wp2
    go_ret
    exact ⟨ret_b HE.out, rfl⟩
end Go.Proofs.Ytaonojimpfhkfaa.As
