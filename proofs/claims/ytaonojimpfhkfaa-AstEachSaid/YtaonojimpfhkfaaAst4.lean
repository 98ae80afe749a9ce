/- Rows of tests: all, headed, row. -/
import Derived.Test.YtaonojimpfhkfaaAst3
namespace Go.Proofs.Ytaonojimpfhkfaa.As
open Go.RowKit Go.ChangeShapes Go.WideShapes Go.ChangeAt

theorem ts_e (k : Int) (w : World) : Calls Try.prog 21 #[.int .i64 k] w fun e w' => e = .returned (.bool (Tst.ok .e k)) ∧ w = w' := expr_any k w
theorem ts_s (k : Int) (w : World) : Calls Try.prog 23 #[.int .i64 k] w fun e w' => e = .returned (.bool (Tst.ok .s k)) ∧ w = w' := stmt_any k w
theorem ts_t (k : Int) (w : World) : Calls Try.prog 24 #[.int .i64 k] w fun e w' => e = .returned (.bool (Tst.ok .tg k)) ∧ w = w' := target_any k w
theorem ts_l (k : Int) (w : World) : Calls Try.prog 25 #[.int .i64 k] w fun e w' => e = .returned (.bool (Tst.ok .lt k)) ∧ w = w' := literal_any k w
theorem ts_one {w : World} {B g c : Nat} {A : Option Addr} {ks : List Int} (k : Int) (hg : w.heap[g]? = some (.cells #[.slice A ks.length c] 35 (0, 0))) (h : RowI w B A ks) (hl : ks.length ≤ 1000) :
    Calls Try.prog 62 #[.int .i64 k, .pointer (some ⟨g, 0, none⟩)] w fun e w' => e = .returned (.bool (Tst.ok (.one ks) k)) ∧ w = w' := one_any k hg h hl

theorem allB_take (L : List Int) (t : Tst) (k : Nat) (x : Int) (h : L[k]? = some x) : allB (L.drop k) t = (t.ok x && allB (L.drop (k + 1)) t) := by
  rw [drop_get h]; rfl
set_option maxRecDepth 100000 in
set_option maxHeartbeats 4000000 in
theorem all_any {w : World} {B B2 c : Nat} {A : Option Addr} {L : List Int} {v : Value} (t : Tst) (h : RowI w B A L) (hl : L.length ≤ 1000000) (hv : TsV w B2 t v) :
    Calls Try.prog 61 #[.slice A L.length c, v] w fun e w' => e = .returned (.bool (allB L t)) ∧ w = w' := by
  have HL := Lib.hid hl
  go_enter Try.func61, Try.ntmps61
  go_wp2
  go_loop [9] (fun i => ∃ k : Nat, k ≤ L.length ∧ i = .int .i64 (k : Int) ∧ Hid (allB L t = allB (L.drop k) t)) (fun i => L.length - (intOf i).toNat)
  case atStart => exact ⟨0, Nat.zero_le _, rfl, rfl⟩
  case round =>
    obtain ⟨k, hk, rfl, HR⟩ := hrel
    by_cases hlt : k < L.length
    · obtain ⟨y, hy⟩ := get_some hlt
      obtain ⟨g, o, rfl, _, hc⟩ := h.at_ hy
      have HD := Lib.hid (allB_take L t k y hy)
      clear hy
      cases t with
      | e =>
        obtain rfl := hv
        have HC := Lib.hid (ts_e y w)
        generalize Tst.ok .e y = b at *
        cases b
        · go_wp2_with fail
          refine HC.out.mono ?_
          rintro e w' ⟨rfl, rfl⟩
          go_wp2_with fail
          go_ret
          exact ⟨ret_b (by rw [HR.out, HD.out]; rfl), rfl⟩
        · go_wp2_with fail
          refine HC.out.mono ?_
          rintro e w' ⟨rfl, rfl⟩
          go_wp2_with fail
          go_round
          case rel => exact ⟨k + 1, by omega, by go_num, by show _ = _; rw [HR.out, HD.out]; rfl⟩
          case measure => simp [intOf]; omega
      | s =>
        obtain rfl := hv
        have HC := Lib.hid (ts_s y w)
        generalize Tst.ok .s y = b at *
        cases b
        · go_wp2_with fail
          refine HC.out.mono ?_
          rintro e w' ⟨rfl, rfl⟩
          go_wp2_with fail
          go_ret
          exact ⟨ret_b (by rw [HR.out, HD.out]; rfl), rfl⟩
        · go_wp2_with fail
          refine HC.out.mono ?_
          rintro e w' ⟨rfl, rfl⟩
          go_wp2_with fail
          go_round
          case rel => exact ⟨k + 1, by omega, by go_num, by show _ = _; rw [HR.out, HD.out]; rfl⟩
          case measure => simp [intOf]; omega
      | tg =>
        obtain rfl := hv
        have HC := Lib.hid (ts_t y w)
        generalize Tst.ok .tg y = b at *
        cases b
        · go_wp2_with fail
          refine HC.out.mono ?_
          rintro e w' ⟨rfl, rfl⟩
          go_wp2_with fail
          go_ret
          exact ⟨ret_b (by rw [HR.out, HD.out]; rfl), rfl⟩
        · go_wp2_with fail
          refine HC.out.mono ?_
          rintro e w' ⟨rfl, rfl⟩
          go_wp2_with fail
          go_round
          case rel => exact ⟨k + 1, by omega, by go_num, by show _ = _; rw [HR.out, HD.out]; rfl⟩
          case measure => simp [intOf]; omega
      | lt =>
        obtain rfl := hv
        have HC := Lib.hid (ts_l y w)
        generalize Tst.ok .lt y = b at *
        cases b
        · go_wp2_with fail
          refine HC.out.mono ?_
          rintro e w' ⟨rfl, rfl⟩
          go_wp2_with fail
          go_ret
          exact ⟨ret_b (by rw [HR.out, HD.out]; rfl), rfl⟩
        · go_wp2_with fail
          refine HC.out.mono ?_
          rintro e w' ⟨rfl, rfl⟩
          go_wp2_with fail
          go_round
          case rel => exact ⟨k + 1, by omega, by go_num, by show _ = _; rw [HR.out, HD.out]; rfl⟩
          case measure => simp [intOf]; omega
      | one ks =>
        obtain ⟨g, A, c, rfl, _, h1, h2, h3⟩ := hv
        have HC := Lib.hid (ts_one y h1 h2 h3)
        clear h1 h2 h3
        generalize Tst.ok (.one ks) y = b at *
        cases b
        · go_wp2_with fail
          refine HC.out.mono ?_
          rintro e w' ⟨rfl, rfl⟩
          go_wp2_with fail
          go_ret
          exact ⟨ret_b (by rw [HR.out, HD.out]; rfl), rfl⟩
        · go_wp2_with fail
          refine HC.out.mono ?_
          rintro e w' ⟨rfl, rfl⟩
          go_wp2_with fail
          go_round
          case rel => exact ⟨k + 1, by omega, by go_num, by show _ = _; rw [HR.out, HD.out]; rfl⟩
          case measure => simp [intOf]; omega
      | pe =>
        obtain ⟨g, rfl, _, h1⟩ := hv
        have HC := Lib.hid (pe_any y h1)
        clear h1
        generalize Tst.ok .pe y = b at *
        cases b
        · go_wp2_with fail
          refine HC.out.mono ?_
          rintro e w' ⟨rfl, rfl⟩
          go_wp2_with fail
          go_ret
          exact ⟨ret_b (by rw [HR.out, HD.out]; rfl), rfl⟩
        · go_wp2_with fail
          refine HC.out.mono ?_
          rintro e w' ⟨rfl, rfl⟩
          go_wp2_with fail
          go_round
          case rel => exact ⟨k + 1, by omega, by go_num, by show _ = _; rw [HR.out, HD.out]; rfl⟩
          case measure => simp [intOf]; omega
      | po ks =>
        obtain ⟨g, u, rfl, _, h1, h2⟩ := hv
        have HC := Lib.hid (po_any y h1 h2)
        clear h1 h2
        generalize Tst.ok (.po ks) y = b at *
        cases b
        · go_wp2_with fail
          refine HC.out.mono ?_
          rintro e w' ⟨rfl, rfl⟩
          go_wp2_with fail
          go_ret
          exact ⟨ret_b (by rw [HR.out, HD.out]; rfl), rfl⟩
        · go_wp2_with fail
          refine HC.out.mono ?_
          rintro e w' ⟨rfl, rfl⟩
          go_wp2_with fail
          go_round
          case rel => exact ⟨k + 1, by omega, by go_num, by show _ = _; rw [HR.out, HD.out]; rfl⟩
          case measure => simp [intOf]; omega
    · go_wp2
      go_ret
      exact ⟨ret_b (by rw [HR.out, List.drop_eq_nil_of_le (by omega)]; rfl), rfl⟩
theorem RowI.tail {w : World} {B : Nat} {g o : Nat} {x : Int} {r : List Int} (h : RowI w B (some ⟨g, o, none⟩) (x :: r)) : RowI w B (some ⟨g, o + 1, none⟩) r := by
  rcases h with h | ⟨g', o', e, hg, h⟩
  · cases h
  · obtain ⟨rfl, rfl⟩ : g = g' ∧ o = o' := by simpa using e
    exact Or.inr ⟨g, o + 1, rfl, hg, fun j y hy => by rw [Nat.add_right_comm, Nat.add_assoc]; exact h (j + 1) y (by simpa using hy)⟩
theorem RowI.some_ {w : World} {B : Nat} {A : Option Addr} {x : Int} {r : List Int} (h : RowI w B A (x :: r)) : ∃ g o, A = some ⟨g, o, none⟩ ∧ g < B ∧ w.cell? ⟨g, o, none⟩ = some (.int .i64 x) := by
  obtain ⟨g, o, e, hg, hc⟩ := h.at_ (j := 0) (x := x) rfl
  exact ⟨g, o, e, hg, hc⟩

/-- A row of tests below block 'B'. -/
def RowT (w : World) (B : Nat) (A : Option Addr) (ts : List Tst) : Prop :=
  ts = [] ∨ ∃ g o, A = some ⟨g, o, none⟩ ∧ ∀ (j : Nat) (t : Tst), ts[j]? = some t → ∃ v, w.cell? ⟨g, o + j, none⟩ = some v ∧ TsV w B t v
theorem rowB_take {L : List Int} {ts : List Tst} {k : Nat} {x : Int} {t : Tst} (h : L[k]? = some x) (h2 : ts[k]? = some t) : rowB (L.drop k) (ts.drop k) = (t.ok x && rowB (L.drop (k + 1)) (ts.drop (k + 1))) := by
  rw [drop_get h, drop_get h2]; rfl
theorem rowB_len : ∀ (L : List Int) (ts : List Tst), L.length ≠ ts.length → rowB L ts = false
  | [], [], h => absurd rfl h
  | [], _ :: _, _ => rfl
  | _ :: _, [], _ => rfl
  | x :: r, t :: ts, h => by rw [rowB, rowB_len r ts (by simpa using h)]; simp
set_option maxRecDepth 100000 in
set_option maxHeartbeats 4000000 in
theorem row_any {w : World} {B B2 c mc : Nat} {A T : Option Addr} {L : List Int} {ts : List Tst} (h : RowI w B A L) (hl : L.length ≤ 1000000) (hv : RowT w B2 T ts) (hm : ts.length ≤ 1000) :
    Calls Try.prog 64 #[.slice A L.length c, .slice T ts.length mc] w fun e w' => e = .returned (.bool (rowB L ts)) ∧ w = w' := by
  have HL := Lib.hid hl
  have HM := Lib.hid hm
  by_cases hlen : L.length = ts.length
  · have hb : ((L.length : Int) != (ts.length : Int)) = false := by simp [hlen]
    go_enter Try.func64, Try.ntmps64
    go_wp2
    go_loop [14] (fun i => ∃ k : Nat, k ≤ ts.length ∧ i = .int .i64 (k : Int) ∧ Hid (rowB L ts = rowB (L.drop k) (ts.drop k))) (fun i => ts.length - (intOf i).toNat)
    case atStart => exact ⟨0, Nat.zero_le _, rfl, rfl⟩
    case round =>
      obtain ⟨k, hk, rfl, HR⟩ := hrel
      by_cases hlt : k < ts.length
      · obtain ⟨y, hy⟩ := get_some (show k < L.length by omega)
        obtain ⟨t, ht⟩ := get_some hlt
        obtain ⟨g, o, rfl, _, hc⟩ := h.at_ hy
        rcases hv with hv | ⟨gt, ot, rfl, hv⟩
        · rw [hv] at hlt; simp at hlt
        obtain ⟨v, hcv, hv1⟩ := hv k t ht
        have HD := Lib.hid (rowB_take hy ht)
        have hk1 : (k : Int) < (L.length : Int) := by omega
        have HLEN := Lib.hid hlen
        clear hy ht hv hlen
        cases t with
        | e =>
          obtain rfl := hv1
          have HC := Lib.hid (ts_e y w)
          generalize Tst.ok .e y = b at *
          cases b
          · go_wp2_with fail
            refine HC.out.mono ?_
            rintro e w' ⟨rfl, rfl⟩
            go_wp2_with fail
            go_ret
            exact ⟨ret_b (by rw [HR.out, HD.out]; rfl), rfl⟩
          · go_wp2_with fail
            refine HC.out.mono ?_
            rintro e w' ⟨rfl, rfl⟩
            go_wp2_with fail
            go_round
            case rel => exact ⟨k + 1, by omega, by go_num, by show _ = _; rw [HR.out, HD.out]; rfl⟩
            case measure => simp [intOf]; omega
        | s =>
          obtain rfl := hv1
          have HC := Lib.hid (ts_s y w)
          generalize Tst.ok .s y = b at *
          cases b
          · go_wp2_with fail
            refine HC.out.mono ?_
            rintro e w' ⟨rfl, rfl⟩
            go_wp2_with fail
            go_ret
            exact ⟨ret_b (by rw [HR.out, HD.out]; rfl), rfl⟩
          · go_wp2_with fail
            refine HC.out.mono ?_
            rintro e w' ⟨rfl, rfl⟩
            go_wp2_with fail
            go_round
            case rel => exact ⟨k + 1, by omega, by go_num, by show _ = _; rw [HR.out, HD.out]; rfl⟩
            case measure => simp [intOf]; omega
        | tg =>
          obtain rfl := hv1
          have HC := Lib.hid (ts_t y w)
          generalize Tst.ok .tg y = b at *
          cases b
          · go_wp2_with fail
            refine HC.out.mono ?_
            rintro e w' ⟨rfl, rfl⟩
            go_wp2_with fail
            go_ret
            exact ⟨ret_b (by rw [HR.out, HD.out]; rfl), rfl⟩
          · go_wp2_with fail
            refine HC.out.mono ?_
            rintro e w' ⟨rfl, rfl⟩
            go_wp2_with fail
            go_round
            case rel => exact ⟨k + 1, by omega, by go_num, by show _ = _; rw [HR.out, HD.out]; rfl⟩
            case measure => simp [intOf]; omega
        | lt =>
          obtain rfl := hv1
          have HC := Lib.hid (ts_l y w)
          generalize Tst.ok .lt y = b at *
          cases b
          · go_wp2_with fail
            refine HC.out.mono ?_
            rintro e w' ⟨rfl, rfl⟩
            go_wp2_with fail
            go_ret
            exact ⟨ret_b (by rw [HR.out, HD.out]; rfl), rfl⟩
          · go_wp2_with fail
            refine HC.out.mono ?_
            rintro e w' ⟨rfl, rfl⟩
            go_wp2_with fail
            go_round
            case rel => exact ⟨k + 1, by omega, by go_num, by show _ = _; rw [HR.out, HD.out]; rfl⟩
            case measure => simp [intOf]; omega
        | one ks1 =>
          obtain ⟨g1, A1, c1, rfl, _, h11, h21, h31⟩ := hv1
          have HC := Lib.hid (ts_one y h11 h21 h31)
          clear h11 h21 h31
          generalize Tst.ok (.one ks1) y = b at *
          cases b
          · go_wp2_with fail
            refine HC.out.mono ?_
            rintro e w' ⟨rfl, rfl⟩
            go_wp2_with fail
            go_ret
            exact ⟨ret_b (by rw [HR.out, HD.out]; rfl), rfl⟩
          · go_wp2_with fail
            refine HC.out.mono ?_
            rintro e w' ⟨rfl, rfl⟩
            go_wp2_with fail
            go_round
            case rel => exact ⟨k + 1, by omega, by go_num, by show _ = _; rw [HR.out, HD.out]; rfl⟩
            case measure => simp [intOf]; omega
        | pe =>
          obtain ⟨g1, rfl, _, h11⟩ := hv1
          have HC := Lib.hid (pe_any y h11)
          clear h11
          generalize Tst.ok .pe y = b at *
          cases b
          · go_wp2_with fail
            refine HC.out.mono ?_
            rintro e w' ⟨rfl, rfl⟩
            go_wp2_with fail
            go_ret
            exact ⟨ret_b (by rw [HR.out, HD.out]; rfl), rfl⟩
          · go_wp2_with fail
            refine HC.out.mono ?_
            rintro e w' ⟨rfl, rfl⟩
            go_wp2_with fail
            go_round
            case rel => exact ⟨k + 1, by omega, by go_num, by show _ = _; rw [HR.out, HD.out]; rfl⟩
            case measure => simp [intOf]; omega
        | po ks1 =>
          obtain ⟨g1, u1, rfl, _, h11, h21⟩ := hv1
          have HC := Lib.hid (po_any y h11 h21)
          clear h11 h21
          generalize Tst.ok (.po ks1) y = b at *
          cases b
          · go_wp2_with fail
            refine HC.out.mono ?_
            rintro e w' ⟨rfl, rfl⟩
            go_wp2_with fail
            go_ret
            exact ⟨ret_b (by rw [HR.out, HD.out]; rfl), rfl⟩
          · go_wp2_with fail
            refine HC.out.mono ?_
            rintro e w' ⟨rfl, rfl⟩
            go_wp2_with fail
            go_round
            case rel => exact ⟨k + 1, by omega, by go_num, by show _ = _; rw [HR.out, HD.out]; rfl⟩
            case measure => simp [intOf]; omega
      · go_wp2
        go_ret
        exact ⟨ret_b (by rw [HR.out, List.drop_eq_nil_of_le (by omega), List.drop_eq_nil_of_le (by omega)]; rfl), rfl⟩
  · have hb : ((L.length : Int) != (ts.length : Int)) = true := by simp; omega
    have HN := Lib.hid (rowB_len L ts hlen)
    clear hlen
    go_enter Try.func64, Try.ntmps64
    go_wp2
    go_ret
    exact ⟨ret_b HN.out.symm, rfl⟩
end Go.Proofs.Ytaonojimpfhkfaa.As
