/- The statements' do, all of it. -/
import Derived.Test.YtipdjjgpcmbpdaaTab28
set_option linter.unusedVariables false
namespace Go.Proofs.Ytipdjjgpcmbpdaa.Ta
open Go.RowKit Go.ChangeShapes Go.WideShapes Go.ChangeAt Go.Proofs.Ytipdjjgpcmbpdaa.Va

theorem isTab_key {B b sz us : Nat} {w : World} {E : List (Vl × Vl × Int)} {last : Int} (h : IsTab B b w E last sz us) {j : Nat} {k v : Vl} {c : Int} (hj : E[j]? = some (k, v, c)) : k ≠ nul := by
  obtain ⟨_, _, _, _, R, _, _, _, rfl, _, _⟩ := h
  obtain ⟨i, r, _, rfl, _, _, hk, _⟩ := ents_row hj
  exact hk
theorem isTab_room2 {B b sz us : Nat} {w : World} {E : List (Vl × Vl × Int)} {last : Int} (h : IsTab B b w E last sz us) : E.length ≤ us ∧ us ≤ sz ∧ (E.length = 0 ∨ E.length < sz) := by
  obtain ⟨ar, cr, ap, cp, R, P, n, hT, rfl, rfl, rfl⟩ := h
  have h1 := hT.g.full
  have h2 : (ents R).length ≤ R.length := by unfold ents; rw [List.length_map]; exact List.length_filter_le _ _
  omega
/-- What an act makes of a table's keys. -/
inductive Does (kd : Int) (k v : Vl) (E : List (Vl × Vl × Int)) (last : Int) : List (Vl × Vl × Int) → Int → Prop
  | none (h : ¬ (kd = 0 ∧ k ≠ nul ∧ NoKey E k)) (h2 : kd ≠ 3) : Does kd k v E last E last
  | new (h0 : kd = 0) (h1 : k ≠ nul) (h2 : NoKey E k) : Does kd k v E last (E ++ [(k, v, last + 1)]) (last + 1)
  | set {j : Nat} {v0 : Vl} {c : Int} (hj : E[j]? = some (k, v0, c)) : Does kd k v E last (E.set j (k, v, c)) last
  | del {j : Nat} {v0 : Vl} {c : Int} (hj : E[j]? = some (k, v0, c)) : Does kd k v E last (E.eraseIdx j) last
  | clear (h : kd = 3) : Does kd k v E last [] last
theorem act_len {kd : Int} {k v : Vl} {E E' : List (Vl × Vl × Int)} {last last' : Int} (h : Does kd k v E last E' last') : E'.length ≤ E.length + 1 ∧ last' ≤ last + 1 := by
  cases h
  · exact ⟨by omega, by omega⟩
  · exact ⟨by simp, by omega⟩
  · exact ⟨by simp, by omega⟩
  · refine ⟨?_, by omega⟩
    rw [List.length_eraseIdx]; split <;> omega
  · exact ⟨by simp, by omega⟩
theorem do_any {B Bm b sz us cap : Nat} {ad : Option Addr} {E : List (Vl × Vl × Int)} {last : Int} (kd : Int) (k v : Vl) (hk : Ok1 k v) (w : World) (hB : B ≤ w.heap.size) (hBm : Hid (Bm ≤ B)) (hE : E.length ≤ 1000) (hl : last + 1 < 4611686018427387904) (h : IsTab B b w E last sz us) (hm : OwnM Bm ad cap w (prs E)) :
    ∃ E' last', Does kd k v E last E' last' ∧ Calls Try.prog 13 #[.pointer (some ⟨b, 0, none⟩), .slice ad E.length cap, opV kd k v] w (Did B Bm b w E' last') := by
  obtain ⟨hok, hz, _⟩ := hk
  by_cases h3 : kd = 3
  · subst h3; exact ⟨_, _, .clear rfl, do_clear k v w hB hBm hE h hm⟩
  rcases idx_tab k E with ⟨hi, hno⟩ | ⟨j, v0, c, hj, hi⟩
  · by_cases h0 : kd = 0
    · subst h0
      by_cases hn : k = nul
      · subst hn
        exact ⟨_, _, .none (fun h => h.2.1 rfl) (by decide), do_put_nul v hi w hB hBm hE h hm⟩
      · have hk0 : (k.1 == 0) = false := by rw [beq_eq_false_iff_ne]; exact fun e => hn (hz e)
        exact ⟨_, _, .new rfl hn (Or.inr hno), do_put_new k v hk0 hok hn (Or.inr hno) hl hi w hB hBm hE h hm⟩
    · by_cases h1 : kd = 1
      · subst h1
        exact ⟨_, _, .none (fun h => h0 h.1) h3, do_set_no k v hok hi (Or.inr hno) w hB hBm hE h hm⟩
      · by_cases h2 : kd = 2
        · subst h2
          exact ⟨_, _, .none (fun h => h0 h.1) h3, do_del_no k v hok hi (Or.inr hno) w hB hBm hE h hm⟩
        · exact ⟨_, _, .none (fun h => h0 h.1) h3, do_other kd ⟨h0, h1, h2, h3⟩ k v w hB hBm hE h hm⟩
  · have hn := isTab_key h hj
    have hyes : ¬ NoKey E k := fun hno => by
      rcases hno with e | hno
      · exact hn e
      · exact hno j v0 c hj
    by_cases h0 : kd = 0
    · subst h0
      have hk0 : (k.1 == 0) = false := by rw [beq_eq_false_iff_ne]; exact fun e => hn (hz e)
      exact ⟨_, _, .set hj, do_put_old k v hj hi hk0 w hB hBm hE h hm⟩
    · by_cases h1 : kd = 1
      · subst h1
        exact ⟨_, _, .set hj, do_set_yes k v hj hi w hB hBm hE h hm⟩
      · by_cases h2 : kd = 2
        · subst h2
          exact ⟨_, _, .del hj, do_del_yes k v hj hi w hB hBm hE h hm⟩
        · exact ⟨_, _, .none (fun h => h0 h.1) h3, do_other kd ⟨h0, h1, h2, h3⟩ k v w hB hBm hE h hm⟩
end Go.Proofs.Ytipdjjgpcmbpdaa.Ta
