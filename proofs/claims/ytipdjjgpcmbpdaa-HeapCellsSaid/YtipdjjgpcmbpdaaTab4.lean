/- Contracts of table.New, Len, Room, Get, Has; what stays when a table turns. -/
import Derived.Test.YtipdjjgpcmbpdaaTab3
import Derived.BigRegion
set_option linter.unusedVariables false
namespace Go.Proofs.Ytipdjjgpcmbpdaa.Ta
open Go.RowKit Go.ChangeShapes Go.WideShapes Go.ChangeAt Go.Proofs.Ytipdjjgpcmbpdaa.Va

/-- A block that is no table's. -/
def NotT (A : Obj) : Prop := ∀ cur t fr, A = .cells cur t fr → t ≠ 109 ∧ t ≠ 21 ∧ t ≠ 103
/-- Only blocks of tables have turned. -/
structure FrT (w w' : World) : Prop where
  os : w'.os = w.os
  tape : w'.tape = w.tape
  output : w'.output = w.output
  size : w.heap.size ≤ w'.heap.size
  block : ∀ (k : Nat) (A : Obj), w.heap[k]? = some A → NotT A → w'.heap[k]? = some A
theorem frT_refl (w : World) : FrT w w := ⟨rfl, rfl, rfl, Nat.le_refl _, fun _ _ h _ => h⟩
theorem frT_trans {w W w' : World} (h1 : FrT w W) (h2 : FrT W w') : FrT w w' :=
  ⟨h2.os.trans h1.os, h2.tape.trans h1.tape, h2.output.trans h1.output, Nat.le_trans h1.size h2.size, fun k A h n => h2.block k A (h1.block k A h n) n⟩
theorem frT_below {w w' : World} (h : Below w.heap.size w w') : FrT w w' := ⟨h.os, h.tape, h.output, h.size, fun k A hA _ => (h.block k (lt_of_block hA)).trans hA⟩
theorem frT_set {w : World} {g o : Nat} {v : Value} {cur : Array Value} {t : TypeId} {fr : Nat × Nat} (h : w.heap[g]? = some (.cells cur t fr)) (ht : t = 109 ∨ t = 21 ∨ t = 103) : FrT w (w.setCell ⟨g, o, none⟩ v) :=
  ⟨rfl, rfl, rfl, by simp [World.setCell], fun k A hA hn => by
    have hne : ¬ g = k := by
      rintro rfl
      rw [h] at hA
      obtain ⟨n1, n2, n3⟩ := hn cur t fr (Option.some.inj hA).symm
      rcases ht with e | e | e
      · exact n1 e
      · exact n2 e
      · exact n3 e
    simp only [World.setCell, Array.getElem?_modify]
    rw [if_neg hne]; exact hA⟩

/-- A table has just these keys, with their values and cursors; so many places, so many of them taken. -/
def IsTab (B b : Nat) (w : World) (E : List (Vl × Vl × Int)) (last : Int) (sz us : Nat) : Prop :=
  ∃ ar cr ap cp R P n, Tab B b ar cr ap cp w R P n last ∧ ents R = E ∧ P.length = sz ∧ R.length = us
theorem isTab_below {B b sz us : Nat} {w w' : World} {E : List (Vl × Vl × Int)} {last : Int} (h : IsTab B b w E last sz us) (hb : Below w.heap.size w w') : IsTab B b w' E last sz us := by
  obtain ⟨ar, cr, ap, cp, R, P, n, hT, h1, h2, h3⟩ := h
  exact ⟨ar, cr, ap, cp, R, P, n, tab_below hT hb, h1, h2, h3⟩
theorem isTab_low {B b sz us : Nat} {w : World} {E : List (Vl × Vl × Int)} {last : Int} (h : IsTab B b w E last sz us) : B ≤ b ∧ b < w.heap.size := by
  obtain ⟨ar, cr, ap, cp, R, P, n, hT, h1, h2, h3⟩ := h
  exact ⟨hT.low, lt_of_block hT.blk⟩
/-- Which row a key stands in. -/
theorem ents_row : ∀ {R : List Rw} {j : Nat} {k v : Vl} {c : Int}, (ents R)[j]? = some (k, v, c) → ∃ (i : Nat) (r : Rw), R[i]? = some r ∧ r.k = k ∧ r.v = v ∧ r.c = c ∧ k ≠ nul ∧ rank R i = j
  | [], j, k, v, c, h => by simp [ents] at h
  | x :: R, j, k, v, c, h => by
    have hx : ents (x :: R) = ents [x] ++ ents R := ents_append [x] R
    rw [hx] at h
    by_cases hk : x.k = nul
    · rw [ents_dead hk, List.nil_append] at h
      obtain ⟨i, r, h1, h2, h3, h4, h5, h6⟩ := ents_row h
      refine ⟨i + 1, r, h1, h2, h3, h4, h5, ?_⟩
      show (ents (x :: R.take i)).length = j
      rw [show x :: R.take i = [x] ++ R.take i from rfl, ents_append, ents_dead hk, List.nil_append]; exact h6
    · rw [ents_live hk] at h
      cases j with
      | zero =>
        simp at h
        exact ⟨0, x, rfl, h.1, h.2.1, h.2.2, by rw [← h.1]; exact hk, rfl⟩
      | succ j =>
        rw [List.getElem?_append_right (by simp)] at h
        simp at h
        obtain ⟨i, r, h1, h2, h3, h4, h5, h6⟩ := ents_row h
        refine ⟨i + 1, r, h1, h2, h3, h4, h5, ?_⟩
        show (ents (x :: R.take i)).length = j + 1
        rw [show x :: R.take i = [x] ++ R.take i from rfl, ents_append, ents_live hk, List.length_append, List.length_singleton, Nat.add_comm]; exact congrArg (· + 1) h6
theorem ents_no {R : List Rw} {key : Vl} (hk : key ≠ nul) (h : ∀ (j : Nat) (v : Vl) (c : Int), (ents R)[j]? ≠ some (key, v, c)) : ∀ (i : Nat) (r : Rw), R[i]? = some r → r.k ≠ key := by
  intro i r hi e
  exact h _ _ _ (by have := ents_at hi (by rw [e]; exact hk); rw [e] at this; exact this)
theorem ents_pos {R : List Rw} {j : Nat} {e : Vl × Vl × Int} (h : (ents R)[j]? = some e) : (ents R).length ≠ 0 := by
  have := (List.getElem?_eq_some_iff.1 h).1; omega
theorem find_yes {B b cr cp n i : Nat} {ar ap : Option Addr} {R : List Rw} {P : List Int} {last : Int} {r : Rw} (hi : R[i]? = some r) (hk : r.k ≠ nul) (w : World) (h : Tab B b ar cr ap cp w R P n last) :
    Calls Try.prog 64 #[.pointer (some ⟨b, 0, none⟩), .agg #[.int .i64 r.k.1, .int .i64 r.k.2.1, .string r.k.2.2]] w fun x w' => x = .returned (.int .i64 (i : Int)) ∧ Below w.heap.size w w' := by
  have hn : n ≠ 0 := by rw [h.cnt]; exact ents_pos (ents_at hi hk)
  have hP : 0 < P.length := by have := h.g.full; have := (List.getElem?_eq_some_iff.1 hi).1; omega
  obtain ⟨t, ht, hs, hnn⟩ := stop_least h.g hP r.k
  have hp := found_at h.g hi hk ht hs hnn
  refine (find_key r.k (h.ok i r hi) hk hn ht hs hnn hp w h).mono ?_
  rintro x w' ⟨rfl, hb⟩
  exact ⟨ret_i64 (by omega), hb⟩
theorem find_no {B b cr cp n : Nat} {ar ap : Option Addr} {R : List Rw} {P : List Int} {last : Int} (key : Vl) (hok : okK key) (hk : key = nul ∨ ∀ (i : Nat) (r : Rw), R[i]? = some r → r.k ≠ key) (w : World) (h : Tab B b ar cr ap cp w R P n last) :
    Calls Try.prog 64 #[.pointer (some ⟨b, 0, none⟩), .agg #[.int .i64 key.1, .int .i64 key.2.1, .string key.2.2]] w fun x w' => x = .returned (.int .i64 (-1)) ∧ Below w.heap.size w w' := by
  by_cases h0 : n = 0 ∨ key = nul
  · exact find_nul key h0 w h
  · have hkn : key ≠ nul := fun e => h0 (Or.inr e)
    have hno := hk.resolve_left hkn
    have hP : 0 < P.length := by
      rcases h.g.pw with ⟨h1, h2⟩ | ⟨e, h1, _⟩
      · subst h2; have := h.cnt; simp [ents] at this; omega
      · have : 0 < 2 ^ (e + 1) := Nat.pow_pos (by decide)
        omega
    obtain ⟨t, ht, hs, hnn⟩ := stop_least h.g hP key
    refine (find_key key hok hkn (by omega) ht hs hnn (lost_at hno hs) w h).mono ?_
    rintro x w' ⟨rfl, hb⟩
    exact ⟨rfl, hb⟩

set_option maxRecDepth 100000 in
theorem tnew_any (w : World) : Calls Try.prog 12 #[] w fun x w' => ∃ b, x = .returned (.pointer (some ⟨b, 0, none⟩)) ∧ IsTab w.heap.size b w' [] 0 0 0 ∧ Below w.heap.size w w' := by
  have hA := heap_alloc_new w (.cells #[.slice none 0 0, .slice none 0 0, .int .i64 0, .int .i64 0] 103)
  have hE : Below w.heap.size w (w.alloc (.cells #[.slice none 0 0, .slice none 0 0, .int .i64 0, .int .i64 0] 103)) := (Below.refl _ _).alloc (Nat.le_refl _) _
  have HT : Hid (IsTab w.heap.size w.heap.size (w.alloc (.cells #[.slice none 0 0, .slice none 0 0, .int .i64 0, .int .i64 0] 103)) [] 0 0 0) :=
    ⟨none, 0, none, 0, [], [], 0, ⟨hA, Nat.le_refl _, World.ownsRow_nil _ _ _ _, World.ownsRow_nil _ _ _ _, good_none 0, rfl, fun i r h => by simp at h, by omega⟩, rfl, rfl, rfl⟩
  have HE := Lib.hid hE
  clear hA hE
  go_enter Try.func12, Try.ntmps12
  go_wp2_with fail
  go_ret
  exact ⟨_, rfl, HT.out, HE.out⟩
set_option maxRecDepth 100000 in
theorem tlen_any {B b sz us : Nat} {E : List (Vl × Vl × Int)} {last : Int} (w : World) (h : IsTab B b w E last sz us) :
    Calls Try.prog 16 #[.pointer (some ⟨b, 0, none⟩)] w fun x w' => x = .returned (.int .i64 (E.length : Int)) ∧ w = w' := by
  obtain ⟨ar, cr, ap, cp, R, P, n, hT, rfl, _, _⟩ := h
  obtain ⟨c0, c1, c2, c3, z0, z1, z2, z3⟩ := four_cells hT.blk
  have HC := Lib.hid hT.cnt
  clear hT
  go_enter Try.func16, Try.ntmps16
  go_wp2_with fail
  go_ret
  exact ⟨ret_i64 (by rw [HC.out]), rfl⟩
set_option maxRecDepth 100000 in
theorem room_any {B b sz us : Nat} {E : List (Vl × Vl × Int)} {last : Int} (w : World) (h : IsTab B b w E last sz us) :
    Calls Try.prog 15 #[.pointer (some ⟨b, 0, none⟩)] w fun x w' => x = .returned (.tuple #[.int .i64 (sz : Int), .int .i64 (us : Int)]) ∧ Below w.heap.size w w' := by
  obtain ⟨ar, cr, ap, cp, R, P, n, hT, _, rfl, rfl⟩ := h
  obtain ⟨c0, c1, c2, c3, z0, z1, z2, z3⟩ := four_cells hT.blk
  clear hT
  go_enter Try.func15, Try.ntmps15
  go_wp2_with fail
  go_quiet (fail)
  go_wp2_with fail
  go_ret2
  exact ⟨rfl, below_drewN (Below.refl _ _) _⟩
set_option maxRecDepth 100000 in
theorem has_yes {B b sz us j : Nat} {E : List (Vl × Vl × Int)} {last : Int} {k v : Vl} {c : Int} (hj : E[j]? = some (k, v, c)) (w : World) (h : IsTab B b w E last sz us) :
    Calls Try.prog 56 #[.pointer (some ⟨b, 0, none⟩), .agg #[.int .i64 k.1, .int .i64 k.2.1, .string k.2.2]] w fun x w' => x = .returned (.bool true) ∧ Below w.heap.size w w' := by
  obtain ⟨ar, cr, ap, cp, R, P, n, hT, rfl, _, _⟩ := h
  obtain ⟨i, r, hi, rfl, rfl, rfl, hk, _⟩ := ents_row hj
  have hE : Below w.heap.size w (w.alloc (.cells #[.int .i64 r.k.1, .int .i64 r.k.2.1, .string r.k.2.2] 30)) := (Below.refl _ _).alloc (Nat.le_refl _) _
  have HF := Lib.hid (find_yes hi hk _ (tab_below hT hE))
  have HE := Lib.hid hE
  clear hT hE hj hi hk
  generalize r.k = k at *
  go_enter Try.func56, Try.ntmps56
  go_wp2_with fail
  refine HF.out.mono ?_
  rintro e w1 ⟨rfl, hb1⟩
  have HZ := Lib.hid (HE.out.trans (hb1.mono HE.out.size))
  clear hb1
  go_wp2_with fail
  go_ret
  exact ⟨rfl, HZ.out⟩
/-- A key isn't there. -/
def NoKey (E : List (Vl × Vl × Int)) (key : Vl) : Prop := key = nul ∨ ∀ (j : Nat) (v : Vl) (c : Int), E[j]? ≠ some (key, v, c)
theorem noKey_rows {R : List Rw} {key : Vl} (h : NoKey (ents R) key) : key = nul ∨ ∀ (i : Nat) (r : Rw), R[i]? = some r → r.k ≠ key := by
  by_cases hk : key = nul
  · exact Or.inl hk
  · exact Or.inr (ents_no hk (h.resolve_left hk))
set_option maxRecDepth 100000 in
set_option maxHeartbeats 1000000 in
theorem get_no {B b sz us : Nat} {E : List (Vl × Vl × Int)} {last : Int} (key : Vl) (hok : okK key) (hn : NoKey E key) (w : World) (h : IsTab B b w E last sz us) :
    Calls Try.prog 50 #[.pointer (some ⟨b, 0, none⟩), .agg #[.int .i64 key.1, .int .i64 key.2.1, .string key.2.2]] w fun x w' => x = .returned (.tuple #[.agg #[.int .i64 0, .int .i64 0, .string ⟨#[]⟩], .int .i64 3]) ∧ Below w.heap.size w w' := by
  obtain ⟨ar, cr, ap, cp, R, P, n, hT, rfl, _, _⟩ := h
  have hE1 : Below w.heap.size w (w.alloc (.cells #[.int .i64 key.1, .int .i64 key.2.1, .string key.2.2] 30)) := (Below.refl _ _).alloc (Nat.le_refl _) _
  have hE := hE1.alloc (by simp) (.cells #[.int .i64 0, .int .i64 0, .string ⟨#[]⟩] 30)
  have HF := Lib.hid (find_no key hok (noKey_rows hn) _ (tab_below hT hE))
  have hq := heap_alloc_new (w.alloc (.cells #[.int .i64 key.1, .int .i64 key.2.1, .string key.2.2] 30)) (.cells #[.int .i64 0, .int .i64 0, .string ⟨#[]⟩] 30)
  have hs : (w.alloc (.cells #[.int .i64 key.1, .int .i64 key.2.1, .string key.2.2] 30)).heap.size = w.heap.size + 1 := by simp
  rw [hs] at hq
  have HE := Lib.hid hE
  have HQ := Lib.hid hq
  clear hT hE hE1 hq hn hok hs
  go_enter Try.func50, Try.ntmps50
  go_wp2_with fail
  refine HF.out.mono ?_
  rintro e w1 ⟨rfl, hb1⟩
  have HZ := Lib.hid (HE.out.trans (hb1.mono HE.out.size))
  have HQ1 := Lib.hid (keep HQ.out hb1)
  clear hb1
  go_wp2_with fail
  refine (null_any _).mono ?_
  rintro e w2 ⟨rfl, hb2⟩
  have hz2 := HZ.out.trans (hb2.mono HZ.out.size)
  have hq2 := keep HQ1.out hb2
  obtain ⟨a0, a1, a2, b0, b1, b2⟩ := three_facts hq2
  have HR := Lib.hid hq2
  have HZ2 := Lib.hid hz2
  clear hz2 hq2 hb2
  go_wp2_with fail
  (try simp only [Exit.inBlock, Exit.then])
  refine bodyPost_ret (Va.results_cell_tmp rfl _ _ (w.heap.size + 1) 30 #[.int .i64 0, .int .i64 0, .string ⟨#[]⟩] (0, 0) _ rfl (heap_three HR.out _ _ _) Try.underlying30 rfl A.infoV) ?_ ?_
  · rfl
  · exact ⟨rfl, ((HZ2.out.setCell (by simp) _).setCell (by simp) _).setCell (by simp) _⟩
set_option maxRecDepth 100000 in
set_option maxHeartbeats 1000000 in
theorem get_yes {B b sz us j : Nat} {E : List (Vl × Vl × Int)} {last : Int} {k v : Vl} {c : Int} (hj : E[j]? = some (k, v, c)) (w : World) (h : IsTab B b w E last sz us) :
    Calls Try.prog 50 #[.pointer (some ⟨b, 0, none⟩), .agg #[.int .i64 k.1, .int .i64 k.2.1, .string k.2.2]] w fun x w' => x = .returned (.tuple #[.agg #[.int .i64 v.1, .int .i64 v.2.1, .string v.2.2], .int .i64 0]) ∧ Below w.heap.size w w' := by
  obtain ⟨ar, cr, ap, cp, R, P, n, hT, rfl, _, _⟩ := h
  obtain ⟨i, r, hi, rfl, rfl, rfl, hk, _⟩ := ents_row hj
  have hE1 : Below w.heap.size w (w.alloc (.cells #[.int .i64 r.k.1, .int .i64 r.k.2.1, .string r.k.2.2] 30)) := (Below.refl _ _).alloc (Nat.le_refl _) _
  have hE := hE1.alloc (by simp) (.cells #[.int .i64 0, .int .i64 0, .string ⟨#[]⟩] 30)
  have HF := Lib.hid (find_yes hi hk _ (tab_below hT hE))
  have hq := heap_alloc_new (w.alloc (.cells #[.int .i64 r.k.1, .int .i64 r.k.2.1, .string r.k.2.2] 30)) (.cells #[.int .i64 0, .int .i64 0, .string ⟨#[]⟩] 30)
  have hs : (w.alloc (.cells #[.int .i64 r.k.1, .int .i64 r.k.2.1, .string r.k.2.2] 30)).heap.size = w.heap.size + 1 := by simp
  rw [hs] at hq
  obtain ⟨gr, rfl, _, hgr⟩ := row_some hT.r (by have := (List.getElem?_eq_some_iff.1 hi).1; omega)
  have hil := (List.getElem?_eq_some_iff.1 hi).1
  have hrb := (plen hT.g).2
  have HE := Lib.hid hE
  have HQ := Lib.hid hq
  have HT := Lib.hid hT
  have HI := Lib.hid hi
  have hi0 : (0 : Int) ≤ (i : Int) := by omega
  have hi1 : (i : Int) < (R.length : Int) := by omega
  clear hT hE hE1 hq hj hs hk hi hil
  generalize r.k = k at *
  go_enter Try.func50, Try.ntmps50
  go_wp2_with fail
  refine HF.out.mono ?_
  rintro e w1 ⟨rfl, hb1⟩
  have hz := HE.out.trans (hb1.mono HE.out.size)
  have hq1 := keep HQ.out hb1
  have hT1 := tab_below HT.out hz
  obtain ⟨d0, d1, d2, d3, _, _, _, _⟩ := four_cells hT1.blk
  obtain ⟨_, _, _, r3, r4, r5, _, _⟩ := ownR_at hT1.r HI.out
  obtain ⟨a0, a1, a2, b0, b1, b2⟩ := three_facts hq1
  have HZ := Lib.hid hz
  have HR := Lib.hid hq1
  clear hb1 hz hq1 hT1
  go_wp2_with fail
  (try simp only [Exit.inBlock, Exit.then])
  refine bodyPost_ret (Va.results_cell_tmp rfl _ _ (w.heap.size + 1) 30 #[.int .i64 r.v.1, .int .i64 r.v.2.1, .string r.v.2.2] (0, 0) _ rfl (heap_three HR.out _ _ _) Try.underlying30 rfl A.infoV) ?_ ?_
  · rfl
  · exact ⟨rfl, ((HZ.out.setCell (by simp) _).setCell (by simp) _).setCell (by simp) _⟩
end Go.Proofs.Ytipdjjgpcmbpdaa.Ta
