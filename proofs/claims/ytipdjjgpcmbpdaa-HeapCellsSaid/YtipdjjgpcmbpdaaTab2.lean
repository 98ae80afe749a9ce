/- A table in memory: its rows, its places; contracts of none, place, find. -/
import Derived.Test.YtipdjjgpcmbpdaaTab1
import Derived.Test.YtipdjjgpcmbpdaaList1
import Derived.Laws.BitsAllLaws
set_option linter.unusedVariables false
namespace Go.Proofs.Ytipdjjgpcmbpdaa.Ta
open Go.RowKit Go.ChangeShapes Go.WideShapes Go.ChangeAt Go.Proofs.Ytipdjjgpcmbpdaa.Va

def celR (r : Rw) : List Value := [.int .i64 r.k.1, .int .i64 r.k.2.1, .string r.k.2.2, .int .i64 r.v.1, .int .i64 r.v.2.1, .string r.v.2.2, .int .i64 r.c, .int .i64 r.s]
def flatR (R : List Rw) : List Value := R.flatMap celR
def cip (p : Int) : Value := .int .i32 p
theorem flatR_cons (r : Rw) (R : List Rw) : flatR (r :: R) = celR r ++ flatR R := rfl
theorem flatR_append (R S : List Rw) : flatR (R ++ S) = flatR R ++ flatR S := List.flatMap_append ..
theorem flatR_one (r : Rw) : flatR [r] = celR r := by simp [flatR]
theorem flatR_len : ∀ R : List Rw, (flatR R).length = R.length * 8
  | [] => rfl
  | r :: R => by rw [flatR_cons, List.length_append, flatR_len R]; simp [celR]; omega
theorem flatR_cells : ∀ (R : List Rw), ∀ u ∈ flatR R, u.oneCell' = true
  | [], u, h => by simp [flatR] at h
  | r :: R, u, h => by
    rw [flatR_cons, List.mem_append] at h
    rcases h with h | h
    · simp [celR] at h
      rcases h with rfl | rfl | rfl | rfl | rfl | rfl | rfl | rfl <;> rfl
    · exact flatR_cells R u h
theorem flatR_at : ∀ (R : List Rw) (i : Nat) (r : Rw) (h : R[i]? = some r) (j : Nat), j < 8 → (flatR R)[i * 8 + j]? = (celR r)[j]?
  | [], i, r, h, _, _ => by simp at h
  | x :: R, 0, r, h, j, hj => by
    simp at h; subst h
    rw [flatR_cons, Nat.zero_mul, Nat.zero_add, List.getElem?_append_left (by simp [celR]; omega)]
  | x :: R, i + 1, r, h, j, hj => by
    have ih := flatR_at R i r (by simpa using h) j hj
    rw [flatR_cons, List.getElem?_append_right (by simp [celR]; omega), show (i + 1) * 8 + j - (celR x).length = i * 8 + j by simp [celR]; omega]
    exact ih
theorem A.infoR : (Try.prog.info? 109).map (fun i => (i.zero, i.size, i.bytes)) = some (some (.agg #[.int .i64 0, .int .i64 0, .string ⟨#[]⟩, .int .i64 0, .int .i64 0, .string ⟨#[]⟩, .int .i64 0, .int .i64 0]), 8, 80) := by kernel_rfl
theorem A.infoP : (Try.prog.info? 21).map (fun i => (i.zero, i.size, i.bytes)) = some (some (.int .i32 0), 1, 4) := by kernel_rfl
def OwnR (B : Nat) (ad : Option Addr) (cap : Nat) (w : World) (R : List Rw) : Prop := w.ownsRow B 109 8 (.slice ad R.length cap) R.length (flatR R)
def OwnP (B : Nat) (ad : Option Addr) (cap : Nat) (w : World) (P : List Int) : Prop := w.ownsRow B 21 1 (.slice ad P.length cap) P.length (P.map cip)
theorem row_some {B e size : Nat} {ad : Option Addr} {cap n : Nat} {w : World} {xs : List Value} (h : w.ownsRow B e size (.slice ad n cap) n xs) (h0 : 0 < n) : ∃ g, ad = some ⟨g, 0, none⟩ ∧ B ≤ g ∧ g < w.heap.size := by
  rcases h.2 with ⟨_, e⟩ | ⟨g, cap', cur, hv, hB, hg, _⟩
  · omega
  · simp only [Value.slice.injEq] at hv
    exact ⟨g, hv.1, hB, lt_of_block hg⟩
theorem row_block {B e size : Nat} {ad : Option Addr} {cap n : Nat} {w : World} {xs : List Value} (h : w.ownsRow B e size (.slice ad n cap) n xs) : ∀ g, ad.map (·.block) = some g → B ≤ g ∧ ∃ cur, w.heap[g]? = some (.cells cur e (0, 0)) := by
  intro g x
  rcases h.2 with ⟨hv, _⟩ | ⟨g', c, cur, hv, hb, hg, _⟩
  · simp only [Value.slice.injEq] at hv; rw [hv.1] at x; cases x
  · simp only [Value.slice.injEq] at hv; rw [hv.1] at x; simp at x; subst x; exact ⟨hb, cur, hg⟩
theorem row_below {B e size : Nat} {v : Value} {n : Nat} {w w' : World} {xs : List Value} (h : w.ownsRow B e size v n xs) (hb : Below w.heap.size w w') : w'.ownsRow B e size v n xs :=
  World.ownsRow.kept (row := none) h ⟨hb.os, hb.tape, hb.output, hb.size, fun k hk _ => hb.block k hk⟩ (Classical.em _)
theorem row_cap {B e size : Nat} {ad : Option Addr} {cap n : Nat} {w : World} {xs : List Value} (h : w.ownsRow B e size (.slice ad n cap) n xs) : n ≤ cap := by
  rcases h.2 with ⟨hv, e⟩ | ⟨g, c, cur, hv, _, _, hc, _⟩
  · omega
  · simp only [Value.slice.injEq] at hv; omega
theorem ownR_at {B g cap : Nat} {w : World} {R : List Rw} (h : OwnR B (some ⟨g, 0, none⟩) cap w R) {i : Nat} {r : Rw} (hi : R[i]? = some r) :
    w.cell? ⟨g, i * 8, none⟩ = some (.int .i64 r.k.1) ∧ w.cell? ⟨g, i * 8 + 1, none⟩ = some (.int .i64 r.k.2.1) ∧ w.cell? ⟨g, i * 8 + 2, none⟩ = some (.string r.k.2.2) ∧ w.cell? ⟨g, i * 8 + 3, none⟩ = some (.int .i64 r.v.1) ∧ w.cell? ⟨g, i * 8 + 4, none⟩ = some (.int .i64 r.v.2.1) ∧ w.cell? ⟨g, i * 8 + 5, none⟩ = some (.string r.v.2.2) ∧ w.cell? ⟨g, i * 8 + 6, none⟩ = some (.int .i64 r.c) ∧ w.cell? ⟨g, i * 8 + 7, none⟩ = some (.int .i64 r.s) := by
  have hl := (List.getElem?_eq_some_iff.1 hi).1
  have at' : ∀ j, j < 8 → w.cell? ⟨g, i * 8 + j, none⟩ = (celR r)[j]? := fun j hj => (World.ownsRow.cellAt (n := R.length) (size := 8) h (i * 8 + j) (by omega)).trans (flatR_at R i r hi j hj)
  exact ⟨at' 0 (by omega), at' 1 (by omega), at' 2 (by omega), at' 3 (by omega), at' 4 (by omega), at' 5 (by omega), at' 6 (by omega), at' 7 (by omega)⟩
theorem ownP_at {B g cap : Nat} {w : World} {P : List Int} (h : OwnP B (some ⟨g, 0, none⟩) cap w P) {x : Nat} {p : Int} (hx : P[x]? = some p) : w.cell? ⟨g, x, none⟩ = some (.int .i32 p) := by
  have hl := (List.getElem?_eq_some_iff.1 hx).1
  rw [World.ownsRow.cellAt (n := P.length) (size := 1) h x (by omega), List.getElem?_map, hx]; rfl
/-- A table. -/
structure Tab (B b : Nat) (ar : Option Addr) (cr : Nat) (ap : Option Addr) (cp : Nat) (w : World) (R : List Rw) (P : List Int) (n : Nat) (last : Int) : Prop where
  blk : w.heap[b]? = some (.cells #[.slice ar R.length cr, .slice ap P.length cp, .int .i64 (n : Int), .int .i64 last] 103 (0, 0))
  low : B ≤ b
  r : OwnR B ar cr w R
  p : OwnP B ap cp w P
  g : Good R P last
  cnt : n = (ents R).length
  ok : ∀ (i : Nat) (r : Rw), R[i]? = some r → okK r.k
  bd : 0 ≤ last ∧ last < 4611686018427387904
theorem tab_below {B b cr cp n : Nat} {ar ap : Option Addr} {w w' : World} {R : List Rw} {P : List Int} {last : Int} (h : Tab B b ar cr ap cp w R P n last) (hb : Below w.heap.size w w') : Tab B b ar cr ap cp w' R P n last :=
  ⟨(hb.block _ (lt_of_block h.blk)).trans h.blk, h.low, row_below h.r hb, row_below h.p hb, h.g, h.cnt, h.ok, h.bd⟩
theorem four_cells {w : World} {g : Nat} {x0 x1 x2 x3 : Value} {t : TypeId} (h : w.heap[g]? = some (.cells #[x0, x1, x2, x3] t (0, 0))) :
    w.cell? ⟨g, 0, none⟩ = some x0 ∧ w.cell? ⟨g, 1, none⟩ = some x1 ∧ w.cell? ⟨g, 2, none⟩ = some x2 ∧ w.cell? ⟨g, 3, none⟩ = some x3 ∧ w.frozen? ⟨g, 0, none⟩ = false ∧ w.frozen? ⟨g, 1, none⟩ = false ∧ w.frozen? ⟨g, 2, none⟩ = false ∧ w.frozen? ⟨g, 3, none⟩ = false := by
  refine ⟨?_, ?_, ?_, ?_, ?_, ?_, ?_, ?_⟩
  · rw [cell_of_row _ _ _ _ _ _ h]; rfl
  · rw [cell_of_row _ _ _ _ _ _ h]; rfl
  · rw [cell_of_row _ _ _ _ _ _ h]; rfl
  · rw [cell_of_row _ _ _ _ _ _ h]; rfl
  · simp [World.frozen?, h]
  · simp [World.frozen?, h]
  · simp [World.frozen?, h]
  · simp [World.frozen?, h]
theorem plen {R : List Rw} {P : List Int} {last : Int} (G : Good R P last) : P.length ≤ 33554432 ∧ R.length ≤ 33554432 := by
  have := G.full
  rcases G.pw with ⟨h, _⟩ | ⟨e, h, he⟩
  · subst h; simp at this; simp; omega
  · have : 2 ^ (e + 1) ≤ 2 ^ 25 := Nat.pow_le_pow_right (by decide) (by omega)
    have h25 : (2 : Nat) ^ 25 = 33554432 := by decide
    omega

/-- A value, as one. -/
def ag (e : Vl) : Value := .agg #[.int .i64 e.1, .int .i64 e.2.1, .string e.2.2]
theorem alike_eq (e f : Vl) : alike e.1 e.2.1 f.1 f.2.1 e.2.2 f.2.2 = decide (e = f) := by
  obtain ⟨a, b, c⟩ := e
  obtain ⟨a', b', c'⟩ := f
  unfold alike
  simp [Prod.ext_iff]
theorem same_ag (e f : Vl) (w : World) : Calls Try.prog 79 #[.agg #[.int .i64 e.1, .int .i64 e.2.1, .string e.2.2], .agg #[.int .i64 f.1, .int .i64 f.2.1, .string f.2.2]] w fun x w' => x = .returned (.bool (decide (e = f))) ∧ Below w.heap.size w w' := by
  rw [← alike_eq]; exact same_any _ _ _ _ _ _ w
set_option maxRecDepth 100000 in
set_option maxHeartbeats 1000000 in
theorem none_any (e : Vl) (w : World) : Calls Try.prog 61 #[.agg #[.int .i64 e.1, .int .i64 e.2.1, .string e.2.2]] w fun x w' => x = .returned (.bool (decide (e = nul))) ∧ Below w.heap.size w w' := by
  have HS := Lib.hid fun w => same_ag e nul w
  unfold nul at HS
  generalize hd : decide (e = (0, 0, ⟨#[]⟩)) = d at HS
  have HD : Hid (decide (e = nul) = d) := hd
  clear hd
  have hA := heap_alloc_new w (.cells #[.int .i64 e.1, .int .i64 e.2.1, .string e.2.2] 30)
  have hE : Below w.heap.size w (w.alloc (.cells #[.int .i64 e.1, .int .i64 e.2.1, .string e.2.2] 30)) := (Below.refl _ _).alloc (Nat.le_refl _) _
  obtain ⟨q0, q1, q2⟩ := three_below hA
  have HE := Lib.hid hE
  clear hA hE
  go_enter Try.func61, Try.ntmps61
  go_wp2_with fail
  refine wp_region_quiet_below (by kernel_rfl) (by kernel_rfl) ?_
  repeat (quiet_step (first | (go_at_call 23; with_reducible refine Calls.below_of (null_any _)) | (go_at_call 79; with_reducible refine Calls.below_of (HS.out _))))
  refine wpQuiet_nil ?_
  intro _ hw'
  obtain ⟨pq, hw''⟩ := hw'
  subst hw''
  have HQ := Lib.hid (HE.out.trans (pq.h.mono HE.out.size))
  go_wp2_with fail
  go_ret
  exact ⟨ret_b HD.out.symm, HQ.out⟩
end Go.Proofs.Ytipdjjgpcmbpdaa.Ta
