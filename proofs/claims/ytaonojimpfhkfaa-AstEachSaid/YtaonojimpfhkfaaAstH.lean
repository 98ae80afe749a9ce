/- Rows of one's own: numbers, nodes; copied, own. -/
import Derived.Test.YtaonojimpfhkfaaAstG
import Derived.Laws.AppendOwn
import Derived.Lib.AppendZeros
namespace Go.Proofs.Ytaonojimpfhkfaa.As
open Go.RowKit Go.ChangeShapes Go.WideShapes Go.ChangeAt

def celN (n : Nd) : List Value := [.int .i64 n.kind, .int .i64 n.loc, .string n.text, .int .i64 n.num, .slice n.ka n.kids.length n.kc]
def flatN (L : List Nd) : List Value := L.flatMap celN
theorem flatN_cons (n : Nd) (L : List Nd) : flatN (n :: L) = celN n ++ flatN L := rfl
theorem flatN_append (L M : List Nd) : flatN (L ++ M) = flatN L ++ flatN M := List.flatMap_append ..
theorem flatN_len : ∀ L : List Nd, (flatN L).length = L.length * 5
  | [] => rfl
  | n :: L => by rw [flatN_cons, List.length_append, flatN_len L]; simp [celN]; omega
theorem flatN_one (n : Nd) : flatN [n] = celN n := by simp [flatN]
theorem flatN_cells : ∀ (L : List Nd), ∀ u ∈ flatN L, u.oneCell' = true
  | [], u, h => by simp [flatN] at h
  | n :: L, u, h => by
    rw [flatN_cons, List.mem_append] at h
    rcases h with h | h
    · simp [celN] at h
      rcases h with rfl | rfl | rfl | rfl | rfl <;> rfl
    · exact flatN_cells L u h
theorem flatN_at : ∀ {L : List Nd} {i : Nat} {n : Nd}, L[i]? = some n → ∀ k, k < 5 → (flatN L)[i * 5 + k]? = (celN n)[k]?
  | [], i, n, h, _, _ => by simp at h
  | m :: L, 0, n, h, k, hk => by
    obtain rfl : m = n := by simpa using h
    rw [flatN_cons, Nat.zero_mul, Nat.zero_add, List.getElem?_append_left (by simpa [celN] using hk)]
  | m :: L, i + 1, n, h, k, hk => by
    have ih := flatN_at (L := L) (i := i) (n := n) (by simpa using h) k hk
    rw [flatN_cons, show (i + 1) * 5 + k = (i * 5 + k) + 5 by omega, List.getElem?_append_right (by simp [celN])]
    simpa [celN] using ih
def intsV (L : List Int) : List Value := L.map (Value.int .i64)
theorem intsV_len (L : List Int) : (intsV L).length = L.length * 1 := by simp [intsV]
theorem intsV_cells (L : List Int) : ∀ u ∈ intsV L, u.oneCell' = true := by
  intro u hu
  obtain ⟨x, _, rfl⟩ := List.mem_map.1 hu
  rfl
def OwI (lo : Nat) (A : Option Addr) (c : Nat) (w : World) (L : List Int) : Prop := w.ownsRow lo 3 1 (.slice A L.length c) L.length (intsV L)
def OwN (lo : Nat) (A : Option Addr) (c : Nat) (w : World) (L : List Nd) : Prop := w.ownsRow lo 37 5 (.slice A L.length c) L.length (flatN L)
theorem own_shape {B n s : Nat} {e : TypeId} {v : Value} {w : World} {xs : List Value} (h : w.ownsRow B e s v n xs) : ∃ ad cap, v = .slice ad n cap := by
  rcases h.2 with ⟨rfl, rfl⟩ | ⟨g, cap, cur, rfl, _⟩
  · exact ⟨none, 0, rfl⟩
  · exact ⟨_, cap, rfl⟩
theorem own_some {B e size : Nat} {ad : Option Addr} {cap n : Nat} {w : World} {xs : List Value} (h : w.ownsRow B e size (.slice ad n cap) n xs) (h0 : 0 < n) : ∃ g, ad = some ⟨g, 0, none⟩ ∧ B ≤ g ∧ g < w.heap.size := by
  rcases h.2 with ⟨_, e⟩ | ⟨g, cap', cur, hv, hB, hg, _⟩
  · omega
  · simp only [Value.slice.injEq] at hv
    exact ⟨g, hv.1, hB, lt_of_block hg⟩
theorem own_cap {B e size : Nat} {ad : Option Addr} {cap n : Nat} {w : World} {xs : List Value} (h : w.ownsRow B e size (.slice ad n cap) n xs) : n ≤ cap := by
  rcases h.2 with ⟨hv, e⟩ | ⟨g, c, cur, hv, _, _, hc, _⟩
  · omega
  · simp only [Value.slice.injEq] at hv; omega
theorem own_below {B e size : Nat} {v : Value} {n : Nat} {w w' : World} {xs : List Value} (h : w.ownsRow B e size v n xs) (hb : Below w.heap.size w w') : w'.ownsRow B e size v n xs :=
  World.ownsRow.kept (row := none) h ⟨hb.os, hb.tape, hb.output, hb.size, fun k hk _ => hb.block k hk⟩ (Classical.em _)
theorem own_mono {B B' e size : Nat} {v : Value} {n : Nat} {w : World} {xs : List Value} (h : w.ownsRow B e size v n xs) (hB : B' ≤ B) : w.ownsRow B' e size v n xs := by
  rcases h with ⟨h1, h2 | ⟨g, cap, cur, a, b, c⟩⟩
  · exact ⟨h1, Or.inl h2⟩
  · exact ⟨h1, Or.inr ⟨g, cap, cur, a, by omega, c⟩⟩
theorem OwI.row {lo c : Nat} {A : Option Addr} {w : World} {L : List Int} (h : OwI lo A c w L) : RowI w w.heap.size A L := by
  rcases Nat.eq_zero_or_pos L.length with h0 | h0
  · exact Or.inl (List.eq_nil_of_length_eq_zero h0)
  · obtain ⟨g, rfl, _, hg⟩ := own_some h h0
    refine Or.inr ⟨g, 0, rfl, hg, fun j x hx => ?_⟩
    have hj := get_lt hx
    rw [Nat.zero_add]
    exact (World.ownsRow.cellAt (n := L.length) (size := 1) h j (by omega)).trans (by unfold intsV; rw [List.getElem?_map, hx]; rfl)
/-- A row of nodes of one's own, their kids' rows too. -/
structure OwT (lo : Nat) (A : Option Addr) (c : Nat) (w : World) (L : List Nd) : Prop where
  n : OwN lo A c w L
  k : ∀ n ∈ L, OwI lo n.ka n.kc w n.kids
theorem OwT.tr {lo c : Nat} {A : Option Addr} {w : World} {L : List Nd} (h : OwT lo A c w L) : Tr w w.heap.size A L := by
  rcases Nat.eq_zero_or_pos L.length with h0 | h0
  · exact Or.inl (List.eq_nil_of_length_eq_zero h0)
  · obtain ⟨g, rfl, _, hg⟩ := own_some h.n h0
    refine Or.inr ⟨g, 0, rfl, hg, fun j n hn => ?_⟩
    have hj := get_lt hn
    have cell : ∀ k, k < 5 → w.cell? ⟨g, 0 + j * 5 + k, none⟩ = (celN n)[k]? := fun k hk => by
      rw [Nat.zero_add]
      exact (World.ownsRow.cellAt (n := L.length) (size := 5) h.n (j * 5 + k) (by omega)).trans (flatN_at hn k hk)
    exact ⟨cell 0 (by omega), cell 1 (by omega), cell 2 (by omega), cell 3 (by omega), cell 4 (by omega), (h.k n (List.mem_of_getElem? hn)).row⟩
theorem OwT.below {lo c : Nat} {A : Option Addr} {w w' : World} {L : List Nd} (h : OwT lo A c w L) (hb : Below w.heap.size w w') : OwT lo A c w' L :=
  ⟨own_below h.n hb, fun n hn => own_below (h.k n hn) hb⟩
theorem A.infoN : (Try.prog.info? 37).map (fun i => (i.zero, i.size, i.bytes)) = some (some (.agg #[.int .i64 0, .int .i64 0, .string ⟨#[]⟩, .int .i64 0, .slice none 0 0]), 5, 64) := by kernel_rfl
theorem A.infoN2 : (Try.prog.info? 37).map (·.size) = some 5 := by kernel_rfl
theorem run_nil_nil {P : Program} (w : World) (t ty e : TypeId) (i : TypeInfo) (ht : P.underlying t = some (.slice e)) (hi : P.info? e = some i) (c : Nat) : (Builtin.append_ #[t, t] ty #[.slice none 0 0, .slice none 0 c]).run P w = .ok (.slice none 0 0) w := by
  simp [Builtin.append_, run_underlying ht, sizeOf, typeInfo, hi, Builtin.lenOf, Builtin.firstCells]
set_option maxRecDepth 100000 in
theorem run_copyI {B c : Nat} {A : Option Addr} {w : World} {L : List Int} (h : RowI w B A L) (hA : A = none → L = []) (hl : L.length ≤ 1000000) :
    ∃ A' c' w', (Builtin.append_ #[35, 35] 35 #[.slice none 0 0, .slice A L.length c]).run Try.prog w = .ok (.slice A' L.length c') w' ∧ OwI w.heap.size A' c' w' L ∧ Below w.heap.size w w' := by
  obtain ⟨i0, hi, hz0, hz1, hz2⟩ := info_parts As.A.infoI
  rcases A with _ | a
  · obtain rfl := hA rfl
    exact ⟨none, 0, w, run_nil_nil w _ _ _ i0 Try.underlying35 hi c, ⟨rfl, Or.inl ⟨rfl, rfl⟩⟩, Below.refl _ _⟩
  · obtain ⟨v', w', hr, hown, hgr, _⟩ := run_append_own (P := Try.prog) (w := w) w.heap.size 35 35 3 i0 (.int .i64 0) 1 8 Try.underlying35 hi hz0 hz1 hz2 rfl (by decide) (.slice none 0 0) 0 [] ⟨rfl, Or.inl ⟨rfl, rfl⟩⟩ a L.length c (intsV L) (intsV_len L) (by
      intro j u hu
      have hj : j < L.length := by have := get_lt hu; simpa [intsV] using this
      obtain ⟨x, hx⟩ := get_some hj
      obtain ⟨g, o, e, _, hc⟩ := h.at_ hx
      rw [Option.some.injEq] at e
      subst e
      rw [Go.WideShapes.add_plain, hc]
      unfold intsV at hu
      rw [List.getElem?_map, hx] at hu
      exact hu) (intsV_cells L) (by unfold maxLen; omega) (by omega) (Nat.le_refl _)
    obtain ⟨A', c', rfl⟩ := own_shape hown
    refine ⟨A', c', w', by rw [hr, Nat.zero_add], ?_, (Below.refl _ _).grown hgr (Nat.le_refl _) (fun k e => by cases e)⟩
    rw [Nat.zero_add, List.nil_append] at hown
    exact hown
set_option maxRecDepth 100000 in
theorem run_copyN {B c : Nat} {A : Option Addr} {w : World} {L : List Nd} (h : Tr w B A L) (hA : A = none → L = []) (hl : L.length ≤ 1000000) :
    ∃ A' c' w', (Builtin.append_ #[22, 22] 22 #[.slice none 0 0, .slice A L.length c]).run Try.prog w = .ok (.slice A' L.length c') w' ∧ OwN w.heap.size A' c' w' L ∧ Below w.heap.size w w' := by
  obtain ⟨i0, hi, hz0, hz1, hz2⟩ := info_parts As.A.infoN
  rcases A with _ | a
  · obtain rfl := hA rfl
    exact ⟨none, 0, w, run_nil_nil w _ _ _ i0 Try.underlying22 hi c, ⟨rfl, Or.inl ⟨rfl, rfl⟩⟩, Below.refl _ _⟩
  · obtain ⟨v', w', hr, hown, hgr, _⟩ := run_append_own (P := Try.prog) (w := w) w.heap.size 22 22 37 i0 _ 5 64 Try.underlying22 hi hz0 hz1 hz2 rfl (by decide) (.slice none 0 0) 0 [] ⟨rfl, Or.inl ⟨rfl, rfl⟩⟩ a L.length c (flatN L) (flatN_len L) (by
      intro j u hu
      have hj : j < L.length * 5 := by have := get_lt hu; rwa [flatN_len] at this
      obtain ⟨n, hn⟩ := get_some (show j / 5 < L.length by omega)
      obtain ⟨g, o, e, _, hc⟩ := h.at_ hn
      rw [Option.some.injEq] at e
      subst e
      have hk : j % 5 < 5 := Nat.mod_lt _ (by omega)
      have hjk : j = j / 5 * 5 + j % 5 := by omega
      rw [hjk, flatN_at hn _ hk] at hu
      rw [Go.WideShapes.add_plain, show o + j = o + j / 5 * 5 + j % 5 by omega]
      rcases hc with ⟨k0, k1, k2, k3, k4, _⟩
      generalize j % 5 = r at hu hk ⊢
      match r, hk with
      | 0, _ => rw [Nat.add_zero, k0]; exact hu
      | 1, _ => rw [k1]; exact hu
      | 2, _ => rw [k2]; exact hu
      | 3, _ => rw [k3]; exact hu
      | 4, _ => rw [k4]; exact hu) (flatN_cells L) (by unfold maxLen; omega) (by omega) (Nat.le_refl _)
    obtain ⟨A', c', rfl⟩ := own_shape hown
    refine ⟨A', c', w', by rw [hr, Nat.zero_add], ?_, (Below.refl _ _).grown hgr (Nat.le_refl _) (fun k e => by cases e)⟩
    rw [Nat.zero_add, List.nil_append] at hown
    exact hown
set_option maxRecDepth 100000 in
theorem copyI_any {w : World} {B c : Nat} {A : Option Addr} {L : List Int} (h : RowI w B A L) (hl : L.length ≤ 1000000) :
    Calls Try.prog 46 #[.slice A L.length c] w fun e w' => ∃ A' c', e = .returned (.slice A' L.length c') ∧ OwI w.heap.size A' c' w' L ∧ Below w.heap.size w w' := by
  obtain ⟨A', c', w1, hr, ho, hb⟩ := run_copyI (c := c) h (fun e => by rcases h with h | ⟨g, o, e2, _⟩; exact h; rw [e] at e2; cases e2) hl
  have HO := Lib.hid ho
  have HB := Lib.hid hb
  clear ho hb h
  go_enter Try.func46, Try.ntmps46
  go_wp2_with (at_builtin; refine Lib.wpList_append_run _ rfl _ _ _ _ rfl _ _ rfl rfl _ _ hr ?_)
  go_ret
  exact ⟨A', c', rfl, HO.out, HB.out⟩
set_option maxRecDepth 100000 in
theorem copyN_any {w : World} {B c : Nat} {A : Option Addr} {L : List Nd} (h : Tr w B A L) (hl : L.length ≤ 1000000) :
    Calls Try.prog 38 #[.slice A L.length c] w fun e w' => ∃ A' c', e = .returned (.slice A' L.length c') ∧ OwN w.heap.size A' c' w' L ∧ Below w.heap.size w w' := by
  obtain ⟨A', c', w1, hr, ho, hb⟩ := run_copyN (c := c) h (fun e => by rcases h with h | ⟨g, o, e2, _⟩; exact h; rw [e] at e2; cases e2) hl
  have HO := Lib.hid ho
  have HB := Lib.hid hb
  clear ho hb h
  go_enter Try.func38, Try.ntmps38
  go_wp2_with (at_builtin; refine Lib.wpList_append_run _ rfl _ _ _ _ rfl _ _ rfl rfl _ _ hr ?_)
  go_ret
  exact ⟨A', c', rfl, HO.out, HB.out⟩
/-- A node with kids that lie elsewhere. -/
def Nd.at (n : Nd) (ka : Option Addr) (kc : Nat) : Nd := { n with ka := ka, kc := kc }
theorem set_nd {w : World} {g : Nat} {a b c d e : Value} (h : w.heap[g]? = some (.cells #[a, b, c, d, e] 37 (0, 0))) (v : Value) : (w.setCell ⟨g, 2, none⟩ v).heap[g]? = some (.cells #[a, b, v, d, e] 37 (0, 0)) ∧ (w.setCell ⟨g, 4, none⟩ v).heap[g]? = some (.cells #[a, b, c, d, v] 37 (0, 0)) :=
  ⟨by rw [heap_setCell_same _ _ _ _ _ _ h]; rfl, by rw [heap_setCell_same _ _ _ _ _ _ h]; rfl⟩
end Go.Proofs.Ytaonojimpfhkfaa.As
