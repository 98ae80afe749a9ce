/- What makes tests; the kids that an expression needs, a kind at a time. -/
import Derived.Test.YtaonojimpfhkfaaAst5
namespace Go.Proofs.Ytaonojimpfhkfaa.As
open Go.RowKit Go.ChangeShapes Go.WideShapes Go.ChangeAt

theorem new1 (w : World) (A : Obj) : (w.alloc A).heap[w.heap.size]? = some A := heap_alloc_new w A
theorem new2 (w : World) (A C : Obj) : ((w.alloc A).alloc C).heap[w.heap.size + 1]? = some C := by
  have := heap_alloc_new (w.alloc A) C
  rwa [World.size_alloc] at this
theorem bel1 (w : World) (A : Obj) : Below w.heap.size w (w.alloc A) := (Below.refl _ _).alloc (Nat.le_refl _) A
theorem bel2 (w : World) (A C : Obj) : Below w.heap.size w ((w.alloc A).alloc C) := (bel1 w A).alloc (by simp) C
theorem rowI_new {w : World} {g : Nat} {L : List Int} (h : w.heap[g]? = some (.cells ((L.map (Value.int .i64)).toArray) 3 (0, 0))) {B : Nat} (hB : g < B) : RowI w B (some ⟨g, 0, none⟩) L := by
  refine Or.inr ⟨g, 0, rfl, hB, fun j x hx => ?_⟩
  rw [cell_of_row w g (0 + j) _ _ _ h, Nat.zero_add]
  simp [hx]
theorem rowT_new {w : World} {g B : Nat} {cs : List Value} {ts : List Tst} (h : w.heap[g]? = some (.cells cs.toArray 50 (0, 0))) (hc : ∀ (j : Nat) (t : Tst), ts[j]? = some t → ∃ v, cs[j]? = some v ∧ TsV w B t v) : RowT w B (some ⟨g, 0, none⟩) ts := by
  refine Or.inr ⟨g, 0, rfl, fun j t ht => ?_⟩
  obtain ⟨v, hv, h2⟩ := hc j t ht
  refine ⟨v, ?_, h2⟩
  rw [cell_of_row w g (0 + j) _ _ _ h, Nat.zero_add]
  simpa using hv
theorem rowT1 {w : World} {g B : Nat} {v : Value} {t : Tst} (h : w.heap[g]? = some (.cells #[v] 50 (0, 0))) (h0 : TsV w B t v) : RowT w B (some ⟨g, 0, none⟩) [t] :=
  rowT_new (cs := [v]) h fun j u hu => by
    match j, hu with
    | 0, hu => simp at hu; subst hu; exact ⟨v, rfl, h0⟩
theorem rowT2 {w : World} {g B : Nat} {v v1 : Value} {t t1 : Tst} (h : w.heap[g]? = some (.cells #[v, v1] 50 (0, 0))) (h0 : TsV w B t v) (h1 : TsV w B t1 v1) : RowT w B (some ⟨g, 0, none⟩) [t, t1] :=
  rowT_new (cs := [v, v1]) h fun j u hu => by
    match j, hu with
    | 0, hu => simp at hu; subst hu; exact ⟨v, rfl, h0⟩
    | 1, hu => simp at hu; subst hu; exact ⟨v1, rfl, h1⟩
theorem rowT3 {w : World} {g B : Nat} {v v1 v2 : Value} {t t1 t2 : Tst} (h : w.heap[g]? = some (.cells #[v, v1, v2] 50 (0, 0))) (h0 : TsV w B t v) (h1 : TsV w B t1 v1) (h2 : TsV w B t2 v2) : RowT w B (some ⟨g, 0, none⟩) [t, t1, t2] :=
  rowT_new (cs := [v, v1, v2]) h fun j u hu => by
    match j, hu with
    | 0, hu => simp at hu; subst hu; exact ⟨v, rfl, h0⟩
    | 1, hu => simp at hu; subst hu; exact ⟨v1, rfl, h1⟩
    | 2, hu => simp at hu; subst hu; exact ⟨v2, rfl, h2⟩
theorem rowT4 {w : World} {g B : Nat} {v v1 v2 v3 : Value} {t t1 t2 t3 : Tst} (h : w.heap[g]? = some (.cells #[v, v1, v2, v3] 50 (0, 0))) (h0 : TsV w B t v) (h1 : TsV w B t1 v1) (h2 : TsV w B t2 v2) (h3 : TsV w B t3 v3) : RowT w B (some ⟨g, 0, none⟩) [t, t1, t2, t3] :=
  rowT_new (cs := [v, v1, v2, v3]) h fun j u hu => by
    match j, hu with
    | 0, hu => simp at hu; subst hu; exact ⟨v, rfl, h0⟩
    | 1, hu => simp at hu; subst hu; exact ⟨v1, rfl, h1⟩
    | 2, hu => simp at hu; subst hu; exact ⟨v2, rfl, h2⟩
    | 3, hu => simp at hu; subst hu; exact ⟨v3, rfl, h3⟩
/-- What 'one' makes. -/
theorem mkone_any {w : World} {A : Option Addr} {c : Nat} {ks : List Int} (h : RowI w w.heap.size A ks) (hl : ks.length ≤ 1000) :
    Calls Try.prog 54 #[.slice A ks.length c] w fun e w' => ∃ v, e = .returned v ∧ OneV w' w'.heap.size ks v ∧ Below w.heap.size w w' := by
  have hN := new1 w (.cells #[.slice A ks.length c] 35)
  have hB := bel1 w (.cells #[.slice A ks.length c] 35)
  have HO : Hid (OneV (w.alloc (.cells #[.slice A ks.length c] 35)) (w.alloc (.cells #[.slice A ks.length c] 35)).heap.size ks (.func (.func 62) #[] #[.pointer (some ⟨w.heap.size, 0, none⟩)])) :=
    ⟨w.heap.size, A, c, rfl, by simp, hN, h.below hB (Nat.le_refl _) (by simp), hl⟩
  have HB := Lib.hid hB
  clear hN hB h hl
  go_enter Try.func54, Try.ntmps54
  go_wp2_with fail
  go_ret
  exact ⟨_, rfl, HO.out, HB.out⟩
theorem mkpe_any (w : World) :
    Calls Try.prog 65 #[.func (.func 21) #[] #[]] w fun e w' => ∃ v, e = .returned v ∧ TsV w' w'.heap.size .pe v ∧ Below w.heap.size w w' := by
  have hN := new1 w (.cells #[.func (.func 21) #[] #[]] 50)
  have hB := bel1 w (.cells #[.func (.func 21) #[] #[]] 50)
  have HO : Hid (TsV (w.alloc (.cells #[.func (.func 21) #[] #[]] 50)) (w.alloc (.cells #[.func (.func 21) #[] #[]] 50)).heap.size .pe (.func (.func 70) #[] #[.pointer (some ⟨w.heap.size, 0, none⟩)])) :=
    ⟨w.heap.size, rfl, by simp, hN⟩
  have HB := Lib.hid hB
  clear hN hB
  go_enter Try.func65, Try.ntmps65
  go_wp2_with fail
  go_ret
  exact ⟨_, rfl, HO.out, HB.out⟩
theorem mkpo_any {w : World} {ks : List Int} {u : Value} (h : OneV w w.heap.size ks u) :
    Calls Try.prog 65 #[u] w fun e w' => ∃ v, e = .returned v ∧ TsV w' w'.heap.size (.po ks) v ∧ Below w.heap.size w w' := by
  have hO := h
  obtain ⟨g, A, c, rfl, hg, h1, h2, h3⟩ := h
  have hN := new1 w (.cells #[.func (.func 62) #[] #[.pointer (some ⟨g, 0, none⟩)]] 50)
  have hB := bel1 w (.cells #[.func (.func 62) #[] #[.pointer (some ⟨g, 0, none⟩)]] 50)
  have HO : Hid (TsV (w.alloc (.cells #[.func (.func 62) #[] #[.pointer (some ⟨g, 0, none⟩)]] 50)) (w.alloc (.cells #[.func (.func 62) #[] #[.pointer (some ⟨g, 0, none⟩)]] 50)).heap.size (.po ks) (.func (.func 70) #[] #[.pointer (some ⟨w.heap.size, 0, none⟩)])) :=
    ⟨w.heap.size, _, rfl, by simp, hN, hO.keep (by simp) fun b hb => hB.block b hb⟩
  have HB := Lib.hid hB
  clear hN hB hO hg h1 h2 h3
  go_enter Try.func65, Try.ntmps65
  go_wp2_with fail
  go_ret
  exact ⟨_, rfl, HO.out, HB.out⟩

/-! exprKids -/
set_option maxRecDepth 100000 in
set_option maxHeartbeats 4000000 in
theorem ex_15 {w : World} {c : Nat} {A : Option Addr} {ks : List Int} (loc num : Int) (text : ByteArray) (ka : Option Addr) (nk kc : Nat) (h : RowI w w.heap.size A ks) (hl : ks.length ≤ 1000000) :
    Calls Try.prog 57 #[.agg #[.int .i64 15, .int .i64 loc, .string text, .int .i64 num, .slice ka nk kc], .slice A ks.length c] w fun e w' => e = .returned (.bool (rowB ks [.e])) ∧ Below w.heap.size w w' := by
  have HB := Lib.hid (bel2 w (.cells #[.int .i64 15, .int .i64 loc, .string text, .int .i64 num, .slice ka nk kc] 37) (.cells #[.func (.func 21) #[] #[]] 50))
  have HC := Lib.hid (row_any (w := ((w.alloc (.cells #[.int .i64 15, .int .i64 loc, .string text, .int .i64 num, .slice ka nk kc] 37)).alloc (.cells #[.func (.func 21) #[] #[]] 50))) (c := c) (mc := 1) (ts := [.e]) (h.below (B' := w.heap.size) HB.out (Nat.le_refl _) (Nat.le_refl _)) hl (rowT1 (B := 0) (new2 w _ _) rfl) (by decide))
  clear h
  generalize rowB ks [.e] = b at *
  go_enter Try.func57, Try.ntmps57
  go_wp2_with fail
  refine HC.out.mono ?_
  rintro e w' ⟨rfl, rfl⟩
  go_wp2_with fail
  go_ret
  exact ⟨rfl, HB.out⟩
set_option maxRecDepth 100000 in
set_option maxHeartbeats 4000000 in
theorem ex_10 {w : World} {c : Nat} {A : Option Addr} {ks : List Int} (loc num : Int) (text : ByteArray) (ka : Option Addr) (nk kc : Nat) (h : RowI w w.heap.size A ks) (hl : ks.length ≤ 1000000) :
    Calls Try.prog 57 #[.agg #[.int .i64 10, .int .i64 loc, .string text, .int .i64 num, .slice ka nk kc], .slice A ks.length c] w fun e w' => e = .returned (.bool (rowB ks [.e, .e])) ∧ Below w.heap.size w w' := by
  have HB := Lib.hid (bel2 w (.cells #[.int .i64 10, .int .i64 loc, .string text, .int .i64 num, .slice ka nk kc] 37) (.cells #[.func (.func 21) #[] #[], .func (.func 21) #[] #[]] 50))
  have HC := Lib.hid (row_any (w := ((w.alloc (.cells #[.int .i64 10, .int .i64 loc, .string text, .int .i64 num, .slice ka nk kc] 37)).alloc (.cells #[.func (.func 21) #[] #[], .func (.func 21) #[] #[]] 50))) (c := c) (mc := 2) (ts := [.e, .e]) (h.below (B' := w.heap.size) HB.out (Nat.le_refl _) (Nat.le_refl _)) hl (rowT2 (B := 0) (new2 w _ _) rfl rfl) (by decide))
  clear h
  generalize rowB ks [.e, .e] = b at *
  go_enter Try.func57, Try.ntmps57
  go_wp2_with fail
  refine HC.out.mono ?_
  rintro e w' ⟨rfl, rfl⟩
  go_wp2_with fail
  go_ret
  exact ⟨rfl, HB.out⟩
set_option maxRecDepth 100000 in
set_option maxHeartbeats 4000000 in
theorem ex_14 {w : World} {c : Nat} {A : Option Addr} {ks : List Int} (loc num : Int) (text : ByteArray) (ka : Option Addr) (nk kc : Nat) (h : RowI w w.heap.size A ks) (hl : ks.length ≤ 1000000) :
    Calls Try.prog 57 #[.agg #[.int .i64 14, .int .i64 loc, .string text, .int .i64 num, .slice ka nk kc], .slice A ks.length c] w fun e w' => e = .returned (.bool (rowB ks [.e, .e])) ∧ Below w.heap.size w w' := by
  have HB := Lib.hid (bel2 w (.cells #[.int .i64 14, .int .i64 loc, .string text, .int .i64 num, .slice ka nk kc] 37) (.cells #[.func (.func 21) #[] #[], .func (.func 21) #[] #[]] 50))
  have HC := Lib.hid (row_any (w := ((w.alloc (.cells #[.int .i64 14, .int .i64 loc, .string text, .int .i64 num, .slice ka nk kc] 37)).alloc (.cells #[.func (.func 21) #[] #[], .func (.func 21) #[] #[]] 50))) (c := c) (mc := 2) (ts := [.e, .e]) (h.below (B' := w.heap.size) HB.out (Nat.le_refl _) (Nat.le_refl _)) hl (rowT2 (B := 0) (new2 w _ _) rfl rfl) (by decide))
  clear h
  generalize rowB ks [.e, .e] = b at *
  go_enter Try.func57, Try.ntmps57
  go_wp2_with fail
  refine HC.out.mono ?_
  rintro e w' ⟨rfl, rfl⟩
  go_wp2_with fail
  go_ret
  exact ⟨rfl, HB.out⟩
set_option maxRecDepth 100000 in
set_option maxHeartbeats 4000000 in
theorem ex_23 {w : World} {c : Nat} {A : Option Addr} {ks : List Int} (loc num : Int) (text : ByteArray) (ka : Option Addr) (nk kc : Nat) (h : RowI w w.heap.size A ks) (hl : ks.length ≤ 1000000) :
    Calls Try.prog 57 #[.agg #[.int .i64 23, .int .i64 loc, .string text, .int .i64 num, .slice ka nk kc], .slice A ks.length c] w fun e w' => e = .returned (.bool (rowB ks [.e, .e])) ∧ Below w.heap.size w w' := by
  have HB := Lib.hid (bel2 w (.cells #[.int .i64 23, .int .i64 loc, .string text, .int .i64 num, .slice ka nk kc] 37) (.cells #[.func (.func 21) #[] #[], .func (.func 21) #[] #[]] 50))
  have HC := Lib.hid (row_any (w := ((w.alloc (.cells #[.int .i64 23, .int .i64 loc, .string text, .int .i64 num, .slice ka nk kc] 37)).alloc (.cells #[.func (.func 21) #[] #[], .func (.func 21) #[] #[]] 50))) (c := c) (mc := 2) (ts := [.e, .e]) (h.below (B' := w.heap.size) HB.out (Nat.le_refl _) (Nat.le_refl _)) hl (rowT2 (B := 0) (new2 w _ _) rfl rfl) (by decide))
  clear h
  generalize rowB ks [.e, .e] = b at *
  go_enter Try.func57, Try.ntmps57
  go_wp2_with fail
  refine HC.out.mono ?_
  rintro e w' ⟨rfl, rfl⟩
  go_wp2_with fail
  go_ret
  exact ⟨rfl, HB.out⟩
set_option maxRecDepth 100000 in
set_option maxHeartbeats 4000000 in
theorem ex_11 {w : World} {c : Nat} {A : Option Addr} {ks : List Int} (loc num : Int) (text : ByteArray) (ka : Option Addr) (nk kc : Nat) (h : RowI w w.heap.size A ks) (hl : ks.length ≤ 1000000) :
    Calls Try.prog 57 #[.agg #[.int .i64 11, .int .i64 loc, .string text, .int .i64 num, .slice ka nk kc], .slice A ks.length c] w fun e w' => e = .returned (.bool (rowB ks [.e, .e, .e])) ∧ Below w.heap.size w w' := by
  have HB := Lib.hid (bel2 w (.cells #[.int .i64 11, .int .i64 loc, .string text, .int .i64 num, .slice ka nk kc] 37) (.cells #[.func (.func 21) #[] #[], .func (.func 21) #[] #[], .func (.func 21) #[] #[]] 50))
  have HC := Lib.hid (row_any (w := ((w.alloc (.cells #[.int .i64 11, .int .i64 loc, .string text, .int .i64 num, .slice ka nk kc] 37)).alloc (.cells #[.func (.func 21) #[] #[], .func (.func 21) #[] #[], .func (.func 21) #[] #[]] 50))) (c := c) (mc := 3) (ts := [.e, .e, .e]) (h.below (B' := w.heap.size) HB.out (Nat.le_refl _) (Nat.le_refl _)) hl (rowT3 (B := 0) (new2 w _ _) rfl rfl rfl) (by decide))
  clear h
  generalize rowB ks [.e, .e, .e] = b at *
  go_enter Try.func57, Try.ntmps57
  go_wp2_with fail
  refine HC.out.mono ?_
  rintro e w' ⟨rfl, rfl⟩
  go_wp2_with fail
  go_ret
  exact ⟨rfl, HB.out⟩
set_option maxRecDepth 100000 in
set_option maxHeartbeats 4000000 in
theorem ex_12 {w : World} {c : Nat} {A : Option Addr} {ks : List Int} (loc num : Int) (text : ByteArray) (ka : Option Addr) (nk kc : Nat) (h : RowI w w.heap.size A ks) (hl : ks.length ≤ 1000000) :
    Calls Try.prog 57 #[.agg #[.int .i64 12, .int .i64 loc, .string text, .int .i64 num, .slice ka nk kc], .slice A ks.length c] w fun e w' => e = .returned (.bool (rowB ks [.tg, .e])) ∧ Below w.heap.size w w' := by
  have HB := Lib.hid (bel2 w (.cells #[.int .i64 12, .int .i64 loc, .string text, .int .i64 num, .slice ka nk kc] 37) (.cells #[.func (.func 24) #[] #[], .func (.func 21) #[] #[]] 50))
  have HC := Lib.hid (row_any (w := ((w.alloc (.cells #[.int .i64 12, .int .i64 loc, .string text, .int .i64 num, .slice ka nk kc] 37)).alloc (.cells #[.func (.func 24) #[] #[], .func (.func 21) #[] #[]] 50))) (c := c) (mc := 2) (ts := [.tg, .e]) (h.below (B' := w.heap.size) HB.out (Nat.le_refl _) (Nat.le_refl _)) hl (rowT2 (B := 0) (new2 w _ _) rfl rfl) (by decide))
  clear h
  generalize rowB ks [.tg, .e] = b at *
  go_enter Try.func57, Try.ntmps57
  go_wp2_with fail
  refine HC.out.mono ?_
  rintro e w' ⟨rfl, rfl⟩
  go_wp2_with fail
  go_ret
  exact ⟨rfl, HB.out⟩
set_option maxRecDepth 100000 in
set_option maxHeartbeats 4000000 in
theorem ex_13 {w : World} {c : Nat} {A : Option Addr} {ks : List Int} (loc num : Int) (text : ByteArray) (ka : Option Addr) (nk kc : Nat) (h : RowI w w.heap.size A ks) (hl : ks.length ≤ 1000000) :
    Calls Try.prog 57 #[.agg #[.int .i64 13, .int .i64 loc, .string text, .int .i64 num, .slice ka nk kc], .slice A ks.length c] w fun e w' => e = .returned (.bool (rowB ks [.tg])) ∧ Below w.heap.size w w' := by
  have HB := Lib.hid (bel2 w (.cells #[.int .i64 13, .int .i64 loc, .string text, .int .i64 num, .slice ka nk kc] 37) (.cells #[.func (.func 24) #[] #[]] 50))
  have HC := Lib.hid (row_any (w := ((w.alloc (.cells #[.int .i64 13, .int .i64 loc, .string text, .int .i64 num, .slice ka nk kc] 37)).alloc (.cells #[.func (.func 24) #[] #[]] 50))) (c := c) (mc := 1) (ts := [.tg]) (h.below (B' := w.heap.size) HB.out (Nat.le_refl _) (Nat.le_refl _)) hl (rowT1 (B := 0) (new2 w _ _) rfl) (by decide))
  clear h
  generalize rowB ks [.tg] = b at *
  go_enter Try.func57, Try.ntmps57
  go_wp2_with fail
  refine HC.out.mono ?_
  rintro e w' ⟨rfl, rfl⟩
  go_wp2_with fail
  go_ret
  exact ⟨rfl, HB.out⟩
set_option maxRecDepth 100000 in
set_option maxHeartbeats 4000000 in
theorem ex_9 {w : World} {c : Nat} {A : Option Addr} {ks : List Int} (loc num : Int) (text : ByteArray) (ka : Option Addr) (nk kc : Nat) (h : RowI w w.heap.size A ks) (hl : ks.length ≤ 1000000) (hd : ¬ text.toList = del) :
    Calls Try.prog 57 #[.agg #[.int .i64 9, .int .i64 loc, .string text, .int .i64 num, .slice ka nk kc], .slice A ks.length c] w fun e w' => e = .returned (.bool (rowB ks [.e])) ∧ Below w.heap.size w w' := by
  have HB := Lib.hid (bel2 w (.cells #[.int .i64 9, .int .i64 loc, .string text, .int .i64 num, .slice ka nk kc] 37) (.cells #[.func (.func 21) #[] #[]] 50))
  have HC := Lib.hid (row_any (w := ((w.alloc (.cells #[.int .i64 9, .int .i64 loc, .string text, .int .i64 num, .slice ka nk kc] 37)).alloc (.cells #[.func (.func 21) #[] #[]] 50))) (c := c) (mc := 1) (ts := [.e]) (h.below (B' := w.heap.size) HB.out (Nat.le_refl _) (Nat.le_refl _)) hl (rowT1 (B := 0) (new2 w _ _) rfl) (by decide))
  have hx : (text.toList == [100, 101, 108, 101, 116, 101]) = false := by simpa [del] using hd
  clear h hd
  generalize rowB ks [.e] = b at *
  go_enter Try.func57, Try.ntmps57
  go_wp2_with fail
  refine HC.out.mono ?_
  rintro e w' ⟨rfl, rfl⟩
  go_wp2_with fail
  go_ret
  exact ⟨rfl, HB.out⟩
set_option maxRecDepth 100000 in
set_option maxHeartbeats 4000000 in
theorem ex_9d {w : World} {c : Nat} {A : Option Addr} {ks : List Int} (loc num : Int) (text : ByteArray) (ka : Option Addr) (nk kc : Nat) (h : RowI w w.heap.size A ks) (hl : ks.length ≤ 1000000) (hd : text.toList = del) :
    Calls Try.prog 57 #[.agg #[.int .i64 9, .int .i64 loc, .string text, .int .i64 num, .slice ka nk kc], .slice A ks.length c] w fun e w' => e = .returned (.bool (rowB ks [.tg])) ∧ Below w.heap.size w w' := by
  have HB := Lib.hid (bel2 w (.cells #[.int .i64 9, .int .i64 loc, .string text, .int .i64 num, .slice ka nk kc] 37) (.cells #[.func (.func 24) #[] #[]] 50))
  have HC := Lib.hid (row_any (w := ((w.alloc (.cells #[.int .i64 9, .int .i64 loc, .string text, .int .i64 num, .slice ka nk kc] 37)).alloc (.cells #[.func (.func 24) #[] #[]] 50))) (c := c) (mc := 1) (ts := [.tg]) (h.below (B' := w.heap.size) HB.out (Nat.le_refl _) (Nat.le_refl _)) hl (rowT1 (B := 0) (new2 w _ _) rfl) (by decide))
  have hx : (text.toList == [100, 101, 108, 101, 116, 101]) = true := by simpa [del] using hd
  clear h hd
  generalize rowB ks [.tg] = b at *
  go_enter Try.func57, Try.ntmps57
  go_wp2_with fail
  refine HC.out.mono ?_
  rintro e w' ⟨rfl, rfl⟩
  go_wp2_with fail
  go_ret
  exact ⟨rfl, HB.out⟩
end Go.Proofs.Ytaonojimpfhkfaa.As
