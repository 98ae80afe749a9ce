/- A heap in memory: its cells, the numbers that are free; contracts of New, Live, Get, Target. -/
import Derived.Test.YtipdjjgpcmbpdaaTab33
import Derived.Test.YtipdjjgpcmbpdaaList8
import Derived.Deep.RegionHeld3
import Derived.Test.YtipdjjgpcmbpdaaVal1
set_option linter.unusedVariables false
namespace Go.Proofs.Ytipdjjgpcmbpdaa.Hp
open Go.RowKit Go.ChangeShapes Go.WideShapes Go.ChangeAt Go.Proofs.Ytipdjjgpcmbpdaa.Va Go.Proofs.Ytipdjjgpcmbpdaa.Ta Go.Proofs.Ytipdjjgpcmbpdaa.Li

/-- A cell: its kind, values, list and table (and where these lie), numbers, text. -/
structure Ce where
  k : Int
  vs : List Vl
  lb : Nat
  ls : Option (List Vl)
  tb : Nat
  ts : Option (List (Vl × Vl))
  ns : List Int
  s : ByteArray
def lpV (C : Ce) : Value := match C.ls with | none => .pointer none | some _ => .pointer (some ⟨C.lb, 0, none⟩)
def tpV (C : Ce) : Value := match C.ts with | none => .pointer none | some _ => .pointer (some ⟨C.tb, 0, none⟩)
def OwnN (B : Nat) (ad : Option Addr) (cap : Nat) (w : World) (L : List Int) : Prop := w.ownsRow B 2 1 (.slice ad L.length cap) L.length (ints L)
/-- A cell's block. -/
def celB (C : Ce) (va : Option Addr) (vc : Nat) (na : Option Addr) (nc : Nat) : Obj := .cells #[.int .i64 C.k, .slice va C.vs.length vc, lpV C, tpV C, .slice na C.ns.length nc, .string C.s] 78 (0, 0)
structure CeP (F : Nat → Option Nat) (B a : Nat) (va : Option Addr) (vc : Nat) (na : Option Addr) (nc : Nat) (w : World) (C : Ce) : Prop where
  blk : w.heap[a]? = some (celB C va vc na nc)
  low : B ≤ a
  vs : Li.Own B va vc w C.vs
  ns : OwnN B na nc w C.ns
  ls : ∀ L, C.ls = some L → ∃ ad cap, IsL B C.lb ad cap w L ∧ F C.lb = some a ∧ ∀ g, ad.map (·.block) = some g → F g = some a
  fv : ∀ g, va.map (·.block) = some g → F g = some a
  fn : ∀ g, na.map (·.block) = some g → F g = some a
  ts : ∀ T, C.ts = some T → ∃ E last sz us, prs E = T ∧ IsTab B C.tb w E last sz us
def IsC (F : Nat → Option Nat) (B a : Nat) (w : World) (C : Ce) : Prop := ∃ va vc na nc, CeP F B a va vc na nc w C
def ptr : Option (Nat × Ce) → Value
  | none => .pointer none
  | some (a, _) => .pointer (some ⟨a, 0, none⟩)
/-- What a heap is: cells by their numbers (none: freed), free numbers, limit, runs, freed. -/
structure Hd where
  cs : List (Option (Nat × Ce))
  fr : List Int
  lim : Int
  runs : Int
  gone : Int
def hdB (H : Hd) (ga : Option Addr) (gc : Nat) (fa : Option Addr) (fc : Nat) : Obj := .cells #[.slice ga H.cs.length gc, .slice fa H.fr.length fc, .int .i64 H.lim, .int .i64 H.runs, .int .i64 H.gone] 117 (0, 0)
def OwnC (B : Nat) (ad : Option Addr) (cap : Nat) (w : World) (cs : List (Option (Nat × Ce))) : Prop := w.ownsRow B 71 1 (.slice ad cs.length cap) cs.length (cs.map ptr)
structure HdP (F : Nat → Option Nat) (B hb : Nat) (ga : Option Addr) (gc : Nat) (fa : Option Addr) (fc : Nat) (w : World) (H : Hd) : Prop where
  blk : w.heap[hb]? = some (hdB H ga gc fa fc)
  low : B ≤ hb
  row : OwnC B ga gc w H.cs
  fre : OwnI B fa fc w H.fr
  all : ∀ (i a : Nat) (C : Ce), H.cs[i]? = some (some (a, C)) → IsC F B a w C
  len : H.fr.length ≤ H.cs.length ∧ H.cs.length ≤ 2000000
  bd : ∀ k, F k ≠ none → k < w.heap.size
  dis : ∀ (i j a : Nat) (C C' : Ce), H.cs[i]? = some (some (a, C)) → H.cs[j]? = some (some (a, C')) → i = j
theorem ceP_below {F : Nat → Option Nat} {B a vc nc : Nat} {va na : Option Addr} {w w' : World} {C : Ce} (h : CeP F B a va vc na nc w C) (hb : Below w.heap.size w w') : CeP F B a va vc na nc w' C :=
  ⟨(hb.block _ (lt_of_block h.blk)).trans h.blk, h.low, own_below h.vs hb, Ta.row_below h.ns hb, fun L e => by
    obtain ⟨ad, cap, h1, h2⟩ := h.ls L e
    exact ⟨ad, cap, isL_below h1 hb, h2⟩, h.fv, h.fn, fun T e => by
    obtain ⟨E, last, sz, us, h1, h2⟩ := h.ts T e
    exact ⟨E, last, sz, us, h1, isTab_below h2 hb⟩⟩
theorem isC_below {F : Nat → Option Nat} {B a : Nat} {w w' : World} {C : Ce} (h : IsC F B a w C) (hb : Below w.heap.size w w') : IsC F B a w' C := by
  obtain ⟨va, vc, na, nc, h⟩ := h
  exact ⟨va, vc, na, nc, ceP_below h hb⟩
theorem hdP_below {F : Nat → Option Nat} {B hb gc fc : Nat} {ga fa : Option Addr} {w w' : World} {H : Hd} (h : HdP F B hb ga gc fa fc w H) (hz : Below w.heap.size w w') : HdP F B hb ga gc fa fc w' H :=
  ⟨(hz.block _ (lt_of_block h.blk)).trans h.blk, h.low, Ta.row_below h.row hz, Ta.row_below h.fre hz, fun i a C e => isC_below (h.all i a C e) hz, h.len, fun k hk => Nat.lt_of_lt_of_le (h.bd k hk) hz.size, h.dis⟩
theorem hd_cells {F : Nat → Option Nat} {B hb gc fc : Nat} {ga fa : Option Addr} {w : World} {H : Hd} (h : HdP F B hb ga gc fa fc w H) :
    w.cell? ⟨hb, 0, none⟩ = some (.slice ga H.cs.length gc) ∧ w.cell? ⟨hb, 1, none⟩ = some (.slice fa H.fr.length fc) ∧ w.cell? ⟨hb, 2, none⟩ = some (.int .i64 H.lim) ∧ w.cell? ⟨hb, 3, none⟩ = some (.int .i64 H.runs) ∧ w.cell? ⟨hb, 4, none⟩ = some (.int .i64 H.gone) ∧
    w.frozen? ⟨hb, 0, none⟩ = false ∧ w.frozen? ⟨hb, 1, none⟩ = false ∧ w.frozen? ⟨hb, 3, none⟩ = false ∧ w.frozen? ⟨hb, 4, none⟩ = false := by
  have hb := h.blk
  unfold hdB at hb
  refine ⟨?_, ?_, ?_, ?_, ?_, ?_, ?_, ?_, ?_⟩ <;> first | (rw [cell_of_row _ _ _ _ _ _ hb]; rfl) | (simp [World.frozen?, hb])
theorem ce_cells {F : Nat → Option Nat} {B a vc nc : Nat} {va na : Option Addr} {w : World} {C : Ce} (h : CeP F B a va vc na nc w C) :
    w.cell? ⟨a, 0, none⟩ = some (.int .i64 C.k) ∧ w.cell? ⟨a, 1, none⟩ = some (.slice va C.vs.length vc) ∧ w.cell? ⟨a, 2, none⟩ = some (lpV C) ∧ w.cell? ⟨a, 3, none⟩ = some (tpV C) ∧ w.cell? ⟨a, 4, none⟩ = some (.slice na C.ns.length nc) ∧ w.cell? ⟨a, 5, none⟩ = some (.string C.s) := by
  have hb := h.blk
  unfold celB at hb
  refine ⟨?_, ?_, ?_, ?_, ?_, ?_⟩ <;> (rw [cell_of_row _ _ _ _ _ _ hb]; rfl)
theorem ptr_at {B gc : Nat} {ga : Option Addr} {w : World} {cs : List (Option (Nat × Ce))} (h : OwnC B ga gc w cs) {i : Nat} {x : Option (Nat × Ce)} (hi : cs[i]? = some x) :
    ∃ g, ga = some ⟨g, 0, none⟩ ∧ w.cell? ⟨g, i, none⟩ = some (ptr x) := by
  have hl := (List.getElem?_eq_some_iff.1 hi).1
  obtain ⟨g, rfl, _, _⟩ := row_some h (by omega)
  refine ⟨g, rfl, (World.ownsRow.cellAt (n := cs.length) (size := 1) h i (by omega)).trans ?_⟩
  rw [List.getElem?_map, hi]; rfl
set_option maxRecDepth 100000 in
theorem hnew_any (lim : Int) (w : World) : Calls Try.prog 26 #[.int .i64 lim] w fun x w' => ∃ b, x = .returned (.pointer (some ⟨b, 0, none⟩)) ∧ HdP (fun _ => none) w.heap.size b none 0 none 0 w' ⟨[], [], min (max lim 0) 1048576, 0, 0⟩ ∧ Below w.heap.size w w' := by
  have hA := heap_alloc_new w (.cells #[.slice none 0 0, .slice none 0 0, .int .i64 (min (max lim 0) 1048576), .int .i64 0, .int .i64 0] 117)
  have HE := Lib.hid ((Below.refl w.heap.size w).alloc (Nat.le_refl _) (.cells #[.slice none 0 0, .slice none 0 0, .int .i64 (min (max lim 0) 1048576), .int .i64 0, .int .i64 0] 117))
  have HT : Hid (HdP (fun _ => none) w.heap.size w.heap.size none 0 none 0 (w.alloc (.cells #[.slice none 0 0, .slice none 0 0, .int .i64 (min (max lim 0) 1048576), .int .i64 0, .int .i64 0] 117)) ⟨[], [], min (max lim 0) 1048576, 0, 0⟩) :=
    ⟨hA, Nat.le_refl _, World.ownsRow_nil _ _ _ _, World.ownsRow_nil _ _ _ _, fun i a C e => by simp at e, by simp, fun k h => absurd rfl h, fun i j a C C' e => by simp at e⟩
  clear hA
  go_enter Try.func26, Try.ntmps26
  go_wp2_with fail
  go_ret
  exact ⟨_, rfl, HT.out, HE.out⟩
theorem live_any {F : Nat → Option Nat} {B hb gc fc : Nat} {ga fa : Option Addr} {w : World} {H : Hd} (h : HdP F B hb ga gc fa fc w H) :
    Calls Try.prog 44 #[.pointer (some ⟨hb, 0, none⟩)] w fun x w' => x = .returned (.int .i64 ((H.cs.length : Int) - (H.fr.length : Int))) ∧ Below w.heap.size w w' := by
  obtain ⟨c0, c1, c2, c3, c4, z0, z1, z3, z4⟩ := hd_cells h
  have h1 := h.len.1
  have h2 := h.len.2
  have HW : Hid (wrap64 ((H.cs.length : Int) - (H.fr.length : Int)) = (H.cs.length : Int) - (H.fr.length : Int)) := by show _ = _; unfold wrap64; omega
  clear h h1 h2
  go_enter Try.func44, Try.ntmps44
  go_wp2_with fail
  go_quiet (fail)
  go_wp2_with fail
  go_ret
  rw [HW.out]
  exact ⟨rfl, below_drewN (Below.refl _ _) nq⟩
theorem get_yes {F : Nat → Option Nat} {B hb gc fc : Nat} {ga fa : Option Addr} {w : World} {H : Hd} (h : HdP F B hb ga gc fa fc w H) {i a : Nat} {C : Ce} (hi : H.cs[i]? = some (some (a, C))) :
    Calls Try.prog 39 #[.pointer (some ⟨hb, 0, none⟩), .int .i64 (i : Int)] w fun x w' => x = .returned (.tuple #[.pointer (some ⟨a, 0, none⟩), .int .i64 0]) ∧ w = w' := by
  obtain ⟨c0, c1, c2, c3, c4, z0, z1, z3, z4⟩ := hd_cells h
  obtain ⟨g, rfl, p0⟩ := ptr_at h.row hi
  have hl := (List.getElem?_eq_some_iff.1 hi).1
  have h1 : ¬ (i : Int) < 0 := by omega
  have h2 : ¬ (H.cs.length : Int) ≤ (i : Int) := by omega
  unfold ptr at p0
  clear h hi hl
  go_enter Try.func39, Try.ntmps39
  go_wp2_with fail
  go_ret2
  exact ⟨rfl, rfl⟩
theorem get_gone {F : Nat → Option Nat} {B hb gc fc : Nat} {ga fa : Option Addr} {w : World} {H : Hd} (h : HdP F B hb ga gc fa fc w H) {i : Nat} (hi : H.cs[i]? = some none) :
    Calls Try.prog 39 #[.pointer (some ⟨hb, 0, none⟩), .int .i64 (i : Int)] w fun x w' => x = .returned (.tuple #[.pointer none, .int .i64 41]) ∧ w = w' := by
  obtain ⟨c0, c1, c2, c3, c4, z0, z1, z3, z4⟩ := hd_cells h
  obtain ⟨g, rfl, p0⟩ := ptr_at h.row hi
  have hl := (List.getElem?_eq_some_iff.1 hi).1
  have h1 : ¬ (i : Int) < 0 := by omega
  have h2 : ¬ (H.cs.length : Int) ≤ (i : Int) := by omega
  unfold ptr at p0
  clear h hi hl
  go_enter Try.func39, Try.ntmps39
  go_wp2_with fail
  go_ret2
  exact ⟨rfl, rfl⟩
theorem get_out {F : Nat → Option Nat} {B hb gc fc : Nat} {ga fa : Option Addr} {w : World} {H : Hd} (h : HdP F B hb ga gc fa fc w H) (i : Int) (hi : i < 0 ∨ (H.cs.length : Int) ≤ i) :
    Calls Try.prog 39 #[.pointer (some ⟨hb, 0, none⟩), .int .i64 i] w fun x w' => x = .returned (.tuple #[.pointer none, .int .i64 1]) ∧ w = w' := by
  obtain ⟨c0, c1, c2, c3, c4, z0, z1, z3, z4⟩ := hd_cells h
  clear h
  by_cases h1 : i < 0
  · go_enter Try.func39, Try.ntmps39
    go_wp2_with fail
    go_ret2
    exact ⟨rfl, rfl⟩
  · have h2 := hi.resolve_left h1
    clear hi
    go_enter Try.func39, Try.ntmps39
    go_wp2_with fail
    go_ret2
    exact ⟨rfl, rfl⟩
/-- The cell of which a weak one tells. -/
def tgt (C : Ce) : Int := if C.k ≠ 9 then -1 else match C.ns with | [] => -1 | n :: _ => max n (-1)
theorem target_any {F : Nat → Option Nat} {B a vc nc : Nat} {va na : Option Addr} {w : World} {C : Ce} (h : CeP F B a va vc na nc w C) :
    Calls Try.prog 65 #[.pointer (some ⟨a, 0, none⟩)] w fun x w' => x = .returned (.int .i64 (tgt C)) ∧ w = w' := by
  obtain ⟨c0, c1, c2, c3, c4, c5⟩ := ce_cells h
  have HT : Hid (tgt C = if C.k ≠ 9 then -1 else match C.ns with | [] => -1 | n :: _ => max n (-1)) := rfl
  generalize tgt C = T at *
  by_cases hk : C.k = 9
  · have hk1 : (C.k != 9) = false := by simp [hk]
    rcases hn : C.ns with _ | ⟨n, ns⟩
    · rw [hn] at c4 HT
      have hT : T = -1 := by have := HT.out; rw [if_neg (by simp [hk])] at this; exact this
      subst hT
      clear HT h hk
      go_enter Try.func65, Try.ntmps65
      go_wp2_with fail
      go_ret
      exact ⟨rfl, rfl⟩
    · have hT : max n (-1) = T := by have := HT.out; rw [hn, if_neg (by simp [hk])] at this; exact this.symm
      have hrow := h.ns
      rw [hn] at hrow c4
      obtain ⟨g, rfl, _, _⟩ := row_some hrow (by simp)
      have r0 : w.cell? ⟨g, 0, none⟩ = some (.int .i64 n) := (World.ownsRow.cellAt (n := (n :: ns).length) (size := 1) hrow 0 (by simp)).trans (by simp [ints])
      have hl : ((((n :: ns).length : Nat) : Int) == 0) = false := by simp; omega
      have hl2 : (0 : Int) < (((n :: ns).length : Nat) : Int) := by simp
      clear HT h hk hrow hn
      subst hT
      generalize (n :: ns).length = N at *
      go_enter Try.func65, Try.ntmps65
      go_wp2_with fail
      go_ret
      exact ⟨rfl, rfl⟩
  · have hk1 : (C.k != 9) = true := by simp [hk]
    have hT : T = -1 := by have := HT.out; rw [if_pos hk] at this; exact this
    subst hT
    clear HT h hk
    go_enter Try.func65, Try.ntmps65
    go_wp2_with fail
    go_ret
    exact ⟨rfl, rfl⟩

/-- A block that is no heap's. -/
def NotH (A : Obj) : Prop := ∀ cur t fr, A = .cells cur t fr → t ≠ 117 ∧ t ≠ 71
/-- Only blocks of heaps have turned. -/
structure FrP (w w' : World) : Prop where
  os : w'.os = w.os
  tape : w'.tape = w.tape
  output : w'.output = w.output
  size : w.heap.size ≤ w'.heap.size
  block : ∀ (k : Nat) (A : Obj), w.heap[k]? = some A → NotH A → w'.heap[k]? = some A
theorem frP_refl (w : World) : FrP w w := ⟨rfl, rfl, rfl, Nat.le_refl _, fun _ _ h _ => h⟩
theorem frP_trans {w W w' : World} (h1 : FrP w W) (h2 : FrP W w') : FrP w w' :=
  ⟨h2.os.trans h1.os, h2.tape.trans h1.tape, h2.output.trans h1.output, Nat.le_trans h1.size h2.size, fun k A h n => h2.block k A (h1.block k A h n) n⟩
theorem frP_below {w w' : World} (h : Below w.heap.size w w') : FrP w w' := ⟨h.os, h.tape, h.output, h.size, fun k A hA _ => (h.block k (lt_of_block hA)).trans hA⟩
theorem frP_set {w : World} {g o : Nat} {v : Value} {cur : Array Value} {t : TypeId} {fr : Nat × Nat} (h : w.heap[g]? = some (.cells cur t fr)) (ht : t = 117 ∨ t = 71) : FrP w (w.setCell ⟨g, o, none⟩ v) :=
  ⟨rfl, rfl, rfl, by simp [World.setCell], fun k A hA hn => by
    have hne : ¬ g = k := by
      rintro rfl
      rw [h] at hA
      obtain ⟨n1, n2⟩ := hn cur t fr (Option.some.inj hA).symm
      rcases ht with e | e
      · exact n1 e
      · exact n2 e
    simp only [World.setCell, Array.getElem?_modify]
    rw [if_neg hne]; exact hA⟩
theorem frP_grown {w w' : World} {row : Option Nat} (h : w.grownBy w' row) (hr : ∀ r, row = some r → ∃ cur fr, w.heap[r]? = some (.cells cur 71 fr)) : FrP w w' :=
  ⟨h.os, h.tape, h.output, h.size, fun k A hA hn => by
    have hne : some k ≠ row := fun e => by
      obtain ⟨cur, fr, hc⟩ := hr k e.symm
      rw [hA] at hc
      exact (hn cur _ fr (Option.some.inj hc)).2 rfl
    rw [h.block k (lt_of_block hA) hne]; exact hA⟩
theorem row_fp {w w' : World} {B e size n cap : Nat} {ad : Option Addr} {xs : List Value} (he : e ≠ 117 ∧ e ≠ 71) (h : w.ownsRow B e size (.slice ad n cap) n xs) (hf : FrP w w') : w'.ownsRow B e size (.slice ad n cap) n xs :=
  row_move h fun g x => by
    obtain ⟨_, cur, hc⟩ := Ta.row_block h g x
    rw [hc]
    exact hf.block g _ hc (fun cur' t' fr' e' => by cases e'; exact he)
theorem blk_fp {w w' : World} {k : Nat} {cur : Array Value} {t : TypeId} {fr : Nat × Nat} (ht : t ≠ 117 ∧ t ≠ 71) (h : w.heap[k]? = some (.cells cur t fr)) (hf : FrP w w') : w'.heap[k]? = some (.cells cur t fr) :=
  hf.block k _ h (fun cur' t' fr' e' => by cases e'; exact ht)
theorem isL_fp {B b cap : Nat} {ad : Option Addr} {w w' : World} {L : List Vl} (h : IsL B b ad cap w L) (hf : FrP w w') : IsL B b ad cap w' L :=
  ⟨blk_fp ⟨by decide, by decide⟩ h.blk hf, h.low, row_fp ⟨by decide, by decide⟩ h.own hf⟩
theorem isTab_fp {B b sz us : Nat} {w w' : World} {E : List (Vl × Vl × Int)} {last : Int} (h : IsTab B b w E last sz us) (hf : FrP w w') : IsTab B b w' E last sz us := by
  obtain ⟨ar, cr, ap, cp, R, P, n, hT, h1, h2, h3⟩ := h
  exact ⟨ar, cr, ap, cp, R, P, n, ⟨blk_fp ⟨by decide, by decide⟩ hT.blk hf, hT.low, row_fp ⟨by decide, by decide⟩ hT.r hf, row_fp ⟨by decide, by decide⟩ hT.p hf, hT.g, hT.cnt, hT.ok, hT.bd⟩, h1, h2, h3⟩
theorem ceP_fp {F : Nat → Option Nat} {B a vc nc : Nat} {va na : Option Addr} {w w' : World} {C : Ce} (h : CeP F B a va vc na nc w C) (hf : FrP w w') : CeP F B a va vc na nc w' C :=
  ⟨blk_fp ⟨by decide, by decide⟩ h.blk hf, h.low, row_fp ⟨by decide, by decide⟩ h.vs hf, row_fp ⟨by decide, by decide⟩ h.ns hf, fun L e => by
    obtain ⟨ad, cap, h1, h2⟩ := h.ls L e
    exact ⟨ad, cap, isL_fp h1 hf, h2⟩, h.fv, h.fn, fun T e => by
    obtain ⟨E, last, sz, us, h1, h2⟩ := h.ts T e
    exact ⟨E, last, sz, us, h1, isTab_fp h2 hf⟩⟩
theorem isC_fp {F : Nat → Option Nat} {B a : Nat} {w w' : World} {C : Ce} (h : IsC F B a w C) (hf : FrP w w') : IsC F B a w' C := by
  obtain ⟨va, vc, na, nc, h⟩ := h
  exact ⟨va, vc, na, nc, ceP_fp h hf⟩
theorem A.infoC : (Try.prog.info? 71).map (fun i => (i.zero, i.size, i.bytes)) = some (some (.pointer none), 1, 8) := by kernel_rfl
theorem ptr_cells (cs : List (Option (Nat × Ce))) : ∀ u ∈ cs.map ptr, u.oneCell' = true := by
  intro u h
  rw [List.mem_map] at h
  obtain ⟨x, _, rfl⟩ := h
  rcases x with _ | ⟨a, C⟩ <;> rfl
theorem shapeC {B n : Nat} {v : Value} {w : World} {xs : List Value} (h : w.ownsRow B 71 1 v n xs) : ∃ ad cap, v = .slice ad n cap := by
  rcases h.2 with ⟨rfl, rfl⟩ | ⟨g, cap, cur, rfl, _⟩
  · exact ⟨none, 0, rfl⟩
  · exact ⟨_, cap, rfl⟩
/-- 'append(cells, c)'. -/
theorem run_ptr {cap B g : Nat} {ad : Option Addr} {w : World} {cs : List (Option (Nat × Ce))} {x : Option (Nat × Ce)} (hm : cs.length ≤ 3000000) (hB : B ≤ w.heap.size) (h : OwnC B ad cap w cs) (hg : w.heap[g]? = some (.cells #[ptr x] 71 (0, 0))) :
    ∃ ad' cap' w', (Builtin.append_ #[115, 115] 115 #[.slice ad cs.length cap, .slice (some ⟨g, 0, none⟩) 1 1]).run Try.prog w = .ok (.slice ad' (cs.length + 1) cap') w' ∧ OwnC B ad' cap' w' (cs ++ [x]) ∧ w.grownBy w' (ad.map (·.block)) := by
  obtain ⟨i0, hi, hz0, hz1, hz2⟩ := info_parts A.infoC
  obtain ⟨v', w', hr, hown, hgr, _⟩ := run_append_own (P := Try.prog) (w := w) B 115 115 71 i0 (.pointer none) 1 8 Try.underlying115 hi hz0 hz1 hz2 rfl (by decide) _ cs.length (cs.map ptr) h ⟨g, 0, none⟩ 1 1 [ptr x] rfl (fun j u hj => by
      match j, hj with
      | 0, hj =>
        simp at hj; subst hj
        rw [Go.WideShapes.add_plain]
        exact cell_of_one hg) (ptr_cells [x]) (by unfold maxLen; omega) (by omega) hB
  obtain ⟨ad', cap', rfl⟩ := shapeC hown
  rw [Li.own_blockv] at hgr
  refine ⟨ad', cap', w', hr, ?_, hgr⟩
  show World.ownsRow _ _ _ _ _ _ _
  rw [List.length_append, List.map_append]; exact hown
/-- A heap with a cell more behind. -/
def Hd.more (H : Hd) (a : Nat) (C : Ce) : Hd := { H with cs := H.cs ++ [some (a, C)] }
/-- A heap with a cell by the number that was freed last. -/
def Hd.again (H : Hd) (n : Nat) (a : Nat) (C : Ce) : Hd := { H with cs := H.cs.set n (some (a, C)), fr := H.fr.dropLast }
theorem frP_all {F : Nat → Option Nat} {B : Nat} {w w' : World} {H : Hd} (h : ∀ (i a : Nat) (C : Ce), H.cs[i]? = some (some (a, C)) → IsC F B a w C) (hf : FrP w w') : ∀ (i a : Nat) (C : Ce), H.cs[i]? = some (some (a, C)) → IsC F B a w' C := fun i a C e => isC_fp (h i a C e) hf
theorem dis_more {H : Hd} {a : Nat} {C : Ce} (h : ∀ (i j a : Nat) (C C' : Ce), H.cs[i]? = some (some (a, C)) → H.cs[j]? = some (some (a, C')) → i = j) (hna : ∀ (i : Nat) (C' : Ce), H.cs[i]? ≠ some (some (a, C'))) : ∀ (i j x : Nat) (D D' : Ce), (H.more a C).cs[i]? = some (some (x, D)) → (H.more a C).cs[j]? = some (some (x, D')) → i = j := by
  have key : ∀ (i x : Nat) (D : Ce), (H.more a C).cs[i]? = some (some (x, D)) → H.cs[i]? = some (some (x, D)) ∨ (i = H.cs.length ∧ x = a) := fun i x D e => by
    unfold Hd.more at e
    simp only at e
    rw [List.getElem?_append] at e
    split at e
    · exact Or.inl e
    · have h1 := (List.getElem?_eq_some_iff.1 e).1
      have h2 := List.mem_of_getElem? e
      simp at h1 h2
      exact Or.inr ⟨by omega, h2.1⟩
  intro i j x D D' e1 e2
  rcases key i x D e1 with h1 | ⟨h1, h1'⟩
  · rcases key j x D' e2 with h2 | ⟨h2, h2'⟩
    · exact h i j x D D' h1 h2
    · subst h2'; exact absurd h1 (hna i D)
  · rcases key j x D' e2 with h2 | ⟨h2, h2'⟩
    · subst h1'; exact absurd h2 (hna j D')
    · omega
set_option maxRecDepth 100000 in
set_option maxHeartbeats 2000000 in
theorem put_more {F : Nat → Option Nat} {B hb gc fc a : Nat} {ga fa : Option Addr} {w : World} {H : Hd} {C : Ce} (h : HdP F B hb ga gc fa fc w H) (hB : B ≤ w.heap.size) (hC : IsC F B a w C) (hna : ∀ (i : Nat) (C' : Ce), H.cs[i]? ≠ some (some (a, C'))) (hf : H.fr = []) (hlen : H.cs.length < 1900000) :
    Calls Try.prog 75 #[.pointer (some ⟨hb, 0, none⟩), .pointer (some ⟨a, 0, none⟩)] w fun x w' => ∃ ga' gc', x = .returned (.int .i64 (H.cs.length : Int)) ∧ HdP F B hb ga' gc' fa fc w' (H.more a C) ∧ FrP w w' ∧ Below B w w' := by
  obtain ⟨c0, c1, c2, c3, c4, z0, z1, z3, z4⟩ := hd_cells h
  rw [hf] at c1
  have hq := (Below.refl w.heap.size w).alloc (Nat.le_refl _) (.cells #[.pointer (some ⟨a, 0, none⟩)] 71)
  have h1 := hdP_below h hq
  have hn : (w.alloc (.cells #[.pointer (some ⟨a, 0, none⟩)] 71)).heap[w.heap.size]? = some (.cells #[ptr (some (a, C))] 71 (0, 0)) := heap_alloc_new w _
  obtain ⟨ga', gc', w4, hr, hown, hgr⟩ := run_ptr (by omega) (Nat.le_trans hB hq.size) h1.row hn
  have hf4 : FrP w w4 := frP_trans (frP_below hq) (frP_grown hgr (fun r e => by
    obtain ⟨_, cur, hc⟩ := Ta.row_block h1.row r e
    exact ⟨cur, _, hc⟩))
  have hne : ga.map (·.block) ≠ some hb := fun e => by
    obtain ⟨_, cur, hc⟩ := Ta.row_block h.row hb e
    rw [h.blk] at hc
    unfold hdB at hc
    simp at hc
  have hb4 : w4.heap[hb]? = some (hdB H ga gc fa fc) := (hgr.block hb (lt_of_block h1.blk) (fun e => hne e.symm)).trans h1.blk
  have hz4 : Below B w w4 := (hq.mono hB).grown hgr (Nat.le_trans hB hq.size) (fun k e => (Ta.row_block h1.row k e).1)
  have hne' : ga'.map (·.block) ≠ some hb := fun e => by
    obtain ⟨_, cur, hc⟩ := Ta.row_block hown hb e
    rw [hb4] at hc
    unfold hdB at hc
    simp at hc
  have hf5 : FrP w (w4.setCell ⟨hb, 0, none⟩ (.slice ga' (H.cs.length + 1) gc')) := frP_trans hf4 (frP_set hb4 (Or.inl rfl))
  have hb5 : (w4.setCell ⟨hb, 0, none⟩ (.slice ga' (H.cs.length + 1) gc')).heap[hb]? = some (hdB (H.more a C) ga' gc' fa fc) := by
    unfold hdB at hb4
    rw [heap_setCell_same _ _ _ _ _ _ hb4]
    unfold hdB Hd.more
    simp
  have hz5 : Below B w (w4.setCell ⟨hb, 0, none⟩ (.slice ga' (H.cs.length + 1) gc')) := hz4.setCell (p := ⟨hb, 0, none⟩) h.low _
  have HP5 : Hid (HdP F B hb ga' gc' fa fc (w4.setCell ⟨hb, 0, none⟩ (.slice ga' (H.cs.length + 1) gc')) (H.more a C)) :=
    ⟨hb5, h.low, row_move hown (fun g e => heap_setCell_other _ _ _ _ (fun e' => hne' (by rw [e, e']))), by
      show OwnI B fa fc _ H.fr
      exact row_fp ⟨by decide, by decide⟩ h.fre hf5, fun i a' C' e => by
      unfold Hd.more at e
      simp only at e
      rw [List.getElem?_append] at e
      split at e
      · exact isC_fp (h.all i a' C' e) hf5
      · have := List.mem_of_getElem? e
        simp at this
        obtain ⟨rfl, rfl⟩ := this
        exact isC_fp hC hf5, by
      unfold Hd.more
      rw [hf]
      simp; omega, fun k hk => Nat.lt_of_lt_of_le (h.bd k hk) hf5.size, dis_more h.dis hna⟩
  have HF5 := Lib.hid hf5
  have HZ5 := Lib.hid hz5
  unfold hdB at hb4
  have d0 : w4.cell? ⟨hb, 0, none⟩ = some (.slice ga H.cs.length gc) := by rw [cell_of_row _ _ _ _ _ _ hb4]; rfl
  have y0 : w4.frozen? ⟨hb, 0, none⟩ = false := by simp [World.frozen?, hb4]
  have HW : Hid (wrap64 (H.cs.length : Int) = (H.cs.length : Int)) := by show _ = _; unfold wrap64; omega
  clear h hB hC hna hf hlen hq h1 hn hown hgr hf4 hne hb4 hz4 hne' hf5 hb5 hz5
  go_enter Try.func75, Try.ntmps75
  go_wp2_with (at_builtin; refine Lib.wpList_append_run _ rfl _ _ _ _ rfl _ _ rfl rfl _ _ hr ?_)
  go_ret
  rw [HW.out]
  exact ⟨_, _, rfl, HP5.out, HF5.out, HZ5.out⟩

theorem row_cut {B e n m cap : Nat} {ad : Option Addr} {w : World} {xs : List Value} (h : w.ownsRow B e 1 (.slice ad n cap) n xs) (hm : m ≤ n) : w.ownsRow B e 1 (.slice ad m cap) m (xs.take m) := by
  have hl := h.1
  rcases h.2 with ⟨hv, hn⟩ | ⟨g, c, cur, hv, hb, hg, hnc, hcm, hcs, htake⟩
  · simp only [Value.slice.injEq] at hv
    obtain ⟨rfl, rfl, rfl⟩ := hv
    obtain rfl : m = 0 := by omega
    exact ⟨by simp, .inl ⟨rfl, rfl⟩⟩
  · simp only [Value.slice.injEq] at hv
    obtain ⟨rfl, _, rfl⟩ := hv
    refine ⟨by rw [List.length_take]; omega, .inr ⟨g, cap, cur, rfl, hb, hg, by omega, hcm, hcs, ?_⟩⟩
    rw [← htake, List.take_take]
    congr 1
    omega
theorem all_again {F : Nat → Option Nat} {B a n : Nat} {w : World} {H : Hd} {C : Ce} (h : ∀ (i a : Nat) (C : Ce), H.cs[i]? = some (some (a, C)) → IsC F B a w C) (hC : IsC F B a w C) : ∀ (i a' : Nat) (C' : Ce), (H.again n a C).cs[i]? = some (some (a', C')) → IsC F B a' w C' := fun i a' C' e => by
  unfold Hd.again at e
  simp only at e
  rw [List.getElem?_set] at e
  split at e
  · split at e
    · simp at e
      obtain ⟨rfl, rfl⟩ := e
      exact hC
    · cases e
  · exact h i a' C' e
theorem dis_again {H : Hd} {a n : Nat} {C : Ce} (h : ∀ (i j a : Nat) (C C' : Ce), H.cs[i]? = some (some (a, C)) → H.cs[j]? = some (some (a, C')) → i = j) (hna : ∀ (i : Nat) (C' : Ce), H.cs[i]? ≠ some (some (a, C'))) : ∀ (i j x : Nat) (D D' : Ce), (H.again n a C).cs[i]? = some (some (x, D)) → (H.again n a C).cs[j]? = some (some (x, D')) → i = j := by
  have key : ∀ (i x : Nat) (D : Ce), (H.again n a C).cs[i]? = some (some (x, D)) → H.cs[i]? = some (some (x, D)) ∨ (i = n ∧ x = a) := fun i x D e => by
    unfold Hd.again at e
    simp only at e
    rw [List.getElem?_set] at e
    split at e
    · rename_i hi
      split at e
      · simp at e
        exact Or.inr ⟨hi.symm, e.1.symm⟩
      · cases e
    · exact Or.inl e
  intro i j x D D' e1 e2
  rcases key i x D e1 with h1 | ⟨h1, h1'⟩
  · rcases key j x D' e2 with h2 | ⟨h2, h2'⟩
    · exact h i j x D D' h1 h2
    · subst h2'; exact absurd h1 (hna i D)
  · rcases key j x D' e2 with h2 | ⟨h2, h2'⟩
    · subst h1'; exact absurd h2 (hna j D')
    · omega
set_option maxRecDepth 100000 in
set_option maxHeartbeats 2000000 in
theorem put_again {F : Nat → Option Nat} {B hb gc fc a n m : Nat} {ga fa : Option Addr} {w : World} {H : Hd} {C : Ce} (h : HdP F B hb ga gc fa fc w H) (hC : IsC F B a w C) (hna : ∀ (i : Nat) (C' : Ce), H.cs[i]? ≠ some (some (a, C'))) (hm : H.fr.length = m + 1) (hn : H.fr[m]? = some (n : Int)) (hlt : n < H.cs.length) :
    Calls Try.prog 75 #[.pointer (some ⟨hb, 0, none⟩), .pointer (some ⟨a, 0, none⟩)] w fun x w' => x = .returned (.int .i64 (n : Int)) ∧ HdP F B hb ga gc fa fc w' (H.again n a C) ∧ FrP w w' ∧ Below B w w' := by
  obtain ⟨c0, c1, c2, c3, c4, z0, z1, z3, z4⟩ := hd_cells h
  rw [hm] at c1
  obtain ⟨gf, rfl, _, _⟩ := row_some h.fre (by rw [hm]; omega)
  obtain ⟨g, rfl, hgB, _⟩ := row_some h.row (by omega)
  have f0 : w.cell? ⟨gf, m, none⟩ = some (.int .i64 (n : Int)) := (World.ownsRow.cellAt (n := H.fr.length) (size := 1) h.fre m (by omega)).trans (by unfold ints; rw [List.getElem?_map, hn]; rfl)
  obtain ⟨_, cur, hcur⟩ := Ta.row_block h.row g rfl
  have hgb : hb ≠ g := fun e => by
    have := h.blk
    rw [e, hcur] at this
    unfold hdB at this
    simp at this
  have hb1 : (w.setCell ⟨hb, 1, none⟩ (.slice (some ⟨gf, 0, none⟩) m fc)).heap[hb]? = some (hdB (H.again n a C) (some ⟨g, 0, none⟩) gc (some ⟨gf, 0, none⟩) fc) := by
    have hk := h.blk
    unfold hdB at hk
    rw [heap_setCell_same _ _ _ _ _ _ hk]
    unfold hdB Hd.again
    simp [hm]
  have hf1 : FrP w (w.setCell ⟨hb, 1, none⟩ (.slice (some ⟨gf, 0, none⟩) m fc)) := frP_set h.blk (Or.inl rfl)
  have hr1 : OwnC B (some ⟨g, 0, none⟩) gc (w.setCell ⟨hb, 1, none⟩ (.slice (some ⟨gf, 0, none⟩) m fc)) H.cs := row_move h.row (fun g' e => heap_setCell_other _ _ _ _ (fun e' => hgb (by simp at e; rw [e, e'])))
  have hc1 : (w.setCell ⟨hb, 1, none⟩ (.slice (some ⟨gf, 0, none⟩) m fc)).heap[g]? = some (.cells cur 71 (0, 0)) := (heap_setCell_other _ _ _ _ (fun e => hgb e.symm)).trans hcur
  have hr2 := (World.ownsRow.stored hr1 n (.pointer (some ⟨a, 0, none⟩))).1
  have hf2 : FrP w ((w.setCell ⟨hb, 1, none⟩ (.slice (some ⟨gf, 0, none⟩) m fc)).setCell ⟨g, n, none⟩ (.pointer (some ⟨a, 0, none⟩))) := frP_trans hf1 (frP_set hc1 (Or.inr rfl))
  have HZ2 : Hid (Below B w ((w.setCell ⟨hb, 1, none⟩ (.slice (some ⟨gf, 0, none⟩) m fc)).setCell ⟨g, n, none⟩ (.pointer (some ⟨a, 0, none⟩)))) := ((Below.refl B w).setCell (p := ⟨hb, 1, none⟩) h.low _).setCell (p := ⟨g, n, none⟩) hgB _
  have HP2 : Hid (HdP F B hb (some ⟨g, 0, none⟩) gc (some ⟨gf, 0, none⟩) fc ((w.setCell ⟨hb, 1, none⟩ (.slice (some ⟨gf, 0, none⟩) m fc)).setCell ⟨g, n, none⟩ (.pointer (some ⟨a, 0, none⟩))) (H.again n a C)) :=
    ⟨(heap_setCell_other _ _ _ _ hgb).trans hb1, h.low, by
      show World.ownsRow _ _ _ _ _ _ _
      unfold Hd.again
      simp only [List.length_set, List.map_set]
      exact hr2, by
      have := row_fp ⟨by decide, by decide⟩ (row_cut (m := m) h.fre (by omega)) hf2
      show World.ownsRow _ _ _ _ _ _ _
      unfold Hd.again
      simp only [List.length_dropLast, hm, Nat.add_sub_cancel]
      rw [List.dropLast_eq_take, hm, Nat.add_sub_cancel]
      unfold ints at this ⊢
      rw [List.map_take]
      exact this, all_again (frP_all h.all hf2) (isC_fp hC hf2), by
      have := h.len
      unfold Hd.again
      simp only [List.length_dropLast, List.length_set]
      omega, fun k hk => Nat.lt_of_lt_of_le (h.bd k hk) hf2.size, dis_again h.dis hna⟩
  have HF2 := Lib.hid hf2
  have r1 := World.ownsRow.frozenAt hr1 n
  have d0 : (w.setCell ⟨hb, 1, none⟩ (.slice (some ⟨gf, 0, none⟩) m fc)).cell? ⟨hb, 0, none⟩ = some (.slice (some ⟨g, 0, none⟩) H.cs.length gc) := by
    unfold hdB Hd.again at hb1
    rw [cell_of_row _ _ _ _ _ _ hb1]
    simp
  obtain ⟨old, hold⟩ := get_some hlt
  have p0 : w.cell? ⟨g, n, none⟩ = some (ptr old) := by
    obtain ⟨g', e, h1⟩ := ptr_at h.row hold
    cases e
    exact h1
  have p1 : w.frozen? ⟨g, n, none⟩ = false := World.ownsRow.frozenAt h.row n
  have p2 : (w.setCell ⟨hb, 1, none⟩ (.slice (some ⟨gf, 0, none⟩) m fc)).cell? ⟨g, n, none⟩ = some (ptr old) := by
    obtain ⟨g', e, h1⟩ := ptr_at hr1 hold
    cases e
    exact h1
  have hgb2 : ¬ g = hb := fun e => hgb e.symm
  generalize ptr old = ov at *
  have hl1 : (n : Int) < (H.cs.length : Int) := by omega
  have hl2 : (0 : Int) ≤ (n : Int) := by omega
  have hm1 : (m : Int) < (m : Int) + 1 := by omega
  have hm2 : ¬ (m : Int) < 0 := by omega
  have hm3 : m ≤ fc := by have := row_cap h.fre; omega
  have hwm : wrap64 (m : Int) = (m : Int) := by have := h.len; unfold wrap64; omega
  clear h hC hna hm hn hlt hold hcur hb1 hf1 hr1 hc1 hr2 hf2
  go_enter Try.func75, Try.ntmps75
  go_wp2_with fail
  go_ret
  exact ⟨rfl, HP2.out, HF2.out, HZ2.out⟩

/-- Numbers that lie in memory as a slice's. -/
def SrcN (ad : Option Addr) (w : World) (M : List Int) : Prop := M = [] ∨ ∃ a, ad = some a ∧ ∀ j u, (ints M)[j]? = some u → w.cell? (a.add j) = some u
theorem A.infoN : (Try.prog.info? 2).map (fun i => (i.zero, i.size, i.bytes)) = some (some (.int .i64 0), 1, 8) := by kernel_rfl
theorem shapeN {B n : Nat} {v : Value} {w : World} {xs : List Value} (h : w.ownsRow B 2 1 v n xs) : ∃ ad cap, v = .slice ad n cap := by
  rcases h.2 with ⟨rfl, rfl⟩ | ⟨g, cap, cur, rfl, _⟩
  · exact ⟨none, 0, rfl⟩
  · exact ⟨_, cap, rfl⟩
set_option maxRecDepth 100000 in
theorem run_nums {B c : Nat} {ad : Option Addr} {w : World} {M : List Int} (hm : M.length ≤ 2000000) (hB : B ≤ w.heap.size) (hs : SrcN ad w M) :
    ∃ ad' cap' w', (Builtin.append_ #[76, 76] 76 #[.slice none 0 0, .slice ad M.length c]).run Try.prog w = .ok (.slice ad' M.length cap') w' ∧ OwnN B ad' cap' w' M ∧ w.grownBy w' none := by
  obtain ⟨i0, hi, hz0, hz1, hz2⟩ := info_parts A.infoN
  have hn0 := World.ownsRow_nil w B 2 1
  by_cases hnone : ad = none
  · subst hnone
    have hM : M = [] := by
      rcases hs with h | ⟨a, h, _⟩
      · exact h
      · cases h
    subst hM
    exact ⟨none, 0, w, run_append_owned_none w B 76 76 2 i0 1 Try.underlying76 hi _ _ _ hn0, hn0, ⟨rfl, rfl, rfl, Nat.le_refl _, fun _ _ _ => rfl⟩⟩
  · obtain ⟨a, rfl⟩ := Option.ne_none_iff_exists'.1 hnone
    have hs' : ∀ j u, (ints M)[j]? = some u → w.cell? (a.add j) = some u := by
      rcases hs with rfl | ⟨a', e, h⟩
      · intro j u h; simp [ints] at h
      · cases e; exact h
    obtain ⟨v', w', hr, hown, hgr, _⟩ := run_append_own (P := Try.prog) (w := w) B 76 76 2 i0 (.int .i64 0) 1 8 Try.underlying76 hi hz0 hz1 hz2 rfl (by decide) _ 0 [] hn0 a M.length c (ints M) (by rw [ints_len, Nat.mul_one]) hs' (ints_cells M) (by unfold maxLen; omega) (by omega) hB
    obtain ⟨ad', cap', rfl⟩ := shapeN hown
    rw [Nat.zero_add] at hr hown
    exact ⟨ad', cap', w', hr, hown, hgr⟩
set_option maxRecDepth 100000 in
theorem run_vals {B c : Nat} {ad : Option Addr} {w : World} {M : List Vl} (hm : M.length ≤ 2000000) (hB : B ≤ w.heap.size) (hs : Li.Src ad w M) :
    ∃ ad' cap' w', (Builtin.append_ #[74, 74] 74 #[.slice none 0 0, .slice ad M.length c]).run Try.prog w = .ok (.slice ad' M.length cap') w' ∧ Li.Own B ad' cap' w' M ∧ w.grownBy w' none := by
  obtain ⟨i0, hi, hz0, hz1, hz2⟩ := info_parts A.infoE
  have hn0 := World.ownsRow_nil w B 30 3
  by_cases hnone : ad = none
  · subst hnone
    have hM : M = [] := by
      rcases hs with h | ⟨a, h, _⟩
      · exact h
      · cases h
    subst hM
    exact ⟨none, 0, w, run_append_owned_none w B 74 74 30 i0 3 Try.underlying74 hi _ _ _ hn0, hn0, ⟨rfl, rfl, rfl, Nat.le_refl _, fun _ _ _ => rfl⟩⟩
  · obtain ⟨a, rfl⟩ := Option.ne_none_iff_exists'.1 hnone
    have hs' : ∀ j u, (flat M)[j]? = some u → w.cell? (a.add j) = some u := by
      rcases hs with rfl | ⟨a', e, h⟩
      · intro j u h; simp [flat] at h
      · cases e; exact h
    obtain ⟨ad', cap', w', hr, hown, hgr, _⟩ := run_push (c := c) (ad := none) (cap := 0) (L := []) (M := M) (by simp; omega) hB hn0 hs'
    exact ⟨ad', cap', w', hr, hown, hgr⟩
/-- The numbers that are free are those of cells that were freed. -/
def Fre (H : Hd) : Prop := ∀ (m : Nat) (x : Int), H.fr[m]? = some x → ∃ n : Nat, x = (n : Int) ∧ H.cs[n]? = some none
/-- By which number a cell comes, and what the heap is then. -/
inductive Taken (H : Hd) (a : Nat) (C : Ce) : Nat → Hd → Prop
  | more (h : H.fr = []) : Taken H a C H.cs.length (H.more a C)
  | again {m n : Nat} (hm : H.fr.length = m + 1) (hn : H.fr[m]? = some (n : Int)) (hc : H.cs[n]? = some none) : Taken H a C n (H.again n a C)
theorem put_any {F : Nat → Option Nat} {B hb gc fc a : Nat} {ga fa : Option Addr} {w : World} {H : Hd} {C : Ce} (h : HdP F B hb ga gc fa fc w H) (hB : B ≤ w.heap.size) (hC : IsC F B a w C) (hna : ∀ (i : Nat) (C' : Ce), H.cs[i]? ≠ some (some (a, C'))) (hf : Fre H) (hlen : H.cs.length < 1900000) :
    Calls Try.prog 75 #[.pointer (some ⟨hb, 0, none⟩), .pointer (some ⟨a, 0, none⟩)] w fun x w' => ∃ n H' ga' gc', x = .returned (.int .i64 ((n : Nat) : Int)) ∧ Taken H a C n H' ∧ HdP F B hb ga' gc' fa fc w' H' ∧ FrP w w' ∧ Below B w w' := by
  by_cases h0 : H.fr = []
  · refine (put_more h hB hC hna h0 hlen).mono ?_
    rintro x w' ⟨ga', gc', rfl, h1, h2, h3⟩
    exact ⟨_, _, ga', gc', rfl, .more h0, h1, h2, h3⟩
  · obtain ⟨m, hm⟩ : ∃ m, H.fr.length = m + 1 := ⟨H.fr.length - 1, by have := List.length_pos_iff.2 h0; omega⟩
    obtain ⟨x, hx⟩ := get_some (show m < H.fr.length by omega)
    obtain ⟨n, rfl, hc⟩ := hf m x hx
    refine (put_again h hC hna hm hx (List.getElem?_eq_some_iff.1 hc).1).mono ?_
    rintro x w' ⟨rfl, h1, h2, h3⟩
    exact ⟨_, _, ga, gc, rfl, .again hm hx hc, h1, h2, h3⟩
def ceV (C : Ce) (va : Option Addr) (vc : Nat) (na : Option Addr) (nc : Nat) : Value := .agg #[.int .i64 C.k, .slice va C.vs.length vc, lpV C, tpV C, .slice na C.ns.length nc, .string C.s]
theorem src_move {ad : Option Addr} {w w' : World} {M : List Vl} (h : Li.Src ad w M) (hb : Below w.heap.size w w') : Li.Src ad w' M := by
  rcases h with h | ⟨a, e, h⟩
  · exact Or.inl h
  · exact Or.inr ⟨a, e, fun j u hj => by
      have h1 := h j u hj
      rw [← h1]
      exact World.cell?_of_block (hb.block _ (World.block_lt_of_cell? w _ h1))⟩
theorem srcN_move {ad : Option Addr} {w w' : World} {M : List Int} (h : SrcN ad w M) (hb : Below w.heap.size w w') : SrcN ad w' M := by
  rcases h with h | ⟨a, e, h⟩
  · exact Or.inl h
  · exact Or.inr ⟨a, e, fun j u hj => by
      have h1 := h j u hj
      rw [← h1]
      exact World.cell?_of_block (hb.block _ (World.block_lt_of_cell? w _ h1))⟩
theorem row_set {B e size n cap a o : Nat} {ad : Option Addr} {w : World} {xs : List Value} {cur : Array Value} {t : TypeId} {fr : Nat × Nat} {v : Value} (h : w.ownsRow B e size (.slice ad n cap) n xs) (ha : w.heap[a]? = some (.cells cur t fr)) (ht : t ≠ e) : (w.setCell ⟨a, o, none⟩ v).ownsRow B e size (.slice ad n cap) n xs :=
  row_move h fun g x => heap_setCell_other _ _ _ _ fun e' => by
    obtain ⟨_, cur', hc⟩ := Ta.row_block h g x
    rw [e', ha] at hc
    cases hc
    exact ht rfl
theorem row_none {B e size n : Nat} {v : Value} {w w' : World} {xs : List Value} (h : w.ownsRow B e size v n xs) (hg : w.grownBy w' none) : w'.ownsRow B e size v n xs := World.ownsRow.kept (row := none) h hg (Classical.em _)
theorem row_down {B B' e size n cap : Nat} {ad : Option Addr} {w : World} {xs : List Value} (h : w.ownsRow B e size (.slice ad n cap) n xs) (hB : B' ≤ B) : w.ownsRow B' e size (.slice ad n cap) n xs := by
  refine ⟨h.1, ?_⟩
  rcases h.2 with h1 | ⟨g, c, cur, hv, hb, rest⟩
  · exact Or.inl h1
  · exact Or.inr ⟨g, c, cur, hv, Nat.le_trans hB hb, rest⟩
/-- What was a heap's, and what came since: of a new cell. -/
def Up (F : Nat → Option Nat) (w w' : World) (a : Nat) (k : Nat) : Option Nat := if k < w.heap.size then F k else if k < w'.heap.size then some a else none
theorem isC_mono {F F' : Nat → Option Nat} {B a : Nat} {w : World} {C : Ce} (h : IsC F B a w C) (hF : ∀ k x, F k = some x → F' k = some x) : IsC F' B a w C := by
  obtain ⟨va, vc, na, nc, h⟩ := h
  exact ⟨va, vc, na, nc, h.blk, h.low, h.vs, h.ns, fun L e => by
    obtain ⟨ad, cap, h1, h2, h3⟩ := h.ls L e
    exact ⟨ad, cap, h1, hF _ _ h2, fun g x => hF _ _ (h3 g x)⟩, fun g x => hF _ _ (h.fv g x), fun g x => hF _ _ (h.fn g x), h.ts⟩
theorem hdP_mono {F F' : Nat → Option Nat} {B hb gc fc : Nat} {ga fa : Option Addr} {w : World} {H : Hd} (h : HdP F B hb ga gc fa fc w H) (hF : ∀ k x, F k = some x → F' k = some x) (hb' : ∀ k, F' k ≠ none → k < w.heap.size) : HdP F' B hb ga gc fa fc w H :=
  ⟨h.blk, h.low, h.row, h.fre, fun i a C e => isC_mono (h.all i a C e) hF, h.len, hb', h.dis⟩
theorem up_old {F : Nat → Option Nat} {w w' : World} {a : Nat} (hF : ∀ k, F k ≠ none → k < w.heap.size) : ∀ k x, F k = some x → Up F w w' a k = some x := fun k x h => by
  have := hF k (by rw [h]; simp)
  unfold Up; rw [if_pos this, h]
theorem up_new {F : Nat → Option Nat} {w w' : World} {a k : Nat} (h1 : w.heap.size ≤ k) (h2 : k < w'.heap.size) : Up F w w' a k = some a := by
  unfold Up; rw [if_neg (by omega), if_pos h2]
theorem up_bd {F : Nat → Option Nat} {w w' : World} {a : Nat} (hF : ∀ k, F k ≠ none → k < w.heap.size) (hs : w.heap.size ≤ w'.heap.size) : ∀ k, Up F w w' a k ≠ none → k < w'.heap.size := fun k h => by
  unfold Up at h
  split at h
  · omega
  · split at h
    · assumption
    · exact absurd rfl h
/-- A heap at a later world: what came since may be a new cell's. -/
theorem hdP_up {F : Nat → Option Nat} {B hb gc fc : Nat} {ga fa : Option Addr} {w w' : World} {H : Hd} (a : Nat) (h : HdP F B hb ga gc fa fc w H) (hz : Below w.heap.size w w') : HdP (Up F w w' a) B hb ga gc fa fc w' H :=
  hdP_mono (hdP_below h hz) (up_old h.bd) (up_bd h.bd hz.size)
theorem hna_of {F : Nat → Option Nat} {B hb gc fc a : Nat} {ga fa : Option Addr} {w : World} {H : Hd} (h : HdP F B hb ga gc fa fc w H) (ha : w.heap.size ≤ a) : ∀ (i : Nat) (C' : Ce), H.cs[i]? ≠ some (some (a, C')) := fun i C' e => by
  obtain ⟨va, vc, na, nc, hC⟩ := h.all i a C' e
  have := lt_of_block hC.blk
  omega
theorem lpV_cell (C : Ce) : (lpV C).oneCell' = true := by unfold lpV; split <;> rfl
set_option maxRecDepth 100000 in
set_option maxHeartbeats 4000000 in
theorem alloc_yes {F : Nat → Option Nat} {B hb gc fc vc nc : Nat} {ga fa va na : Option Addr} {w : World} {H : Hd} (C : Ce) (h : HdP F B hb ga gc fa fc w H) (hB : B ≤ w.heap.size) (hk : 1 ≤ C.k ∧ C.k < 11) (hs : Li.Src va w C.vs) (hn : SrcN na w C.ns) (hvl : C.vs.length ≤ 1000000) (hnl : C.ns.length ≤ 1000000)
    (hls : ∀ L, C.ls = some L → ∃ ad cap, IsL B C.lb ad cap w L ∧ F C.lb = some w.heap.size ∧ ∀ g, ad.map (·.block) = some g → F g = some w.heap.size) (hts : ∀ T, C.ts = some T → ∃ E last sz us, prs E = T ∧ IsTab B C.tb w E last sz us) (hlim : (H.cs.length : Int) - (H.fr.length : Int) < H.lim) (hf : Fre H) (hlen : H.cs.length < 1900000) :
    Calls Try.prog 43 #[.pointer (some ⟨hb, 0, none⟩), ceV C va vc na nc] w fun x w' => ∃ n H' ga' gc', x = .returned (.tuple #[.int .i64 ((n : Nat) : Int), .int .i64 0]) ∧ Taken H w.heap.size C n H' ∧ HdP (Up F w w' w.heap.size) B hb ga' gc' fa fc w' H' ∧ FrP w w' ∧ Below B w w' := by
  have hq := (Below.refl w.heap.size w).alloc (Nat.le_refl _) (celB C va vc na nc)
  have hk1 : ¬ C.k < 1 := by omega
  have hk2 : ¬ 11 ≤ C.k := by omega
  have hl : ¬ H.lim ≤ (H.cs.length : Int) - (H.fr.length : Int) := by omega
  have hn1 := heap_alloc_new w (celB C va vc na nc)
  have HH := Lib.hid h
  have HS := Lib.hid hs
  have HSN := Lib.hid hn
  have HLS := Lib.hid hls
  have HTS := Lib.hid hts
  have HF := Lib.hid hf
  have HB := Lib.hid hB
  have HVL := Lib.hid hvl
  have HNL := Lib.hid hnl
  have HLEN := Lib.hid hlen
  have b0 : (w.alloc (celB C va vc na nc)).cell? ⟨w.heap.size, 0, none⟩ = some (.int .i64 C.k) := by unfold celB at hn1 ⊢; rw [cell_of_row _ _ _ _ _ _ hn1]; rfl
  clear h hs hn hls hts hf hB hk hlim hvl hnl hlen
  unfold celB at b0
  unfold ceV
  go_enter Try.func43, Try.ntmps43
  go_wp2_with fail
  have HQ := Lib.hid hq
  have HN := Lib.hid hn1
  have HSZ : Hid (w.heap.size < (w.alloc (celB C va vc na nc)).heap.size) := lt_of_block hn1
  clear hq hn1 b0
  unfold celB at HQ HN HSZ
  generalize w.alloc (.cells #[.int .i64 C.k, .slice va C.vs.length vc, lpV C, tpV C, .slice na C.ns.length nc, .string C.s] 78) = w1 at *
  have HL1 : Hid (∀ p : BelowBy w1.heap.size w1, Calls Try.prog 44 #[.pointer (some ⟨hb, 0, none⟩)] p.x fun x w' => x = .returned (.int .i64 ((H.cs.length : Int) - (H.fr.length : Int))) ∧ Below p.x.heap.size p.x w') := fun p => live_any (hdP_below (hdP_below HH.out HQ.out) p.h)
  have q2 : ∀ p : BelowBy w1.heap.size w1, p.x.cell? ⟨hb, 2, none⟩ = some (.int .i64 H.lim) := fun p => (hd_cells (hdP_below (hdP_below HH.out HQ.out) p.h)).2.2.1
  generalize (H.cs.length : Int) - (H.fr.length : Int) = lv at *
  refine wp_region_quiet_below (by kernel_rfl) (by kernel_rfl) ?_
  repeat (quiet_step (first | (go_at_call 44; with_reducible refine Calls.below_of (HL1.out _))))
  refine wpQuiet_nil ?_
  intro _ hw'
  obtain ⟨pq, hw''⟩ := hw'
  subst hw''
  have HZ := Lib.hid (HQ.out.trans (pq.h.mono (Nat.le_of_lt HSZ.out)))
  have hn2 := (pq.h.block _ HSZ.out).trans HN.out
  have HSZ2 := Lib.hid (Nat.lt_of_lt_of_le HSZ.out pq.h.size)
  clear q2 HL1 HQ HN HSZ
  generalize pq.x = w2 at *
  clear pq
  have hB2 := Nat.le_trans HB.out HZ.out.size
  obtain ⟨va', vc', w3, hr3, hown3, hgr3⟩ := run_vals (B := w2.heap.size) (c := vc) (by have := HVL.out; omega) (Nat.le_refl _) (src_move HS.out HZ.out)
  have hn3 := (hgr3.block _ HSZ2.out (by simp)).trans hn2
  have hz3 : Below w.heap.size w w3 := HZ.out.grown hgr3 HZ.out.size (fun k e => by cases e)
  have hn4 : (w3.setCell ⟨w.heap.size, 1, none⟩ (.slice va' C.vs.length vc')).heap[w.heap.size]? = some (.cells #[.int .i64 C.k, .slice va' C.vs.length vc', lpV C, tpV C, .slice na C.ns.length nc, .string C.s] 78 (0, 0)) := by
    rw [heap_setCell_same _ _ _ _ _ _ hn3]; simp
  have hz4 : Below w.heap.size w (w3.setCell ⟨w.heap.size, 1, none⟩ (.slice va' C.vs.length vc')) := hz3.setCell (p := ⟨w.heap.size, 1, none⟩) (Nat.le_refl _) _
  have hown4 := row_set (v := .slice va' C.vs.length vc') (o := 1) hown3 hn3 (by decide)
  obtain ⟨na', nc', w5, hr5, hown5, hgr5⟩ := run_nums (B := w2.heap.size) (c := nc) (by have := HNL.out; omega) (by have := hgr3.size; simpa [World.setCell] using this) (srcN_move HSN.out hz4)
  have hn5 := (hgr5.block _ (lt_of_block hn4) (by simp)).trans hn4
  have hz5 : Below w.heap.size w w5 := hz4.grown hgr5 hz4.size (fun k e => by cases e)
  have hn6 : (w5.setCell ⟨w.heap.size, 4, none⟩ (.slice na' C.ns.length nc')).heap[w.heap.size]? = some (.cells #[.int .i64 C.k, .slice va' C.vs.length vc', lpV C, tpV C, .slice na' C.ns.length nc', .string C.s] 78 (0, 0)) := by
    rw [heap_setCell_same _ _ _ _ _ _ hn5]; simp
  have hz6 : Below w.heap.size w (w5.setCell ⟨w.heap.size, 4, none⟩ (.slice na' C.ns.length nc')) := hz5.setCell (p := ⟨w.heap.size, 4, none⟩) (Nat.le_refl _) _
  have hownV := row_set (v := .slice na' C.ns.length nc') (o := 4) (row_none hown4 hgr5) hn5 (by decide)
  have hownN := row_set (v := .slice na' C.ns.length nc') (o := 4) hown5 hn5 (by decide)
  have hs26 : w2.heap.size ≤ (w5.setCell ⟨w.heap.size, 4, none⟩ (.slice na' C.ns.length nc')).heap.size := by
    have h1 := hgr3.size
    have h2 := hgr5.size
    have e1 : (w3.setCell ⟨w.heap.size, 1, none⟩ (.slice va' C.vs.length vc')).heap.size = w3.heap.size := by simp [World.setCell]
    have e2 : (w5.setCell ⟨w.heap.size, 4, none⟩ (.slice na' C.ns.length nc')).heap.size = w5.heap.size := by simp [World.setCell]
    omega
  have HP := Lib.hid (put_any (hdP_up w.heap.size HH.out hz6) (Nat.le_trans HB.out hz6.size) (show IsC (Up F w _ w.heap.size) B w.heap.size _ C from ⟨va', vc', na', nc', hn6, HB.out, row_down hownV hB2, row_down hownN hB2, fun L e => by
    obtain ⟨ad, cap, h1, h2, h3⟩ := HLS.out L e
    exact ⟨ad, cap, isL_below h1 hz6, up_old HH.out.bd _ _ h2, fun g x => up_old HH.out.bd _ _ (h3 g x)⟩, fun g x => (by
      obtain ⟨hg1, cur, hg2⟩ := Ta.row_block hownV g x
      exact up_new (Nat.le_trans (Nat.le_of_lt HSZ2.out) hg1) (lt_of_block hg2)), fun g x => (by
      obtain ⟨hg1, cur, hg2⟩ := Ta.row_block hownN g x
      exact up_new (Nat.le_trans (Nat.le_of_lt HSZ2.out) hg1) (lt_of_block hg2)), fun T e => by
    obtain ⟨E, last, sz, us, h1, h2⟩ := HTS.out T e
    exact ⟨E, last, sz, us, h1, isTab_below h2 hz6⟩⟩) (hna_of HH.out (Nat.le_refl _)) HF.out HLEN.out)
  have b1 : w2.cell? ⟨w.heap.size, 1, none⟩ = some (.slice va C.vs.length vc) := by rw [cell_of_row _ _ _ _ _ _ hn2]; rfl
  have d1 : w3.cell? ⟨w.heap.size, 1, none⟩ = some (.slice va C.vs.length vc) := by rw [cell_of_row _ _ _ _ _ _ hn3]; rfl
  have y1 : w3.frozen? ⟨w.heap.size, 1, none⟩ = false := by simp [World.frozen?, hn3]
  have b4 : (w3.setCell ⟨w.heap.size, 1, none⟩ (.slice va' C.vs.length vc')).cell? ⟨w.heap.size, 4, none⟩ = some (.slice na C.ns.length nc) := by rw [cell_of_row _ _ _ _ _ _ hn4]; rfl
  have b4' : w3.cell? ⟨w.heap.size, 4, none⟩ = some (.slice na C.ns.length nc) := by rw [cell_of_row _ _ _ _ _ _ hn3]; rfl
  have d4 : w5.cell? ⟨w.heap.size, 4, none⟩ = some (.slice na C.ns.length nc) := by rw [cell_of_row _ _ _ _ _ _ hn5]; rfl
  have y4 : w5.frozen? ⟨w.heap.size, 4, none⟩ = false := by simp [World.frozen?, hn5]
  have HZ6 := Lib.hid hz6
  have hd : decide (H.lim ≤ lv) = false := decide_eq_false (by omega)
  clear hn2 hn3 hn4 hn5 hn6 hz3 hz4 hz5 hz6 hown3 hown4 hown5 hownV hownN hgr3 hgr5 hB2 hk1 hk2 hs26
  go_wp2_with (first
    | (at_builtin; refine Lib.wpList_append_run _ rfl _ _ _ _ rfl _ _ rfl rfl _ _ hr3 ?_)
    | (at_builtin; refine Lib.wpList_append_run _ rfl _ _ _ _ rfl _ _ rfl rfl _ _ hr5 ?_))
  refine HP.out.mono ?_
  rintro e w7 ⟨n, H', ga', gc', rfl, h1, h2, h3, h4⟩
  have h5 : FrP w w7 := frP_trans (frP_below HZ6.out) h3
  have h7 := hdP_mono h2 (F' := Up F w w7 w.heap.size) (fun k x e => by
    have hs7 := h3.size
    unfold Up at e ⊢
    split at e
    · rw [if_pos (by assumption)]; exact e
    · split at e
      · rw [if_neg (by assumption), if_pos (by omega)]; exact e
      · cases e) (up_bd HH.out.bd h5.size)
  have h6 : Below B w w7 := (HZ6.out.mono HB.out).trans h4
  go_wp2_with fail
  go_ret2
  exact ⟨n, H', ga', gc', rfl, h1, h7, h5, h6⟩

theorem blk_box {w : World} {r k o : Nat} {A : Obj} {v : Value} (h : w.heap[k]? = some A) (hk : k ≠ r) : (w.setCell ⟨r, o, none⟩ v).heap[k]? = some A := (heap_setCell_other _ _ _ _ hk).trans h
theorem ne_box {w : World} {r k : Nat} {cur cur' : Array Value} {t t' : TypeId} {fr fr' : Nat × Nat} (h : w.heap[k]? = some (.cells cur t fr)) (hr : w.heap[r]? = some (.cells cur' t' fr')) (ht : t ≠ t') : k ≠ r := fun e => by
  rw [e, hr] at h
  cases h
  exact ht rfl
theorem row_box {B e size n cap r o : Nat} {ad : Option Addr} {w : World} {xs : List Value} {v : Value} (h : w.ownsRow B e size (.slice ad n cap) n xs) (hr : ∀ g, ad.map (·.block) = some g → g ≠ r) : (w.setCell ⟨r, o, none⟩ v).ownsRow B e size (.slice ad n cap) n xs :=
  row_move h fun g x => heap_setCell_other _ _ _ _ (hr g x)
theorem row_box_t {B e size n cap r o : Nat} {ad : Option Addr} {w : World} {xs : List Value} {v : Value} {cur : Array Value} {t : TypeId} {fr : Nat × Nat} (h : w.ownsRow B e size (.slice ad n cap) n xs) (hr : w.heap[r]? = some (.cells cur t fr)) (ht : e ≠ t) : (w.setCell ⟨r, o, none⟩ v).ownsRow B e size (.slice ad n cap) n xs :=
  row_box h fun g x => by
    obtain ⟨_, cur', hc⟩ := Ta.row_block h g x
    exact ne_box hc hr ht
/-- A box of a value that is none of a heap's turns. -/
theorem hdP_box {F : Nat → Option Nat} {B hb gc fc r o : Nat} {ga fa : Option Addr} {w : World} {H : Hd} {v : Value} {cur : Array Value} {fr : Nat × Nat} (h : HdP F B hb ga gc fa fc w H) (hr : w.heap[r]? = some (.cells cur 30 fr)) (hF : F r = none) : HdP F B hb ga gc fa fc (w.setCell ⟨r, o, none⟩ v) H := by
  refine ⟨blk_box h.blk (ne_box h.blk hr (by decide)), h.low, row_box_t h.row hr (by decide), row_box_t h.fre hr (by decide), fun i a C e => ?_, h.len, fun k hk => by have := h.bd k hk; simpa [World.setCell] using this, h.dis⟩
  obtain ⟨va, vc, na, nc, hC⟩ := h.all i a C e
  refine ⟨va, vc, na, nc, blk_box hC.blk (ne_box hC.blk hr (by decide)), hC.low, row_box hC.vs (fun g x e => by have h1 := hC.fv g x; rw [e, hF] at h1; cases h1), row_box_t hC.ns hr (by decide), fun L e => ?_, hC.fv, hC.fn, fun T e => ?_⟩
  · obtain ⟨ad, cap, h1, h2, h3⟩ := hC.ls L e
    exact ⟨ad, cap, ⟨blk_box h1.blk (ne_box h1.blk hr (by decide)), h1.low, row_box h1.own (fun g x e => by have h4 := h3 g x; rw [e, hF] at h4; cases h4)⟩, h2, h3⟩
  · obtain ⟨E, last, sz, us, h1, h2⟩ := hC.ts T e
    obtain ⟨ar, cr, ap, cp, R, P, n, hT, e1, e2, e3⟩ := h2
    exact ⟨E, last, sz, us, h1, ar, cr, ap, cp, R, P, n, ⟨blk_box hT.blk (ne_box hT.blk hr (by decide)), hT.low, row_box_t hT.r hr (by decide), row_box_t hT.p hr (by decide), hT.g, hT.cnt, hT.ok, hT.bd⟩, e1, e2, e3⟩
theorem frP_new {w w' : World} {r o : Nat} {v : Value} (h : FrP w w') (hr : w.heap.size ≤ r) : FrP w (w'.setCell ⟨r, o, none⟩ v) :=
  ⟨h.os, h.tape, h.output, by simpa [World.setCell] using h.size, fun k A hA hn => blk_box (h.block k A hA hn) (by have := lt_of_block hA; omega)⟩
theorem frP_mono {w W w' : World} (h : FrP W w') (hb : Below w.heap.size w W) : FrP w w' := frP_trans (frP_below hb) h
theorem hdP_fp {F : Nat → Option Nat} {B hb gc fc : Nat} {ga fa : Option Addr} {w w' : World} {H : Hd} (h : HdP F B hb ga gc fa fc w H) (hb' : Below w.heap.size w w') : HdP F B hb ga gc fa fc w' H := hdP_below h hb'
theorem up_in {F : Nat → Option Nat} {w W w2 w' : World} {a : Nat} (hs : w.heap.size ≤ W.heap.size) (hF : ∀ k, F k ≠ none → k < w.heap.size) (hb : ∀ k, Up F W w2 a k ≠ none → k < w'.heap.size) : ∀ k x, Up F W w2 a k = some x → Up F w w' a k = some x := fun k x e => by
  have hk := hb k (by rw [e]; simp)
  unfold Up at e ⊢
  by_cases h1 : k < w.heap.size
  · rw [if_pos h1]
    rw [if_pos (by omega)] at e
    exact e
  · rw [if_neg h1, if_pos hk]
    split at e
    · exact absurd (hF k (by rw [e]; simp)) h1
    · split at e
      · exact e
      · cases e
set_option maxRecDepth 100000 in
set_option maxHeartbeats 4000000 in
theorem ref_yes {F : Nat → Option Nat} {B hb gc fc vc nc : Nat} {ga fa va na : Option Addr} {w : World} {H : Hd} (C : Ce) (h : HdP F B hb ga gc fa fc w H) (hB : B ≤ w.heap.size) (hk : 1 ≤ C.k ∧ C.k < 11) (hs : Li.Src va w C.vs) (hn : SrcN na w C.ns) (hvl : C.vs.length ≤ 1000000) (hnl : C.ns.length ≤ 1000000)
    (hls : ∀ L, C.ls = some L → ∃ ad cap, IsL B C.lb ad cap w L ∧ F C.lb = some (w.heap.size + 2) ∧ ∀ g, ad.map (·.block) = some g → F g = some (w.heap.size + 2)) (hts : ∀ T, C.ts = some T → ∃ E last sz us, prs E = T ∧ IsTab B C.tb w E last sz us) (hlim : (H.cs.length : Int) - (H.fr.length : Int) < H.lim) (hf : Fre H) (hlen : H.cs.length < 1900000) :
    Calls Try.prog 68 #[.pointer (some ⟨hb, 0, none⟩), ceV C va vc na nc] w fun x w' => ∃ n H' ga' gc', x = .returned (.tuple #[.agg #[.int .i64 4, .int .i64 ((n : Nat) : Int), .string ⟨#[]⟩], .int .i64 0]) ∧ Taken H (w.heap.size + 2) C n H' ∧ HdP (Up F w w' (w.heap.size + 2)) B hb ga' gc' fa fc w' H' ∧ FrP w w' ∧ Below B w w' := by
  have hq := (Below.refl w.heap.size w).alloc (Nat.le_refl _) (celB C va vc na nc)
  have hq2 := hq.alloc hq.size (.cells #[.int .i64 0, .int .i64 0, .string ⟨#[]⟩] 30)
  have hs2 : ((w.alloc (celB C va vc na nc)).alloc (.cells #[.int .i64 0, .int .i64 0, .string ⟨#[]⟩] 30)).heap.size = w.heap.size + 2 := by simp
  have HA := Lib.hid (alloc_yes (vc := vc) (nc := nc) C (hdP_below h hq2) (Nat.le_trans hB hq2.size) hk (src_move hs hq2) (srcN_move hn hq2) hvl hnl (fun L e => by
    obtain ⟨ad, cap, h1, h2, h3⟩ := hls L e
    rw [hs2]
    exact ⟨ad, cap, isL_below h1 hq2, h2, h3⟩) (fun T e => by
    obtain ⟨E, last, sz, us, h1, h2⟩ := hts T e
    exact ⟨E, last, sz, us, h1, isTab_below h2 hq2⟩) hlim hf hlen)
  rw [hs2] at HA
  have hn1 := heap_alloc_new w (celB C va vc na nc)
  have hn2 := (heap_alloc_old (w.alloc (celB C va vc na nc)) (.cells #[.int .i64 0, .int .i64 0, .string ⟨#[]⟩] 30) (lt_of_block hn1)).trans hn1
  have hr2 := heap_alloc_new (w.alloc (celB C va vc na nc)) (.cells #[.int .i64 0, .int .i64 0, .string ⟨#[]⟩] 30)
  rw [World.size_alloc] at hr2
  have HR := Lib.hid hr2
  have HQ := Lib.hid hq2
  have HB := Lib.hid hB
  have HBD := Lib.hid h.bd
  unfold celB at hn2 HA HR HQ
  have b0 : ((w.alloc (.cells #[.int .i64 C.k, .slice va C.vs.length vc, lpV C, tpV C, .slice na C.ns.length nc, .string C.s] 78 (0, 0))).alloc (.cells #[.int .i64 0, .int .i64 0, .string ⟨#[]⟩] 30)).cell? ⟨w.heap.size, 0, none⟩ = some (.int .i64 C.k) := by rw [cell_of_row _ _ _ _ _ _ hn2]; rfl
  have b1 : ((w.alloc (.cells #[.int .i64 C.k, .slice va C.vs.length vc, lpV C, tpV C, .slice na C.ns.length nc, .string C.s] 78 (0, 0))).alloc (.cells #[.int .i64 0, .int .i64 0, .string ⟨#[]⟩] 30)).cell? ⟨w.heap.size, 1, none⟩ = some (.slice va C.vs.length vc) := by rw [cell_of_row _ _ _ _ _ _ hn2]; rfl
  have b2 : ((w.alloc (.cells #[.int .i64 C.k, .slice va C.vs.length vc, lpV C, tpV C, .slice na C.ns.length nc, .string C.s] 78 (0, 0))).alloc (.cells #[.int .i64 0, .int .i64 0, .string ⟨#[]⟩] 30)).cell? ⟨w.heap.size, 2, none⟩ = some (lpV C) := by rw [cell_of_row _ _ _ _ _ _ hn2]; rfl
  have b3 : ((w.alloc (.cells #[.int .i64 C.k, .slice va C.vs.length vc, lpV C, tpV C, .slice na C.ns.length nc, .string C.s] 78 (0, 0))).alloc (.cells #[.int .i64 0, .int .i64 0, .string ⟨#[]⟩] 30)).cell? ⟨w.heap.size, 3, none⟩ = some (tpV C) := by rw [cell_of_row _ _ _ _ _ _ hn2]; rfl
  have b4 : ((w.alloc (.cells #[.int .i64 C.k, .slice va C.vs.length vc, lpV C, tpV C, .slice na C.ns.length nc, .string C.s] 78 (0, 0))).alloc (.cells #[.int .i64 0, .int .i64 0, .string ⟨#[]⟩] 30)).cell? ⟨w.heap.size, 4, none⟩ = some (.slice na C.ns.length nc) := by rw [cell_of_row _ _ _ _ _ _ hn2]; rfl
  have b5 : ((w.alloc (.cells #[.int .i64 C.k, .slice va C.vs.length vc, lpV C, tpV C, .slice na C.ns.length nc, .string C.s] 78 (0, 0))).alloc (.cells #[.int .i64 0, .int .i64 0, .string ⟨#[]⟩] 30)).cell? ⟨w.heap.size, 5, none⟩ = some (.string C.s) := by rw [cell_of_row _ _ _ _ _ _ hn2]; rfl
  clear h hB hk hs hn hvl hnl hls hts hlim hf hlen hn1 hn2 hr2 hq hq2
  unfold ceV at HA ⊢
  go_enter Try.func68, Try.ntmps68
  go_wp2_with fail
  refine HA.out.mono ?_
  rintro e w2 ⟨n, H', ga', gc', rfl, h1, h2, h3, h4⟩
  have HP2 := Lib.hid h2
  have HF2 := Lib.hid (frP_trans (frP_below HQ.out) h3)
  have HZ2 := Lib.hid ((HQ.out.mono HB.out).trans h4)
  have HT := Lib.hid h1
  have HR2 := Lib.hid (blk_fp ⟨by decide, by decide⟩ HR.out h3)
  clear h1 h2 h3 h4 b0 b1 b2 b3 b4 b5 HA HR
  go_wp2_with fail
  refine (ref_any _ _).mono ?_
  rintro e w3 ⟨rfl, hb3⟩
  have hr3 := (hb3.block _ (lt_of_block HR2.out)).trans HR2.out
  have HP3 := Lib.hid (hdP_below HP2.out hb3)
  have HF3 := Lib.hid (frP_trans HF2.out (frP_below hb3))
  have HZ3 := Lib.hid (HZ2.out.trans (hb3.mono (Nat.le_trans HB.out HF2.out.size)))
  obtain ⟨a0, a1, a2, az0, az1, az2⟩ := three_facts hr3
  clear hb3 HP2 HF2 HZ2 HR2
  have HR3 := Lib.hid hr3
  clear hr3
  go_wp2_with fail
  have h1 := HR3.out
  have h2 := heap_setCell_same w3 (w.heap.size + 1) 0 _ _ (.int .i64 4) h1
  have h3 := heap_setCell_same _ (w.heap.size + 1) 1 _ _ (.int .i64 (n : Int)) h2
  have h4 := heap_setCell_same _ (w.heap.size + 1) 2 _ _ (.string ⟨#[]⟩) h3
  refine bodyPost_ret (Va.results_cell_tmp rfl _ _ (w.heap.size + 1) 30 #[.int .i64 4, .int .i64 (n : Int), .string ⟨#[]⟩] (0, 0) _ rfl (by simpa using h4) Try.underlying30 rfl Va.A.infoV) rfl ?_
  have hnF : Up F ((w.alloc (.cells #[.int .i64 C.k, .slice va C.vs.length vc, lpV C, tpV C, .slice na C.ns.length nc, .string C.s] 78 (0, 0))).alloc (.cells #[.int .i64 0, .int .i64 0, .string ⟨#[]⟩] 30)) w2 (w.heap.size + 2) (w.heap.size + 1) = none := by
    unfold Up
    rw [if_pos (by simp)]
    cases hf : F (w.heap.size + 1) with
    | none => rfl
    | some y => have := HBD.out (w.heap.size + 1) (by rw [hf]; simp); omega
  have p1 := hdP_box (o := 0) (v := .int .i64 4) HP3.out h1 hnF
  have p2 := hdP_box (o := 1) (v := .int .i64 (n : Int)) p1 h2 hnF
  have p3 := hdP_box (o := 2) (v := .string ⟨#[]⟩) p2 h3 hnF
  have f3 := frP_new (o := 2) (v := .string ⟨#[]⟩) (frP_new (o := 1) (v := .int .i64 (n : Int)) (frP_new (o := 0) (v := .int .i64 4) HF3.out (Nat.le_succ _)) (Nat.le_succ _)) (Nat.le_succ _)
  have hr : B ≤ w.heap.size + 1 := Nat.le_trans HB.out (Nat.le_succ _)
  have z3 := ((HZ3.out.setCell (p := ⟨w.heap.size + 1, 0, none⟩) hr (.int .i64 4)).setCell (p := ⟨w.heap.size + 1, 1, none⟩) hr (.int .i64 (n : Int))).setCell (p := ⟨w.heap.size + 1, 2, none⟩) hr (.string ⟨#[]⟩)
  exact ⟨n, H', ga', gc', rfl, HT.out, hdP_mono p3 (up_in (by simp; omega) HBD.out (fun k x => p3.bd k x)) (up_bd HBD.out f3.size), f3, z3⟩
/-- Agreed: what a new cell is, where the limit isn't reached. -/
structure Room (H : Hd) : Prop where
  lim : (H.cs.length : Int) - (H.fr.length : Int) < H.lim
  fre : Fre H
  len : H.cs.length < 1900000
def arr (b : Nat) (M : List Vl) : Ce := ⟨1, [], b, some M, 0, none, [], ⟨#[]⟩⟩
def weak (n : Int) : Ce := ⟨9, [], 0, none, 0, none, [n], ⟨#[]⟩⟩
theorem up_two {F : Nat → Option Nat} {w W w1 w2 w' : World} {a : Nat} (hs : w.heap.size ≤ W.heap.size) (hs1 : W.heap.size ≤ w1.heap.size) (hF : ∀ k, F k ≠ none → k < w.heap.size) (hb : ∀ k, Up (Up F W w1 a) w1 w2 a k ≠ none → k < w'.heap.size) : ∀ k x, Up (Up F W w1 a) w1 w2 a k = some x → Up F w w' a k = some x := fun k x e => by
  have hk := hb k (by rw [e]; simp)
  by_cases h1 : k < w.heap.size
  · unfold Up at e ⊢
    rw [if_pos (by omega), if_pos (by omega)] at e
    rw [if_pos h1]; exact e
  · have e2 : x = a := by
      unfold Up at e
      split at e
      · split at e
        · exact absurd (hF k (by rw [e]; simp)) h1
        · cases e; rfl
      · split at e
        · cases e; rfl
        · cases e
    subst e2
    exact up_new (by omega) hk
theorem box_three {G : Nat → Option Nat} {B hb gc fc r : Nat} {ga fa : Option Addr} {w w3 : World} {H : Hd} {x0 x1 x2 : Value} (hP : HdP G B hb ga gc fa fc w3 H) (hr : w3.heap[r]? = some (.cells #[x0, x1, x2] 30 (0, 0))) (hG : G r = none) (hw : w.heap.size ≤ r) (hB : B ≤ w.heap.size) (hf : FrP w w3) (hz : Below B w w3) (v0 v1 v2 : Value) :
    (((w3.setCell ⟨r, 0, none⟩ v0).setCell ⟨r, 1, none⟩ v1).setCell ⟨r, 2, none⟩ v2).heap[r]? = some (.cells #[v0, v1, v2] 30 (0, 0)) ∧
    HdP G B hb ga gc fa fc (((w3.setCell ⟨r, 0, none⟩ v0).setCell ⟨r, 1, none⟩ v1).setCell ⟨r, 2, none⟩ v2) H ∧ FrP w (((w3.setCell ⟨r, 0, none⟩ v0).setCell ⟨r, 1, none⟩ v1).setCell ⟨r, 2, none⟩ v2) ∧ Below B w (((w3.setCell ⟨r, 0, none⟩ v0).setCell ⟨r, 1, none⟩ v1).setCell ⟨r, 2, none⟩ v2) := by
  have h2 := heap_setCell_same w3 r 0 _ _ v0 hr
  have h3 := heap_setCell_same _ r 1 _ _ v1 h2
  have h4 := heap_setCell_same _ r 2 _ _ v2 h3
  have p1 := hdP_box (o := 0) (v := v0) hP hr hG
  have p2 := hdP_box (o := 1) (v := v1) p1 h2 hG
  have p3 := hdP_box (o := 2) (v := v2) p2 h3 hG
  have hr' : B ≤ r := Nat.le_trans hB hw
  exact ⟨by simpa using h4, p3, frP_new (frP_new (frP_new hf hw) hw) hw, ((hz.setCell (p := ⟨r, 0, none⟩) hr' v0).setCell (p := ⟨r, 1, none⟩) hr' v1).setCell (p := ⟨r, 2, none⟩) hr' v2⟩
theorem newArray_any {F : Nat → Option Nat} {B hb gc fc c : Nat} {ga fa ad : Option Addr} {w : World} {H : Hd} (M : List Vl) (h : HdP F B hb ga gc fa fc w H) (hB : B ≤ w.heap.size) (hm : M.length ≤ 1000000) (hs : Li.Src ad w M) (hr : Room H) :
    Calls Try.prog 28 #[.pointer (some ⟨hb, 0, none⟩), .slice ad M.length c] w fun x w' => ∃ n a b H' ga' gc', x = .returned (.tuple #[.agg #[.int .i64 4, .int .i64 ((n : Nat) : Int), .string ⟨#[]⟩], .int .i64 0]) ∧ Taken H a (arr b M) n H' ∧ HdP (Up F w w' a) B hb ga' gc' fa fc w' H' ∧ FrP w w' ∧ Below B w w' := by
  have hq := (Below.refl w.heap.size w).alloc (Nat.le_refl _) (.cells #[.int .i64 0, .int .i64 0, .string ⟨#[]⟩] 30)
  have hn := heap_alloc_new w (.cells #[.int .i64 0, .int .i64 0, .string ⟨#[]⟩] 30)
  have HNW := Lib.hid (new_any (cap := c) (ad := ad) M _ (by omega) (src_move hs hq))
  have HH := Lib.hid h
  have HB := Lib.hid hB
  have HR := Lib.hid hr
  have HQ := Lib.hid hq
  have HN := Lib.hid hn
  clear h hB hr hs hm hq hn
  go_enter Try.func28, Try.ntmps28
  go_wp2_with fail
  refine HNW.out.mono ?_
  rintro e w2 ⟨b, ad', cap', rfl, hL, hb2⟩
  have hz2 := HQ.out.trans (hb2.mono HQ.out.size)
  have hP2 := hdP_up (w2.heap.size + 2) (hdP_below HH.out HQ.out) hb2
  have hn2 := (hb2.block _ (lt_of_block HN.out)).trans HN.out
  have hA := ref_yes (va := none) (vc := 0) (na := none) (nc := 0) (arr b M) hP2 (Nat.le_trans HB.out hz2.size) ⟨by simp [arr], by simp [arr]⟩ (Or.inl rfl) (Or.inl rfl) (by simp [arr]) (by simp [arr]) (fun L e => by
    unfold arr at e ⊢
    cases e
    exact ⟨ad', cap', isL_mono hL (Nat.le_trans HB.out HQ.out.size), up_new hL.low (lt_of_block hL.blk), fun g x => by
      obtain ⟨h1, cur, h2⟩ := Ta.row_block hL.own g x
      exact up_new h1 (lt_of_block h2)⟩) (fun T e => by unfold arr at e; cases e) HR.out.lim HR.out.fre HR.out.len
  have HA := Lib.hid hA
  have HZ2 := Lib.hid hz2
  have HN2 := Lib.hid hn2
  have HP2 := Lib.hid hP2
  have HS2 := Lib.hid hb2.size
  clear hA hL hb2 hz2 hP2 hn2 HNW HQ
  unfold ceV arr lpV tpV at HA
  go_wp2_with fail
  refine HA.out.mono ?_
  rintro e w3 ⟨n, H', ga', gc', rfl, h1, h2, h3, h4⟩
  have hn3 := blk_fp ⟨by decide, by decide⟩ HN2.out h3
  have HN3 := Lib.hid hn3
  obtain ⟨a0, a1, a2, az0, az1, az2⟩ := three_facts hn3
  have HT := Lib.hid h1
  have HS3 := Lib.hid h3.size
  have HX := Lib.hid (fun v0 v1 v2 => box_three (w := w) h2 hn3 (by
    unfold Up
    rw [if_pos (lt_of_block HN2.out), if_pos (by simp)]
    cases hf : F w.heap.size with
    | none => rfl
    | some y => have := HH.out.bd w.heap.size (by rw [hf]; simp); omega) (Nat.le_refl _) HB.out (frP_trans (frP_below HZ2.out) h3) ((HZ2.out.mono HB.out).trans h4) v0 v1 v2)
  clear h1 h2 h3 h4 hn3 HA HN2
  go_wp2_with fail
  obtain ⟨e1, e2, e3, e4⟩ := HX.out (.int .i64 4) (.int .i64 (n : Int)) (.string ⟨#[]⟩)
  refine bodyPost_ret (Va.results_cell_tmp rfl _ _ w.heap.size 30 #[.int .i64 4, .int .i64 (n : Int), .string ⟨#[]⟩] (0, 0) _ rfl e1 Try.underlying30 rfl Va.A.infoV) rfl ?_
  exact ⟨n, w2.heap.size + 2, b, H', ga', gc', rfl, HT.out, hdP_mono e2 (up_two (by simp) HS2.out HH.out.bd e2.bd) (up_bd HH.out.bd e3.size), e3, e4⟩

set_option maxRecDepth 100000 in
theorem aim_yes {F : Nat → Option Nat} {B hb gc fc i a : Nat} {ga fa : Option Addr} {w : World} {H : Hd} {C : Ce} (h : HdP F B hb ga gc fa fc w H) (hB : B ≤ w.heap.size) (hi : H.cs[i]? = some (some (a, C))) (hr : Room H) :
    Calls Try.prog 32 #[.pointer (some ⟨hb, 0, none⟩), .int .i64 (i : Int)] w fun x w' => ∃ n H' ga' gc', x = .returned (.tuple #[.int .i64 ((n : Nat) : Int), .int .i64 0]) ∧ Taken H (w.heap.size + 1) (weak (i : Int)) n H' ∧ HdP (Up F w w' (w.heap.size + 1)) B hb ga' gc' fa fc w' H' ∧ FrP w w' ∧ Below B w w' := by
  have HG := Lib.hid (get_yes h hi)
  have hq := (Below.refl w.heap.size w).alloc (Nat.le_refl _) (.cells #[.int .i64 (i : Int)] 2)
  have hn := heap_alloc_new w (.cells #[.int .i64 (i : Int)] 2)
  have hA := alloc_yes (va := none) (vc := 0) (na := some ⟨w.heap.size, 0, none⟩) (nc := 1) (weak (i : Int)) (hdP_below h hq) (Nat.le_trans hB hq.size) ⟨by simp [weak], by simp [weak]⟩ (Or.inl rfl) (Or.inr ⟨_, rfl, fun j u hj => by
    match j, hj with
    | 0, hj =>
      simp [weak, ints] at hj
      subst hj
      rw [Go.WideShapes.add_plain]
      exact cell_of_one hn⟩) (by simp [weak]) (by simp [weak]) (fun L e => by unfold weak at e; cases e) (fun T e => by unfold weak at e; cases e) hr.lim hr.fre hr.len
  rw [World.size_alloc] at hA
  have HA := Lib.hid hA
  have HQ := Lib.hid hq
  have HB := Lib.hid hB
  have HBD := Lib.hid h.bd
  clear hA h hB hi hr hq hn
  unfold ceV weak lpV tpV at HA
  go_enter Try.func32, Try.ntmps32
  go_wp2_with fail
  refine HG.out.mono ?_
  rintro e w1 ⟨rfl, rfl⟩
  go_wp2_with fail
  refine HA.out.mono ?_
  rintro e w3 ⟨n, H', ga', gc', rfl, h1, h2, h3, h4⟩
  have HT := Lib.hid h1
  have HF3 := Lib.hid (frP_trans (frP_below HQ.out) h3)
  have HZ3 := Lib.hid ((HQ.out.mono HB.out).trans h4)
  have HP3 := Lib.hid (hdP_mono h2 (up_in HQ.out.size HBD.out h2.bd) (up_bd HBD.out HF3.out.size))
  clear h1 h2 h3 h4 HA HG
  go_wp2_with fail
  go_ret2
  exact ⟨n, H', ga', gc', rfl, HT.out, HP3.out, HF3.out, HZ3.out⟩
/-- The cells among values. -/
def cl (L : List Vl) : List Int := L.flatMap cel1
theorem cl_nil : cl [] = [] := rfl
theorem cl_app (L M : List Vl) : cl (L ++ M) = cl L ++ cl M := by unfold cl; exact List.flatMap_append ..
theorem cl_len : ∀ L : List Vl, (cl L).length ≤ L.length
  | [] => Nat.le_refl _
  | x :: L => by
    have h1 := cl_len L
    have h2 := cel1_len x
    have e : cl (x :: L) = cel1 x ++ cl L := rfl
    rw [e, List.length_append, List.length_cons]; omega
theorem refs_cl (L : List Vl) : ∀ n, n ≤ L.length → refs (kd L) (nm L) n = cl (L.take n)
  | 0, _ => rfl
  | n + 1, h => by
    have ih := refs_cl L n (by omega)
    have e : L.take (n + 1) = L.take n ++ [L[n]] := by rw [List.take_succ_eq_append_getElem (by omega)]
    rw [e, cl_app, ← ih]
    show _ ++ _ = _
    unfold kd nm
    rw [getD_at L n (by omega)]
    congr 1
    unfold cl cel1
    simp
theorem vcells_any {B cap : Nat} {ad : Option Addr} (L : List Vl) (hl : L.length ≤ 1000000) (w : World) (h : Li.Own B ad cap w L) :
    Calls Try.prog 47 #[.slice ad L.length cap] w fun e w' => ∃ ad' cap', e = .returned (.slice ad' (cl L).length cap') ∧ OwnI w.heap.size ad' cap' w' (cl L) ∧ Below w.heap.size w w' := by
  by_cases h0 : L = []
  · subst h0
    refine (cells_zero ad cap w).mono ?_
    rintro e w' ⟨rfl, hb⟩
    exact ⟨none, 0, rfl, World.ownsRow_nil _ _ _ _, hb⟩
  · obtain ⟨g, rfl, _, hg⟩ := own_some h (List.length_pos_iff.2 h0)
    have hv : Vals w g 0 L.length (kd L) (nm L) (tx L) := fun i hi => by
      obtain ⟨e0, e1, e2⟩ := own_at h i hi
      unfold kd nm tx
      rw [getD_at L i hi, Nat.zero_add]
      exact ⟨e0, e1, e2⟩
    refine (cells_any g 0 L.length cap (kd L) (nm L) (tx L) w hg (by omega) hv).mono ?_
    rintro e w' ⟨v', n, rfl, rfl, ho, hb⟩
    have hr : refs (kd L) (nm L) L.length = cl L := by rw [refs_cl L _ (Nat.le_refl _), List.take_length]
    rw [hr] at ho
    obtain ⟨ad', cap', e1⟩ := shapeI ho
    rw [e1] at ho ⊢
    exact ⟨ad', cap', rfl, ho, hb⟩
set_option maxRecDepth 100000 in
theorem lcellsI_any {B b cap : Nat} {ad : Option Addr} (L : List Vl) (hl : L.length ≤ 1000000) (w : World) (h : IsL B b ad cap w L) :
    Calls Try.prog 77 #[.pointer (some ⟨b, 0, none⟩)] w fun e w' => ∃ ad' cap', e = .returned (.slice ad' (cl L).length cap') ∧ OwnI w.heap.size ad' cap' w' (cl L) ∧ Below w.heap.size w w' := by
  obtain ⟨c0, z0⟩ := isL_cell h
  have HC := Lib.hid (vcells_any L hl w h.own)
  clear h
  go_enter Try.func77, Try.ntmps77
  go_wp2_with fail
  refine HC.out.mono ?_
  rintro e w1 ⟨ad', cap', rfl, ho, hb⟩
  have HO := Lib.hid ho
  clear ho
  go_wp2_with fail
  go_ret
  exact ⟨ad', cap', rfl, HO.out, hb⟩
def lsC (C : Ce) : List Int := match C.ls with | none => [] | some L => cl L
def tsC (C : Ce) : List Int := match C.ts with | none => [] | some T => celK T ++ Ta.celV T
/-- The cells that a cell keeps. -/
def strong (C : Ce) : List Int := cl C.vs ++ lsC C ++ tsC C
set_option maxRecDepth 100000 in
set_option maxHeartbeats 2000000 in
theorem strong_any {F : Nat → Option Nat} {B a vc nc : Nat} {va na : Option Addr} {w : World} {C : Ce} (h : CeP F B a va vc na nc w C) (ht : C.ts = none) (hv : C.vs.length ≤ 1000000) (hl : ∀ L, C.ls = some L → L.length ≤ 1000000) :
    Calls Try.prog 46 #[.pointer (some ⟨a, 0, none⟩)] w fun x w' => ∃ ad cap, x = .returned (.slice ad (strong C).length cap) ∧ OwnI w.heap.size ad cap w' (strong C) ∧ Below w.heap.size w w' := by
  have hts : tsC C = [] := by unfold tsC; rw [ht]
  have HTP : Hid (tpV C = .pointer none) := by show _ = _; unfold tpV; rw [ht]
  obtain ⟨c0, c1, c2, c3, c4, c5⟩ := ce_cells h
  have HC := Lib.hid (vcells_any C.vs hv w h.vs)
  have HP := Lib.hid h
  clear c0 c2 c3 c4 c5
  rcases hls : C.ls with _ | L
  · have HLP : Hid (lpV C = .pointer none) := by show _ = _; unfold lpV; rw [hls]
    have HS : Hid (strong C = cl C.vs) := by
      show _ = _
      unfold strong lsC
      rw [hls, hts, List.append_nil, List.append_nil]
    clear h hv hl hts hls ht
    go_enter Try.func46, Try.ntmps46
    go_wp2_with fail
    refine HC.out.mono ?_
    rintro e w1 ⟨ad, cap, rfl, ho, hb⟩
    obtain ⟨_, _, c2, c3, _, _⟩ := ce_cells (ceP_below HP.out hb)
    rw [HLP.out] at c2
    rw [HTP.out] at c3
    have HO := Lib.hid ho
    have HB := Lib.hid hb
    clear ho hb c1
    go_wp2_with fail
    go_ret
    rw [HS.out]
    exact ⟨ad, cap, rfl, HO.out, HB.out⟩
  · have HLP : Hid (lpV C = .pointer (some ⟨C.lb, 0, none⟩)) := by show _ = _; unfold lpV; rw [hls]
    have HS : Hid (strong C = cl C.vs ++ cl L) := by
      show _ = _
      unfold strong lsC
      rw [hls, hts, List.append_nil]
    have HL := Lib.hid (h.ls L hls)
    have HLL := Lib.hid (hl L hls)
    have HVV := Lib.hid hv
    have HLC := Lib.hid (Nat.le_trans (cl_len C.vs) hv)
    clear h hv hl hts hls ht
    go_enter Try.func46, Try.ntmps46
    go_wp2_with fail
    refine HC.out.mono ?_
    rintro e w1 ⟨ad, cap, rfl, ho, hb⟩
    have hP1 := ceP_below HP.out hb
    obtain ⟨_, _, c2, c3, _, _⟩ := ce_cells hP1
    rw [HLP.out] at c2
    obtain ⟨al, cpl, hL, _⟩ := HL.out
    have HC2 := Lib.hid (lcellsI_any L HLL.out w1 (isL_below hL hb))
    have HO := Lib.hid ho
    have HB := Lib.hid hb
    have HP1 := Lib.hid hP1
    clear ho hb c1 c3 hP1 hL HC HL
    go_wp2_with fail
    refine HC2.out.mono ?_
    rintro e w2 ⟨ad2, cap2, rfl, ho2, hb2⟩
    obtain ⟨ad3, cap3, w3, hr, ho3, hg3⟩ := run_ints (c := cap2) (by have := HLC.out; have := cl_len L; have := HLL.out; omega) (Nat.le_trans HB.out.size hb2.size) (show OwnI w.heap.size ad cap w2 (cl C.vs) from Ta.row_below HO.out hb2) ho2
    have hb3 : Below w.heap.size w w3 := (HB.out.trans (hb2.mono HB.out.size)).grown hg3 (Nat.le_trans HB.out.size hb2.size) (fun k e => (Ta.row_block HO.out k e).1)
    have hP2 := ceP_below HP1.out hb2
    have hk := hP2.blk
    have hne : ad.map (·.block) ≠ some a := fun e => by
      obtain ⟨_, cur, hc⟩ := Ta.row_block (Ta.row_below HO.out hb2) a e
      rw [hk] at hc
      unfold celB at hc
      simp at hc
    have hk3 := (hg3.block a (lt_of_block hk) (fun e => hne e.symm)).trans hk
    unfold celB at hk3
    have c3 : w3.cell? ⟨a, 3, none⟩ = some (tpV C) := by rw [cell_of_row _ _ _ _ _ _ hk3]; rfl
    rw [HTP.out] at c3
    have HO3 := Lib.hid ho3
    have HB3 := Lib.hid hb3
    clear ho2 hb2 ho3 hb3 hg3 hP2 hk hne hk3 HC2 c2
    go_wp2_with (at_builtin; refine Lib.wpList_append_run _ rfl _ _ _ _ rfl _ _ rfl rfl _ _ hr ?_)
    go_ret
    rw [HS.out]
    refine ⟨ad3, cap3, ?_, HO3.out, HB3.out⟩
    rw [List.length_append]
    rfl
end Go.Proofs.Ytipdjjgpcmbpdaa.Hp
