/- A list, and the model's own slice beside it. -/
import Derived.Test.YtfngndbpgegnaaaList18
namespace Go.Proofs.Ytfngndbpgegnaaa.Li
open Go.RowKit Go.ChangeShapes Go.WideShapes Go.ChangeAt Go.Proofs.Ytfngndbpgegnaaa.Va

/-- A list has the values M, a slice beside it the values N; they share nothing. -/
structure Two (B b : Nat) (adl : Option Addr) (capl : Nat) (adw : Option Addr) (capw : Nat) (w : World) (M N : List (Int × Int × ByteArray)) : Prop where
  l : IsL B b adl capl w M
  s : Own B adw capw w N
  ap : ∀ g, adw.map (·.block) = some g → adl.map (·.block) ≠ some g
theorem two_below {B b capl capw : Nat} {adl adw : Option Addr} {w w' : World} {M N : List (Int × Int × ByteArray)} (h : Two B b adl capl adw capw w M N) (hb : Below w.heap.size w w') : Two B b adl capl adw capw w' M N := ⟨isL_below h.l hb, own_below h.s hb, h.ap⟩
theorem two_list {B b capl capw : Nat} {adl adl' adw : Option Addr} {capl' : Nat} {w w' : World} {M M' N : List (Int × Int × ByteArray)} (h : Two B b adl capl adw capw w M N) (hL : IsL B b adl' capl' w' M') (hU : Upd b adl w w')
    (hf : ∀ g, adl'.map (·.block) = some g → adl.map (·.block) = some g ∨ w.heap.size ≤ g) : Two B b adl' capl' adw capw w' M' N := by
  refine ⟨hL, own_move h.s fun g e => ?_, fun g e e2 => ?_⟩
  · obtain ⟨cur, hc⟩ := own_block h.s g e
    refine hU.block g (lt_of_block hc) ?_ (h.ap g e)
    rintro rfl
    exact own_apart h.s h.l.blk e
  · rcases hf g e2 with h2 | h2
    · exact h.ap g e h2
    · obtain ⟨cur, hc⟩ := own_block h.s g e
      have := lt_of_block hc
      omega
theorem two_same {B b capl capw : Nat} {adl adw : Option Addr} {w w' : World} {M M' N : List (Int × Int × ByteArray)} (h : Two B b adl capl adw capw w M N) (hS : Same B b adl capl w w' M') : Two B b adl capl adw capw w' M' N :=
  two_list h hS.1 hS.2 fun _ e => Or.inl e
theorem two_now {B b capl capw : Nat} {adl adw : Option Addr} {w w' : World} {M M' N : List (Int × Int × ByteArray)} (h : Two B b adl capl adw capw w M N) (hN : Now B b adl w w' M') : ∃ adl' capl', Two B b adl' capl' adw capw w' M' N := by
  obtain ⟨adl', capl', hL, hU, hf⟩ := hN
  exact ⟨adl', capl', two_list h hL hU hf⟩
theorem isL_grown {B b cap : Nat} {ad : Option Addr} {w w' : World} {L : List (Int × Int × ByteArray)} {og : Option Nat} (h : IsL B b ad cap w L) (hg : w.grownBy w' og) (h1 : og ≠ some b) (h2 : ∀ g, ad.map (·.block) = some g → og ≠ some g) : IsL B b ad cap w' L :=
  ⟨(hg.block b (lt_of_block h.blk) (fun e => h1 e.symm)).trans h.blk, h.low, own_move h.own fun g e => by
    obtain ⟨cur, hc⟩ := own_block h.own g e
    exact hg.block g (lt_of_block hc) (fun x => h2 g e x.symm)⟩
theorem list_row {B b cap : Nat} {ad : Option Addr} {w : World} {L : List (Int × Int × ByteArray)} (h : IsL B b ad cap w L) : ∀ g, ad.map (·.block) = some g → g < w.heap.size := fun g e => by
  obtain ⟨_, hc⟩ := own_block h.own g e; exact lt_of_block hc
/-- The slice has grown, in its old row or in a new one. -/
theorem two_grown {B b capl capw : Nat} {adl adw adw' : Option Addr} {capw' : Nat} {w w' : World} {M N N' : List (Int × Int × ByteArray)} (h : Two B b adl capl adw capw w M N) (hO : Own B adw' capw' w' N') (hg : w.grownBy w' (adw.map (·.block)))
    (hf : ∀ g, adw'.map (·.block) = some g → adw.map (·.block) = some g ∨ w.heap.size ≤ g) : Two B b adl capl adw' capw' w' M N' := by
  refine ⟨isL_grown h.l hg (fun e => own_apart h.s h.l.blk e) (fun g e e2 => h.ap g e2 e), hO, fun g e e2 => ?_⟩
  rcases hf g e with h2 | h2
  · exact h.ap g h2 e2
  · have := list_row h.l g e2; omega
/-- The slice is a new one. -/
theorem two_new {B b capl capw k : Nat} {adl adw adw' : Option Addr} {capw' : Nat} {w w' : World} {M N N' : List (Int × Int × ByteArray)} (h : Two B b adl capl adw capw w M N) (hb : Below w.heap.size w w') (hk : w.heap.size ≤ k) (hB : B ≤ k) (hO : Own k adw' capw' w' N') : Two B b adl capl adw' capw' w' M N' := by
  refine ⟨isL_below h.l hb, ?_, fun g e e2 => ?_⟩
  · refine ⟨hO.1, hO.2.imp id ?_⟩
    rintro ⟨g, c, cur, hv, hb', rest⟩
    exact ⟨g, c, cur, hv, by omega, rest⟩
  · have h1 := own_low hO g e
    have h2 := list_row h.l g e2
    omega
theorem two_nil {B b capl capw : Nat} {adl adw : Option Addr} {w : World} {M N : List (Int × Int × ByteArray)} (h : Two B b adl capl adw capw w M N) : Two B b adl capl none 0 w M [] :=
  ⟨h.l, World.ownsRow_nil w B 30 3, fun g e => by cases e⟩
theorem own_take {B cap : Nat} {ad : Option Addr} {w : World} {L : List (Int × Int × ByteArray)} (h : Own B ad cap w L) (n : Nat) (hn : n ≤ L.length) : Own B ad cap w (L.take n) := by
  have hlen : (L.take n).length = n := by rw [List.length_take]; omega
  refine ⟨flat_len _, ?_⟩
  rcases h.2 with ⟨hv, e⟩ | ⟨g, c, cur, hv, hb, hg, hc, hcm, hcs, ht⟩
  · left
    simp only [Value.slice.injEq] at hv
    refine ⟨?_, by omega⟩
    rw [hv.1, hv.2.2, show (L.take n).length = 0 by omega]
  · right
    simp only [Value.slice.injEq] at hv
    obtain ⟨rfl, _, rfl⟩ := hv
    refine ⟨g, cap, cur, rfl, hb, hg, by omega, hcm, hcs, ?_⟩
    rw [hlen, ← take_flat L n hn, ← ht, List.take_take]; congr 1; omega
theorem two_take {B b capl capw : Nat} {adl adw : Option Addr} {w : World} {M N : List (Int × Int × ByteArray)} (h : Two B b adl capl adw capw w M N) (n : Nat) (hn : n ≤ N.length) : Two B b adl capl adw capw w M (N.take n) :=
  ⟨h.l, own_take h.s n hn, h.ap⟩
theorem two_set {B b capl capw g : Nat} {adl : Option Addr} {w : World} {M N : List (Int × Int × ByteArray)} (h : Two B b adl capl (some ⟨g, 0, none⟩) capw w M N) (i : Nat) (e : Int × Int × ByteArray) :
    Two B b adl capl (some ⟨g, 0, none⟩) capw (((w.setCell ⟨g, i * 3, none⟩ (.int .i64 e.1)).setCell ⟨g, i * 3 + 1, none⟩ (.int .i64 e.2.1)).setCell ⟨g, i * 3 + 2, none⟩ (.string e.2.2)) M (N.set i e) :=
  ⟨isL_grown h.l (grown_set (grown_set (grown_set (⟨rfl, rfl, rfl, Nat.le_refl _, fun _ _ _ => rfl⟩ : w.grownBy w (some g)) _ _) _ _) _ _) (fun e => own_apart h.s h.l.blk e) (fun g' e e2 => h.ap g' e2 e), own_set h.s i e, h.ap⟩
theorem two_drew {B b capl capw : Nat} {adl adw : Option Addr} {w : World} {M N : List (Int × Int × ByteArray)} (h : Two B b adl capl adw capw w M N) : Two B b adl capl adw capw w.drew M N := two_below h (Below.refl _ _).drew
theorem two_low {B b capl capw : Nat} {adl adw : Option Addr} {w0 w w' : World} {M N : List (Int × Int × ByteArray)} (hz : Below B w0 w) (hs : w0.heap.size ≤ w.heap.size) (hB : B ≤ w0.heap.size) (h : Two B b adl capl adw capw w M N) (hn : Upd b adl w w') : Below B w0 w' := upd_below hz hn h.l.low (own_low h.l.own) hs hB
theorem grown_low {B capw : Nat} {adw : Option Addr} {w0 w w' : World} {N : List (Int × Int × ByteArray)} (hz : Below B w0 w) (hB : B ≤ w.heap.size) (h : Own B adw capw w N) (hg : w.grownBy w' (adw.map (·.block))) : Below B w0 w' := hz.grown hg hB (fun k hk => own_low h k hk)
theorem two_off {B b capl capw N0 : Nat} {adl adw : Option Addr} {w : World} {M N : List (Int × Int × ByteArray)} (h : Two B b adl capl adw capw w M N) (hb : b < N0) (h1 : ∀ g, adl.map (·.block) = some g → g < N0) (h2 : ∀ g, adw.map (·.block) = some g → g < N0) {p : Addr} (hp : N0 ≤ p.block) (v : Value) : Two B b adl capl adw capw (w.setCell p v) M N := by
  have hk : ∀ k, k < N0 → (w.setCell p v).heap[k]? = w.heap[k]? := fun k hk => by
    simp only [World.setCell, Array.getElem?_modify]
    rw [if_neg (by omega)]
  exact ⟨⟨(hk b hb).trans h.l.blk, h.l.low, own_move h.l.own fun g e => hk g (h1 g e)⟩, own_move h.s fun g e => hk g (h2 g e), h.ap⟩
theorem own_row {B cap : Nat} {ad : Option Addr} {w : World} {L : List (Int × Int × ByteArray)} (h : Own B ad cap w L) : ∀ g, ad.map (·.block) = some g → g < w.heap.size := fun g e => by
  obtain ⟨_, hc⟩ := own_block h g e; exact lt_of_block hc
/-- What the law's loop knows. -/
def Rel (B b n : Nat) (w0 : World) (s4 s29 : Value) (w' : World) : Prop :=
  ∃ (k : Nat) (M : List (Int × Int × ByteArray)) (adl adw : Option Addr) (capl capw : Nat), k ≤ n ∧ s4 = .slice adw M.length capw ∧ s29 = .int .i64 (k : Int) ∧ Hid (Two B b adl capl adw capw w' M M) ∧ Hid (M.length ≤ 300 + 2 * k) ∧ Hid (Below w0.heap.size w0 w')
/-- What a block that is no list's holds stays when a list turns. -/
theorem upd_blk {b g : Nat} {ad : Option Addr} {w w' : World} {A : Obj} (h : w.heap[g]? = some A) (hU : Upd b ad w w') (h1 : g ≠ b) (h2 : ad.map (·.block) ≠ some g) : w'.heap[g]? = some A := (hU.block g (lt_of_block h) h1 h2).trans h
theorem grown_blk {g : Nat} {og : Option Nat} {w w' : World} {A : Obj} (h : w.heap[g]? = some A) (hU : w.grownBy w' og) (h1 : og ≠ some g) : w'.heap[g]? = some A := (hU.block g (lt_of_block h) (fun e => h1 e.symm)).trans h
theorem five_facts {w : World} {g : Nat} {x0 x1 x2 x3 x4 : Value} {t : TypeId} (h : w.heap[g]? = some (.cells #[x0, x1, x2, x3, x4] t)) :
    w.cell? ⟨g, 0, none⟩ = some x0 ∧ w.cell? ⟨g, 1, none⟩ = some x1 ∧ w.cell? ⟨g, 2, none⟩ = some x2 ∧ w.cell? ⟨g, 3, none⟩ = some x3 ∧ w.cell? ⟨g, 4, none⟩ = some x4 := by
  refine ⟨?_, ?_, ?_, ?_, ?_⟩
  · rw [cell_of_row _ _ _ _ _ _ h]; rfl
  · rw [cell_of_row _ _ _ _ _ _ h]; rfl
  · rw [cell_of_row _ _ _ _ _ _ h]; rfl
  · rw [cell_of_row _ _ _ _ _ _ h]; rfl
  · rw [cell_of_row _ _ _ _ _ _ h]; rfl
/-- 'append(x, y...)', y from anywhere. -/
theorem run_app {B cap c : Nat} {ad a : Option Addr} {w : World} {L M : List (Int × Int × ByteArray)} (hm : L.length + M.length ≤ 4000000) (hB : B ≤ w.heap.size) (h : Own B ad cap w L) (hs : Src a w M) (hc : a = none → c = 0) :
    ∃ ad' cap' w', (Builtin.append_ #[25, 25] 25 #[.slice ad L.length cap, .slice a M.length c]).run Try.prog w = .ok (.slice ad' (L ++ M).length cap') w' ∧ Own B ad' cap' w' (L ++ M) ∧ w.grownBy w' (ad.map (·.block)) ∧
      ∀ g, ad'.map (·.block) = some g → ad.map (·.block) = some g ∨ w.heap.size ≤ g := by
  cases a with
  | some a =>
    refine run_push hm hB h ?_
    rcases hs with rfl | ⟨a', e, hs⟩
    · intro j u hj; simp [flat] at hj
    · cases e; exact hs
  | none =>
    obtain rfl : M = [] := by rcases hs with h | ⟨_, e, _⟩; exact h; cases e
    obtain rfl := hc rfl
    obtain ⟨i0, hi, hz0, hz1, hz2⟩ := info_parts A.infoE
    rw [List.append_nil]
    exact ⟨ad, cap, w, run_append_owned_none w B 25 25 30 i0 3 Try.underlying25 hi _ _ _ h, h, ⟨rfl, rfl, rfl, Nat.le_refl _, fun _ _ _ => rfl⟩, fun _ e => Or.inl e⟩
/-- Values at an address whose block is older than a bound. -/
def SrcB (N0 : Nat) (a : Option Addr) (w : World) (M : List (Int × Int × ByteArray)) : Prop := Src a w M ∧ ∀ g, a.map (·.block) = some g → g < N0
theorem srcB_keep {N0 : Nat} {a : Option Addr} {w w' : World} {M : List (Int × Int × ByteArray)} (h : SrcB N0 a w M) (hk : ∀ k, k < N0 → w'.heap[k]? = w.heap[k]?) : SrcB N0 a w' M := by
  refine ⟨?_, h.2⟩
  rcases h.1 with h1 | ⟨a0, rfl, h1⟩
  · exact Or.inl h1
  · refine Or.inr ⟨a0, rfl, fun j u hj => ?_⟩
    rw [← h1 j u hj]
    have hb : (a0.add j).block = a0.block := by unfold Addr.add; split <;> rfl
    exact World.cell?_of_block (hk _ (h.2 _ (by rw [hb]; rfl)))
theorem own_srcB {B cap f n : Nat} {g : Nat} {w : World} {L : List (Int × Int × ByteArray)} (h : Own B (some ⟨g, 0, none⟩) cap w L) (hf : f + n ≤ L.length) (o : Nat) (ho : o = f * 3 ∨ n = 0) : SrcB w.heap.size (some ⟨g, o, none⟩) w ((L.drop f).take n) := by
  refine ⟨?_, fun g' e => own_row h g' (by simpa using e)⟩
  by_cases h0 : n = 0
  · left; rw [h0, List.take_zero]
  · rcases ho with rfl | e
    · have h1 : Src (some ((⟨g, 0, none⟩ : Addr).add (f * 3))) w ((L.drop f).take n) := slice_src h hf
      rw [Go.WideShapes.add_plain, Nat.zero_add] at h1
      exact h1
    · exact absurd e h0
theorem own_empty (W : World) (B : Nat) (hB : B ≤ W.heap.size) : Own B (some ⟨W.heap.size, 0, none⟩) 0 (W.alloc (.cells #[] 30)) [] := World.ownsRow_lit W #[] 0 hB (Nat.zero_le _) rfl
theorem grown_below {w w' : World} {N0 k : Nat} (h : w.grownBy w' (some k)) (hk : N0 ≤ k) (hs : N0 ≤ w.heap.size) : Below N0 w w' := (Below.refl _ _).grown h hs (fun j e => by cases e; exact hk)
/-- What stands when the slice without one is made. -/
theorem chain_rem {B b capl capw gw n i o : Nat} {adl : Option Addr} {W : World} {M N : List (Int × Int × ByteArray)} (hT : Two B b adl capl (some ⟨gw, 0, none⟩) capw W M N) (hn : N.length = n + 1) (hi : i ≤ n) (hb : n ≤ 1000) (hB : B ≤ W.heap.size) (ho : o = (i + 1) * 3 ∨ n - i = 0) (c1 c2 : Nat) :
    ∃ ad1 cap1 w1 ad2 cap2 w2, (Builtin.append_ #[25, 25] 25 #[.slice (some ⟨W.heap.size, 0, none⟩) 0 0, .slice (some ⟨gw, 0, none⟩) i c1]).run Try.prog (W.drew.alloc (.cells #[] 30)) = .ok (.slice ad1 i cap1) w1 ∧
      (Builtin.append_ #[25, 25] 25 #[.slice ad1 i cap1, .slice (some ⟨gw, o, none⟩) (n - i) c2]).run Try.prog w1 = .ok (.slice ad2 n cap2) w2 ∧
      Below W.heap.size W w1 ∧ Below W.heap.size W w2 ∧ Two B b adl capl ad2 cap2 w2 M (rem N i) := by
  have hE : Below W.heap.size W (W.drew.alloc (.cells #[] 30)) := (Below.refl _ _).drew.alloc (Nat.le_refl _) _
  have hO := own_empty W.drew W.heap.size (Nat.le_refl _)
  have s1 := own_srcB hT.s (f := 0) (n := i) (by omega) 0 (Or.inl (by omega))
  have s2 := own_srcB hT.s (f := i + 1) (n := n - i) (by omega) o ho
  rw [List.drop_zero] at s1
  rw [List.take_of_length_le (by rw [List.length_drop]; omega)] at s2
  have l1 : (N.take i).length = i := by rw [List.length_take]; omega
  have l2 : (N.drop (i + 1)).length = n - i := by rw [List.length_drop]; omega
  obtain ⟨ad1, cap1, w1, hr1, ho1, hg1, hf1⟩ := run_app (c := c1) (by simp; omega) hE.size hO (srcB_keep s1 hE.block).1 (fun e => by cases e)
  rw [List.nil_append] at hr1 ho1
  rw [l1] at hr1
  have hb1 : Below W.heap.size W w1 := hE.trans (grown_below hg1 (Nat.le_refl _) hE.size)
  obtain ⟨ad2, cap2, w2, hr2, ho2, hg2, hf2⟩ := run_app (c := c2) (by rw [l1, l2]; omega) hb1.size ho1 (srcB_keep s2 hb1.block).1 (fun e => by cases e)
  have hlow := own_low ho1
  have hb2 : Below W.heap.size W w2 := hb1.grown hg2 hb1.size (fun k e => hlow k e)
  rw [l1, l2, List.length_append, l1, l2, show i + (n - i) = n by omega] at hr2
  exact ⟨ad1, cap1, w1, ad2, cap2, w2, hr1, hr2, hb1, hb2, two_new hT hb2 (Nat.le_refl _) hB ho2⟩
theorem lit_block {W : World} (M : List (Int × Int × ByteArray)) {v : Nat} (h : W.heap[v]? = some (.cells (flat M).toArray 30 (0, 0))) : Src (some ⟨v, 0, none⟩) W M := by
  refine Or.inr ⟨_, rfl, fun j u hj => ?_⟩
  rw [Go.WideShapes.add_plain, Nat.zero_add]
  simp only [World.cell?, h]
  simpa using hj
/-- What stands when the slice with one more is made: the new one laid ahead of all. -/
theorem chain_insA {eA vA m i : Nat} {a1 a2 : Option Addr} {W W' : World} {N : List (Int × Int × ByteArray)} (e : Int × Int × ByteArray) (hN : N.length = m) (hi : i ≤ m) (hm : m ≤ 1000) (hb : Below W.heap.size W W') (hO : Own W.heap.size (some ⟨eA, 0, none⟩) 0 W' [])
    (hX : W'.heap[vA]? = some (.cells (flat [e]).toArray 30 (0, 0))) (hne : vA ≠ eA) (s1 : SrcB W.heap.size a1 W (N.take i)) (s2 : SrcB W.heap.size a2 W (N.drop i)) (c1 c2 : Nat) (hc1 : a1 = none → c1 = 0) (hc2 : a2 = none → c2 = 0) :
    ∃ ad1 cap1 w1 ad2 cap2 w2 ad3 cap3 w3, (Builtin.append_ #[25, 25] 25 #[.slice (some ⟨eA, 0, none⟩) 0 0, .slice a1 i c1]).run Try.prog W' = .ok (.slice ad1 i cap1) w1 ∧
      (Builtin.append_ #[25, 25] 25 #[.slice ad1 i cap1, .slice (some ⟨vA, 0, none⟩) 1 1]).run Try.prog w1 = .ok (.slice ad2 (i + 1) cap2) w2 ∧
      (Builtin.append_ #[25, 25] 25 #[.slice ad2 (i + 1) cap2, .slice a2 (m - i) c2]).run Try.prog w2 = .ok (.slice ad3 (m + 1) cap3) w3 ∧
      Below W.heap.size W w1 ∧ Below W.heap.size W w2 ∧ Below W.heap.size W w3 ∧ Own W.heap.size ad3 cap3 w3 (ins N i e) := by
  have l1 : (N.take i).length = i := by rw [List.length_take]; omega
  have l2 : (N.drop i).length = m - i := by rw [List.length_drop]; omega
  have l3 : (N.take i ++ [e]).length = i + 1 := by rw [List.length_append, l1]; rfl
  have l4 : (N.take i ++ [e] ++ N.drop i).length = m + 1 := by rw [List.length_append, l3, l2]; omega
  obtain ⟨ad1, cap1, w1, hr1, ho1, hg1, hf1⟩ := run_app (c := c1) (by simp; omega) hb.size hO (srcB_keep s1 hb.block).1 hc1
  rw [List.nil_append] at hr1 ho1
  rw [l1] at hr1
  have hlow0 := own_low hO
  have hb1 : Below W.heap.size W w1 := hb.grown hg1 hb.size (fun k e => hlow0 k e)
  have hX1 := grown_blk hX hg1 (fun x => hne (by simp at x; exact x.symm))
  obtain ⟨ad2, cap2, w2, hr2, ho2, hg2, hf2⟩ := run_app (c := 1) (M := [e]) (by rw [l1]; simp; omega) hb1.size ho1 (lit_block [e] hX1) (fun e => by cases e)
  rw [l3, l1] at hr2
  have hlow1 := own_low ho1
  have hb2 : Below W.heap.size W w2 := hb1.grown hg2 hb1.size (fun k e => hlow1 k e)
  obtain ⟨ad3, cap3, w3, hr3, ho3, hg3, hf3⟩ := run_app (c := c2) (by rw [l3, l2]; omega) hb2.size ho2 (srcB_keep s2 hb2.block).1 hc2
  have hlow2 := own_low ho2
  have hb3 : Below W.heap.size W w3 := hb2.grown hg3 hb2.size (fun k e => hlow2 k e)
  rw [l4, l3, l2] at hr3
  refine ⟨ad1, cap1, w1, ad2, cap2, w2, ad3, cap3, w3, hr1, hr2, hr3, hb1, hb2, hb3, ?_⟩
  rw [List.append_assoc] at ho3
  exact ho3
/-- The same, the new one laid behind the first copy. -/
theorem chain_insB {eA m i : Nat} {a1 a2 : Option Addr} {W W' : World} {N : List (Int × Int × ByteArray)} (e : Int × Int × ByteArray) (hN : N.length = m) (hi : i ≤ m) (hm : m ≤ 1000) (hb : Below W.heap.size W W') (hO : Own W.heap.size (some ⟨eA, 0, none⟩) 0 W' [])
    (s1 : SrcB W.heap.size a1 W (N.take i)) (s2 : SrcB W.heap.size a2 W (N.drop i)) (c1 c2 : Nat) (hc1 : a1 = none → c1 = 0) (hc2 : a2 = none → c2 = 0) :
    ∃ ad1 cap1 w1 ad2 cap2 w2 ad3 cap3 w3, (Builtin.append_ #[25, 25] 25 #[.slice (some ⟨eA, 0, none⟩) 0 0, .slice a1 i c1]).run Try.prog W' = .ok (.slice ad1 i cap1) w1 ∧
      (Builtin.append_ #[25, 25] 25 #[.slice ad1 i cap1, .slice (some ⟨w1.heap.size, 0, none⟩) 1 1]).run Try.prog (w1.alloc (.cells (flat [e]).toArray 30)) = .ok (.slice ad2 (i + 1) cap2) w2 ∧
      (Builtin.append_ #[25, 25] 25 #[.slice ad2 (i + 1) cap2, .slice a2 (m - i) c2]).run Try.prog w2 = .ok (.slice ad3 (m + 1) cap3) w3 ∧
      Below W.heap.size W w1 ∧ Below W.heap.size W (w1.alloc (.cells (flat [e]).toArray 30)) ∧ Below W.heap.size W w2 ∧ Below W.heap.size W w3 ∧ Own W.heap.size ad3 cap3 w3 (ins N i e) := by
  have l1 : (N.take i).length = i := by rw [List.length_take]; omega
  have l2 : (N.drop i).length = m - i := by rw [List.length_drop]; omega
  have l3 : (N.take i ++ [e]).length = i + 1 := by rw [List.length_append, l1]; rfl
  have l4 : (N.take i ++ [e] ++ N.drop i).length = m + 1 := by rw [List.length_append, l3, l2]; omega
  obtain ⟨ad1, cap1, w1, hr1, ho1, hg1, hf1⟩ := run_app (c := c1) (by simp; omega) hb.size hO (srcB_keep s1 hb.block).1 hc1
  rw [List.nil_append] at hr1 ho1
  rw [l1] at hr1
  have hlow0 := own_low hO
  have hb1 : Below W.heap.size W w1 := hb.grown hg1 hb.size (fun k e => hlow0 k e)
  have hE : Below w1.heap.size w1 (w1.alloc (.cells (flat [e]).toArray 30)) := (Below.refl _ _).alloc (Nat.le_refl _) _
  have hbE := hb1.trans (hE.mono hb1.size)
  obtain ⟨ad2, cap2, w2, hr2, ho2, hg2, hf2⟩ := run_app (c := 1) (M := [e]) (by rw [l1]; simp; omega) hbE.size (own_below ho1 hE) (lit_block [e] (heap_alloc_new w1 _)) (fun e => by cases e)
  rw [l3, l1] at hr2
  have hlow1 := own_low ho1
  have hb2 : Below W.heap.size W w2 := hbE.grown hg2 hbE.size (fun k e => hlow1 k e)
  obtain ⟨ad3, cap3, w3, hr3, ho3, hg3, hf3⟩ := run_app (c := c2) (by rw [l3, l2]; omega) hb2.size ho2 (srcB_keep s2 hb2.block).1 hc2
  have hlow2 := own_low ho2
  have hb3 : Below W.heap.size W w3 := hb2.grown hg3 hb2.size (fun k e => hlow2 k e)
  rw [l4, l3, l2] at hr3
  refine ⟨ad1, cap1, w1, ad2, cap2, w2, ad3, cap3, w3, hr1, hr2, hr3, hb1, hbE, hb2, hb3, ?_⟩
  rw [List.append_assoc] at ho3
  exact ho3
theorem four_facts {w : World} {g : Nat} {x0 x1 x2 x3 x4 : Value} {t : TypeId} (h : w.heap[g]? = some (.cells #[x0, x1, x2, x3, x4] t)) :
    w.cell? ⟨g, 1, none⟩ = some x1 ∧ w.cell? ⟨g, 2, none⟩ = some x2 ∧ w.cell? ⟨g, 3, none⟩ = some x3 ∧ w.cell? ⟨g, 4, none⟩ = some x4 := (five_facts h).2
def lenS : Value → Nat
  | .slice _ n _ => n
  | _ => 0
theorem replicate_step {M : List (Int × Int × ByteArray)} {e : Int × Int × ByteArray} (q m : Nat) (h : m ≤ q) : M ++ List.replicate (q + 1 - m) e = (M ++ List.replicate (q - m) e) ++ [e] := by
  rw [List.append_assoc, ← List.replicate_succ', show q - m + 1 = q + 1 - m by omega]
theorem reverse_step {M : List (Int × Int × ByteArray)} {j q : Nat} (h : j < M.length) (hq : q + j + 1 = M.length) : M.reverse.take (q + 1) = M.reverse.take q ++ [(M[j].1, M[j].2.1, M[j].2.2)] := by
  rw [List.take_succ_eq_append_getElem (by rw [List.length_reverse]; omega)]
  congr 2
  rw [List.getElem_reverse]
  congr 1
  omega
end Go.Proofs.Ytfngndbpgegnaaa.Li
