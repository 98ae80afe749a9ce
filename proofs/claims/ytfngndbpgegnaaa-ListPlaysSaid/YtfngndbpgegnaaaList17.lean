/- list.Remove, Clear, Reverse with its exact values. -/
import Derived.Test.YtfngndbpgegnaaaList16
namespace Go.Proofs.Ytfngndbpgegnaaa.Li
open Go.RowKit Go.ChangeShapes Go.WideShapes Go.ChangeAt Go.Proofs.Ytfngndbpgegnaaa.Va

theorem upd_trans {b : Nat} {ad : Option Addr} {w W w' : World} (h1 : Upd b ad w W) (h2 : Upd b ad W w') : Upd b ad w w' :=
  ⟨h2.os.trans h1.os, h2.tape.trans h1.tape, h2.output.trans h1.output, Nat.le_trans h1.size h2.size, fun k hk hb hg => (h2.block k (Nat.lt_of_lt_of_le hk h1.size) hb hg).trans (h1.block k hk hb hg)⟩
theorem upd_of_below {b : Nat} {ad : Option Addr} {w W : World} (h : Below w.heap.size w W) : Upd b ad w W := ⟨h.os, h.tape, h.output, h.size, fun k hk _ _ => h.block k hk⟩
theorem upd_refl (b : Nat) (ad : Option Addr) (w : World) : Upd b ad w w := ⟨rfl, rfl, rfl, Nat.le_refl _, fun _ _ _ _ => rfl⟩
theorem upd_setRow {b g : Nat} {w : World} (A : Array Value) : Upd b (some ⟨g, 0, none⟩) w (w.setRow g A) :=
  ⟨rfl, rfl, rfl, by simp [World.setRow], fun k _ _ h2 => setRow_other w g k _ (fun e => h2 (by rw [e]; rfl))⟩
theorem same_upd {B b cap : Nat} {ad : Option Addr} {w W w' : World} {L : List (Int × Int × ByteArray)} (h1 : Upd b ad w W) (h : Same B b ad cap W w' L) : Same B b ad cap w w' L := ⟨h.1, upd_trans h1 h.2⟩

/-- The values without one. -/
def rem (L : List (Int × Int × ByteArray)) (i : Nat) : List (Int × Int × ByteArray) := L.take i ++ L.drop (i + 1)
theorem rem_len (L : List (Int × Int × ByteArray)) (i : Nat) (hi : i < L.length) : (rem L i).length = L.length - 1 := by
  unfold rem; rw [List.length_append, List.length_take, List.length_drop]; omega
/-- The row behind the copy. -/
theorem one_copy (A : List Value) (L : List (Int × Int × ByteArray)) (i n : Nat) (hn : L.length = n + 1) (hi : i ≤ n) (hA : A.take (L.length * 3) = flat L) (hl : L.length * 3 ≤ A.length) (A1 : List Value)
    (h1 : A1 = A.take (i * 3) ++ flat (L.drop (i + 1)) ++ A.drop (i * 3 + (L.drop (i + 1)).length * 3)) :
    A1.take (L.length * 3) = flat (rem L i ++ L.drop n) ∧ A1.length = A.length := by
  have hd : (L.drop (i + 1)).length = n - i := by rw [List.length_drop]; omega
  have ht : A.take (i * 3) = flat (L.take i) := by
    rw [← take_flat L i (by omega), ← hA, List.take_take]; congr 1; omega
  have hft : (flat (L.take i)).length = i * 3 := by rw [flat_len, List.length_take]; omega
  have hfd : (flat (L.drop (i + 1))).length = (n - i) * 3 := by rw [flat_len, hd]
  have hdn : (A.drop (n * 3)).take 3 = flat (L.drop n) := by
    rw [← drop_flat L n (by omega), ← hA, hn, List.drop_take, show (n + 1) * 3 - n * 3 = 3 by omega]
  rw [ht, hd, show i * 3 + (n - i) * 3 = n * 3 by omega] at h1
  refine ⟨?_, ?_⟩
  · rw [h1, hn, List.take_append, List.take_of_length_le (by rw [List.length_append, hft, hfd]; omega), List.length_append, hft, hfd, show (n + 1) * 3 - (i * 3 + (n - i) * 3) = 3 by omega, hdn]
    unfold rem
    rw [flat_append, flat_append]
  · rw [h1]; simp only [List.length_append, hft, hfd, List.length_drop]; omega
theorem own_move' {B cap g : Nat} {w w' : World} {L : List (Int × Int × ByteArray)} (h : Own B (some ⟨g, 0, none⟩) cap w L) (hk : w'.heap[g]? = w.heap[g]?) : Own B (some ⟨g, 0, none⟩) cap w' L :=
  own_move h fun g' e => by simp at e; subst e; exact hk
theorem run_shift {B cap g i n : Nat} {w : World} {L : List (Int × Int × ByteArray)} (hn : L.length = n + 1) (hi : i ≤ n) (h : Own B (some ⟨g, 0, none⟩) cap w L) :
    ∃ A1 : Array Value, (∀ (W : World) (o : Nat), W.heap = w.heap → (o = (i + 1) * 3 ∨ i = n) → ∀ ty dc sc, (Builtin.copy_ #[25, 25] ty #[.slice (some ⟨g, i * 3, none⟩) (n + 1 - i) dc, .slice (some ⟨g, o, none⟩) (n - i) sc]).run Try.prog W = .ok (goInt (n - i : Nat)) (W.setRow g A1)) ∧
      ∀ W : World, W.heap = w.heap → Own B (some ⟨g, 0, none⟩) cap (W.setRow g A1) (rem L i ++ L.drop n) := by
  have hown := h
  rcases h.2 with ⟨hx, _⟩ | ⟨g', c', cur, hx, hBg, hg, hnc, hcm, hcs, htake⟩
  · cases hx
  simp only [Value.slice.injEq, Option.some.injEq, Addr.mk.injEq, and_true, true_and] at hx
  obtain ⟨rfl, rfl⟩ := hx
  have hD : (L.drop (i + 1)).length = n - i := by rw [List.length_drop]; omega
  have hcells := World.ownsRow.cells hown (g := g) rfl
  obtain ⟨t1, t2⟩ := one_copy cur.toList L i n hn hi htake (by simp only [Array.length_toList]; omega) _ rfl
  refine ⟨(cur.toList.take (i * 3) ++ flat (L.drop (i + 1)) ++ cur.toList.drop (i * 3 + (L.drop (i + 1)).length * 3)).toArray, fun W o hW ho ty dc sc => ?_, fun W hW => ?_⟩
  · have := run_copy3 W ty g (i * 3) (n + 1 - i) dc ⟨g, o, none⟩ (n - i) sc cur (L.drop (i + 1)) (by rw [hW]; exact hg) (by rw [hD]; simp only [Nat.min_def]; split <;> omega) (fun j u hj => by
      rcases ho with rfl | rfl
      · rw [← drop_flat L (i + 1) (by omega), List.getElem?_drop] at hj
        have := hcells _ _ hj
        rw [Go.WideShapes.add_plain] at this ⊢
        rw [show 0 + ((i + 1) * 3 + j) = (i + 1) * 3 + j by omega] at this
        rw [← this]; simp [World.cell?, hW]
      · rw [List.drop_of_length_le (by omega)] at hj; simp [flat] at hj) (by rw [hD, hcs]; omega)
    rw [this, hD]
  · have hLL : (rem L i ++ L.drop n).length = L.length := by rw [List.length_append, rem_len L i (by omega), List.length_drop]; omega
    refine ⟨flat_len _, .inr ⟨g, cap, _, by rw [hLL], hBg, setRow_heap W g cur _ _ _ (by rw [hW]; exact hg), by rw [hLL]; exact hnc, hcm, ?_, ?_⟩⟩
    · rw [List.size_toArray, t2, Array.length_toList, hcs]
    · rw [hLL]; exact t1

set_option maxRecDepth 100000 in
theorem remove_no (B b : Nat) (ad : Option Addr) (cap : Nat) (L : List (Int × Int × ByteArray)) (i : Int) (hi : i < 0 ∨ (L.length : Int) ≤ i) (w : World) (h : IsL B b ad cap w L) :
    Calls Try.prog 19 #[.pointer (some ⟨b, 0, none⟩), .int .i64 i] w fun e w' => e = .returned (.tuple #[.agg #[.int .i64 0, .int .i64 0, .string ⟨#[]⟩], .int .i64 1]) ∧ Below w.heap.size w w' := by
  have HN := Lib.hid null_any
  have hbe : Below w.heap.size w (w.alloc (.cells #[.int .i64 0, .int .i64 0, .string ⟨#[]⟩] 30)) := (Below.refl _ _).alloc (Nat.le_refl _) _
  have HH := Lib.hid (has_no B b ad cap L i hi _ (isL_below h hbe))
  clear h
  go_enter Try.func19, Try.ntmps19
  go_wp2_with fail
  refine HH.out.mono ?_
  rintro e _ ⟨rfl, rfl⟩
  go_wp2_with fail
  refine (HN.out _).mono ?_
  rintro e w1 ⟨rfl, hb⟩
  obtain ⟨hA, hbz⟩ := box1 hb
  obtain ⟨c0, c1, c2, z0, z1, z2⟩ := three_facts hA
  have HA := Lib.hid hA
  clear hA hb
  go_wp2_with fail
  (try simp only [Exit.inBlock, Exit.then])
  refine bodyPost_ret (Va.results_cell_tmp rfl _ _ w.heap.size 30 #[.int .i64 0, .int .i64 0, .string ⟨#[]⟩] (0, 0) _ rfl (heap_three HA.out _ _ _) Try.underlying30 rfl A.infoV) ?_ ?_
  · rfl
  · exact ⟨rfl, ((hbz.setCell (by simp) _).setCell (by simp) _).setCell (by simp) _⟩

set_option maxRecDepth 100000 in
set_option maxHeartbeats 4000000 in
theorem remove_yes (B b : Nat) (ad : Option Addr) (cap : Nat) (L : List (Int × Int × ByteArray)) (i n : Nat) (hn : L.length = n + 1) (hi : i ≤ n) (hl : L.length ≤ 2000000) (w : World) (h : IsL B b ad cap w L) :
    Calls Try.prog 19 #[.pointer (some ⟨b, 0, none⟩), .int .i64 (i : Int)] w fun e w' => e = .returned (.tuple #[agg (L[i]'(by omega)), .int .i64 0]) ∧ Same B b ad cap w w' (rem L i) := by
  have hbe : Below w.heap.size w (w.alloc (.cells #[.int .i64 0, .int .i64 0, .string ⟨#[]⟩] 30)) := (Below.refl _ _).alloc (Nat.le_refl _) _
  have h' := isL_below h hbe
  have HH := Lib.hid (has_yes B b ad cap L i (by omega) _ h')
  obtain ⟨c0, z0⟩ := isL_cell h'
  obtain ⟨g, rfl, _, hg⟩ := own_some h.own (by omega)
  obtain ⟨e0, e1, e2⟩ := own_at h'.own i (by omega)
  have hcap := own_cap h.own
  unfold agg
  generalize hx : L[i] = x at *
  have hblk := lt_of_block h.blk
  have hne1 : b ≠ w.heap.size := by omega
  have hne2 : g ≠ w.heap.size := by omega
  have hbg : b ≠ g := fun x => own_apart h.own h.blk (by rw [x]; rfl)
  obtain ⟨W1, hW1⟩ : ∃ W1, W1 = ((w.alloc (.cells #[.int .i64 0, .int .i64 0, .string ⟨#[]⟩] 30)).alloc (.cells #[.int .i64 x.1, .int .i64 x.2.1, .string x.2.2] 30)).drew := ⟨_, rfl⟩
  have hbe2 : Below w.heap.size w W1 := by rw [hW1]; exact (hbe.alloc (by simp) _).drew
  have h1 := isL_below h hbe2
  obtain ⟨A1, hcp, hown⟩ := run_shift hn hi h1.own
  obtain ⟨d0, y0⟩ := isL_cell h1
  have hcp' := hcp W1 ((i + 1) * 3) rfl (Or.inl rfl)
  have hcp2 : i = n → _ := fun e => hcp W1 0 rfl (Or.inr e)
  have hown1 := hown W1 rfl
  have hb1 : (W1.setRow g A1).heap[b]? = some (.cells #[.slice (some ⟨g, 0, none⟩) L.length cap] 114 (0, 0)) := by rw [setRow_other W1 g b _ hbg]; exact h1.blk
  have hLL : (rem L i ++ L.drop n).length = L.length := by rw [List.length_append, rem_len L i (by omega), List.length_drop]; omega
  have hI : IsL B b (some ⟨g, 0, none⟩) cap (W1.setRow g A1) (rem L i ++ L.drop n) := ⟨by rw [hLL]; exact hb1, h.low, hown1⟩
  have htk : (rem L i ++ L.drop n).take n = rem L i := by rw [List.take_left' (by rw [rem_len L i (by omega)]; omega)]
  have HC := cut_any B b (some ⟨g, 0, none⟩) cap _ n (by rw [hLL]; omega) (by rw [hLL]; exact hl) _ hI
  rw [htk] at HC
  have HC := Lib.hid HC
  obtain ⟨f0, x0⟩ := isL_cell hI
  rw [hLL] at f0
  have hU : Upd b (some ⟨g, 0, none⟩) w (W1.setRow g A1) := upd_trans (upd_of_below hbe2) (upd_setRow A1)
  have hs1 : W1.heap.size = w.heap.size + 1 + 1 := by rw [hW1]; show ((w.alloc _).alloc _).heap.size = _; simp
  have hq1 : W1.heap[w.heap.size]? = some (.cells #[.int .i64 0, .int .i64 0, .string ⟨#[]⟩] 30 (0, 0)) := by
    rw [hW1]
    exact (((Below.refl _ _).alloc (Nat.le_refl _) _ : Below (w.alloc _).heap.size (w.alloc _) _).block _ (by first | (simp; done) | (simp; omega))).trans (heap_alloc_new w _)
  have hq2 : W1.heap[w.heap.size + 1]? = some (.cells #[.int .i64 x.1, .int .i64 x.2.1, .string x.2.2] 30 (0, 0)) := by
    rw [hW1]
    have := heap_alloc_new (w.alloc (.cells #[.int .i64 0, .int .i64 0, .string ⟨#[]⟩] 30)) (.cells #[.int .i64 x.1, .int .i64 x.2.1, .string x.2.2] 30)
    rw [show (w.alloc (.cells #[.int .i64 0, .int .i64 0, .string ⟨#[]⟩] 30)).heap.size = w.heap.size + 1 by simp] at this
    exact this
  have hr1 : (W1.setRow g A1).heap[w.heap.size]? = some (.cells #[.int .i64 0, .int .i64 0, .string ⟨#[]⟩] 30 (0, 0)) := (setRow_other W1 g _ _ (by omega)).trans hq1
  have hr2 : (W1.setRow g A1).heap[w.heap.size + 1]? = some (.cells #[.int .i64 x.1, .int .i64 x.2.1, .string x.2.2] 30 (0, 0)) := (setRow_other W1 g _ _ (by omega)).trans hq2
  have hsr : (W1.setRow g A1).heap.size = w.heap.size + 1 + 1 := by rw [← hs1]; simp [World.setRow]
  have HQ1 := Lib.hid hr1
  have HQ2 := Lib.hid hr2
  have HU := Lib.hid hU
  rw [hn] at c0 d0 f0
  have k0 : (0 : Int) ≤ (i : Int) := by omega
  have k1 : (i : Int) < ((n + 1 : Nat) : Int) := by omega
  have k2 : (i : Int) ≤ ((n + 1 : Nat) : Int) := by omega
  have k3 : (0 : Int) ≤ (i : Int) + 1 := by omega
  have k4 : (i : Int) + 1 ≤ ((n + 1 : Nat) : Int) := by omega
  have k5 : ((i : Int) + 1).toNat = i + 1 := by omega
  have k6 : IntKind.i64.wrap ((i : Int) + 1) = (i : Int) + 1 := by rw [IntKind.wrap_i64]; omega
  have k7 : n + 1 - (i + 1) = n - i := by omega
  have k8 : ¬ cap = i := by omega
  have k9 : (((n + 1 : Nat) : Int) - 1) = (n : Int) := by omega
  have k10 : ((n : Int) + 1 - 1) = (n : Int) := by omega
  have HK : Hid (n + 1 ≤ cap) := by show _ ≤ _; omega
  have Hne1 := Lib.hid hne1
  have Hne2 := Lib.hid hne2
  have HSR := Lib.hid hsr
  have hnb : n ≤ 2000000 := by omega
  by_cases hc : cap = i + 1
  · have hin : i = n := by omega
    have hcp3 := hcp2 hin
    clear hcp hcp2 hcp' hown hown1 hb1 hI h1 h h' hbe hbe2 hx htk hLL hU hr1 hr2 hq1 hq2 hsr hs1 hn
    subst hin
    rw [show i + 1 - i = 1 by omega, show i - i = 0 by omega] at hcp3
    subst hc
    subst hW1
    go_enter Try.func19, Try.ntmps19
    go_wp2_with fail
    refine HH.out.mono ?_
    rintro e _ ⟨rfl, rfl⟩
    go_wp2_with fail
    go_region
    all_goals go_wp2_with fail
    all_goals refine HC.out.mono ?_
    all_goals
      intro e w1 hh
      have he := hh.1
      subst he
      have hN := hh.2
      have ho1 := Hne1.out
      have ho2 := Hne2.out
      have hr1 := (hN.2.block w.heap.size (by rw [HSR.out]; omega) (fun e => ho1 e.symm) (fun e => ho2 (by simpa using e))).trans HQ1.out
      have hr2 := (hN.2.block (w.heap.size + 1) (by rw [HSR.out]; omega) (by omega) (fun e => by simp at e; omega)).trans HQ2.out
      obtain ⟨a0, a1, a2, b0, b1, b2⟩ := three_facts hr1
      obtain ⟨p0, p1, p2, _, _, _⟩ := three_facts hr2
      have HR := Lib.hid hr1
      have HS := Lib.hid (same_upd HU.out hN)
      clear hr1 hr2 hN hh HC HQ1 HQ2 HU ho1 ho2
      go_wp2_with fail
      (try simp only [Exit.inBlock, Exit.then])
      refine bodyPost_ret (Va.results_cell_tmp rfl _ _ w.heap.size 30 #[.int .i64 x.1, .int .i64 x.2.1, .string x.2.2] (0, 0) _ rfl (heap_three HR.out _ _ _) Try.underlying30 rfl A.infoV) ?_ ?_
      · rfl
      · have hgb : ∀ g', (some (⟨g, 0, none⟩ : Addr)).map (·.block) = some g' → g' < w.heap.size := fun g' e => by simp at e; omega
        exact ⟨rfl, same_set (same_set (same_set HS.out hblk hgb (Nat.le_refl _) _) hblk hgb (Nat.le_refl _) _) hblk hgb (Nat.le_refl _) _⟩
  · clear hcp hcp2 hown hown1 hb1 hI h1 h h' hbe hbe2 hx htk hLL hU hr1 hr2 hq1 hq2 hsr hs1 hn
    subst hW1
    go_enter Try.func19, Try.ntmps19
    go_wp2_with fail
    refine HH.out.mono ?_
    rintro e _ ⟨rfl, rfl⟩
    go_wp2_with fail
    go_region
    all_goals go_wp2_with fail
    all_goals refine HC.out.mono ?_
    all_goals
      intro e w1 hh
      have he := hh.1
      subst he
      have hN := hh.2
      have ho1 := Hne1.out
      have ho2 := Hne2.out
      have hr1 := (hN.2.block w.heap.size (by rw [HSR.out]; omega) (fun e => ho1 e.symm) (fun e => ho2 (by simpa using e))).trans HQ1.out
      have hr2 := (hN.2.block (w.heap.size + 1) (by rw [HSR.out]; omega) (by omega) (fun e => by simp at e; omega)).trans HQ2.out
      obtain ⟨a0, a1, a2, b0, b1, b2⟩ := three_facts hr1
      obtain ⟨p0, p1, p2, _, _, _⟩ := three_facts hr2
      have HR := Lib.hid hr1
      have HS := Lib.hid (same_upd HU.out hN)
      clear hr1 hr2 hN hh HC HQ1 HQ2 HU ho1 ho2
      go_wp2_with fail
      (try simp only [Exit.inBlock, Exit.then])
      refine bodyPost_ret (Va.results_cell_tmp rfl _ _ w.heap.size 30 #[.int .i64 x.1, .int .i64 x.2.1, .string x.2.2] (0, 0) _ rfl (heap_three HR.out _ _ _) Try.underlying30 rfl A.infoV) ?_ ?_
      · rfl
      · have hgb : ∀ g', (some (⟨g, 0, none⟩ : Addr)).map (·.block) = some g' → g' < w.heap.size := fun g' e => by simp at e; omega
        exact ⟨rfl, same_set (same_set (same_set HS.out hblk hgb (Nat.le_refl _) _) hblk hgb (Nat.le_refl _) _) hblk hgb (Nat.le_refl _) _⟩

/-! the other way round -/
theorem rev_end {L M : List (Int × Int × ByteArray)} {a : Nat} (hM : M.length = L.length) (ha : L.length ≤ 2 * a + 1) (h : ∀ i, i < L.length → M[i]? = if i < a ∨ L.length - 1 - a < i then L[L.length - 1 - i]? else L[i]?) : M = L.reverse := by
  apply List.ext_getElem? 
  intro i
  by_cases hi : i < L.length
  · rw [h i hi, List.getElem?_reverse hi]
    split
    · rfl
    · congr 1; omega
  · rw [List.getElem?_eq_none (by omega), List.getElem?_eq_none (by rw [List.length_reverse]; omega)]
theorem rev_step {L M : List (Int × Int × ByteArray)} {a c : Nat} (hM : M.length = L.length) (hac : a < c) (hc : a + c + 1 = L.length) (h : ∀ i, i < L.length → M[i]? = if i < a ∨ L.length - 1 - a < i then L[L.length - 1 - i]? else L[i]?) (ha : a < M.length) (hcM : c < M.length) :
    ∀ i, i < L.length → ((M.set a M[c]).set c M[a])[i]? = if i < a + 1 ∨ L.length - 1 - (a + 1) < i then L[L.length - 1 - i]? else L[i]? := by
  intro i hi
  have h1 : M[a]? = L[a]? := by rw [h a (by omega), if_neg (by omega)]
  have h2 : M[c]? = L[c]? := by rw [h c (by omega), if_neg (by omega)]
  rw [List.getElem?_eq_getElem ha] at h1
  rw [List.getElem?_eq_getElem hcM] at h2
  rw [List.getElem?_set, List.length_set]
  by_cases e1 : c = i
  · subst e1
    rw [if_pos rfl, if_pos hcM, if_pos (by omega), h1]; congr 1; omega
  · rw [if_neg e1, List.getElem?_set]
    by_cases e2 : a = i
    · subst e2
      rw [if_pos rfl, if_pos ha, if_pos (by omega), h2]; congr 1; omega
    · rw [if_neg e2, h i hi]
      by_cases e3 : i < a ∨ L.length - 1 - a < i
      · rw [if_pos e3, if_pos (by omega)]
      · rw [if_neg e3, if_neg (by omega)]
def Turned (L M : List (Int × Int × ByteArray)) (a : Nat) : Prop := M.length = L.length ∧ ∀ i, i < L.length → M[i]? = if i < a ∨ L.length - 1 - a < i then L[L.length - 1 - i]? else L[i]?
set_option maxRecDepth 100000 in
set_option maxHeartbeats 4000000 in
theorem reverse_exact (B g cap : Nat) (L : List (Int × Int × ByteArray)) (hl : L.length ≤ 2000000) (w : World) (h : Own B (some ⟨g, 0, none⟩) cap w L) :
    Calls Try.prog 71 #[.slice (some ⟨g, 0, none⟩) L.length cap] w fun e w' => e = .returned (.tuple #[]) ∧ RowSame B g cap w w' L.reverse := by
  have HO := Lib.hid h
  clear h
  go_enter Try.func71, Try.ntmps71
  go_wp2_with fail
  go_loopw [2, 3] (fun i j wr => ∃ (a : Nat) (b : Int) (L' : List (Int × Int × ByteArray)), i = .int .i64 (a : Int) ∧ j = .int .i64 b ∧ a ≤ L.length ∧ (a : Int) + b + 1 = L.length ∧ Hid (Turned L L' a) ∧ Hid (RowSame B g cap w wr L')) (fun i _ _ => L.length - (intOf i).toNat)
  case atStart => exact ⟨0, (L.length : Int) - 1, L, rfl, by go_num, by omega, by omega, ⟨rfl, fun i hi => by rw [if_neg (by omega)]⟩, ⟨HO.out, ⟨rfl, rfl, rfl, Nat.le_refl _, fun _ _ _ => rfl⟩⟩⟩
  case round =>
    obtain ⟨a, b, L', rfl, rfl, ha, hab, HT, HR⟩ := hrel
    have hb1 : -1 ≤ b := by omega
    have hb2 : b < L.length := by omega
    by_cases hlt : (a : Int) < b
    · obtain ⟨c, rfl⟩ : ∃ c : Nat, b = (c : Int) := ⟨b.toNat, by omega⟩
      have hLl := HT.out.1
      have ha' : a < L'.length := by omega
      have hc' : c < L'.length := by omega
      have HT2 : Hid (Turned L ((L'.set a L'[c]).set c L'[a]) (a + 1)) := ⟨by rw [List.length_set, List.length_set]; exact hLl, rev_step hLl (by omega) (by omega) HT.out.2 ha' hc'⟩
      obtain ⟨a0, a1, a2⟩ := own_at HR.out.1 a ha'
      obtain ⟨c0, c1, c2⟩ := own_at HR.out.1 c hc'
      have fz : ∀ j, wr.frozen? ⟨g, j, none⟩ = false := World.ownsRow.frozenAt HR.out.1
      have hk1 : (a : Int) < (L.length : Int) := by omega
      have hk2 : (c : Int) < (L.length : Int) := by omega
      have hk3 : (0 : Int) ≤ (a : Int) := by omega
      have hk4 : (0 : Int) ≤ (c : Int) := by omega
      have HS := Lib.hid (rows_set (rows_set HR.out a L'[c]) c L'[a])
      generalize L'[a] = x at *
      generalize L'[c] = y at *
      have n00 : ¬ c * 3 = a * 3 := by omega
      have n01 : ¬ c * 3 = a * 3 + 1 := by omega
      have n02 : ¬ c * 3 = a * 3 + 2 := by omega
      have n10 : ¬ c * 3 + 1 = a * 3 := by omega
      have n11 : ¬ c * 3 + 1 = a * 3 + 1 := by omega
      have n12 : ¬ c * 3 + 1 = a * 3 + 2 := by omega
      have n20 : ¬ c * 3 + 2 = a * 3 := by omega
      have n21 : ¬ c * 3 + 2 = a * 3 + 1 := by omega
      have n22 : ¬ c * 3 + 2 = a * 3 + 2 := by omega
      have Hab := Lib.hid hab
      clear HR HT hab
      go_wp2_with fail
      go_region
      all_goals (try go_wp2)
      all_goals go_roundw
      case rel => exact ⟨a + 1, (c : Int) - 1, (L'.set a y).set c x, by go_num, rfl, by omega, by have := Hab.out; omega, HT2, rows_drew HS.out⟩
      case measure => simp [intOf]; omega
    · have hE := rev_end HT.out.1 (a := a) (by omega) HT.out.2
      go_wp2_with fail
      refine bodyPost_end (v := .tuple #[]) (results_none rfl _ _) rfl ?_
      exact ⟨rfl, by rw [← hE]; exact HR.out⟩
theorem same_row {B b g cap : Nat} {w w' : World} {L M : List (Int × Int × ByteArray)} (h : IsL B b (some ⟨g, 0, none⟩) cap w L) (hM : M.length = L.length) (hR : RowSame B g cap w w' M) : Same B b (some ⟨g, 0, none⟩) cap w w' M := by
  have hu := upd_row (b := b) hR.2
  refine ⟨⟨?_, h.low, hR.1⟩, hu⟩
  rw [hM]
  exact (hR.2.block b (lt_of_block h.blk) (fun e => own_apart h.own h.blk (by simpa using e.symm))).trans h.blk
set_option maxRecDepth 100000 in
theorem reverse_yes (B b : Nat) (ad : Option Addr) (cap : Nat) (L : List (Int × Int × ByteArray)) (hl : L.length ≤ 2000000) (w : World) (h : IsL B b ad cap w L) :
    Calls Try.prog 21 #[.pointer (some ⟨b, 0, none⟩)] w fun e w' => e = .returned (.tuple #[]) ∧ Same B b ad cap w w' L.reverse := by
  obtain ⟨c0, z0⟩ := isL_cell h
  have HL := Lib.hid h
  rcases h.own.2 with ⟨hv, hn⟩ | ⟨g, c, cur, hv, _⟩
  · simp only [Value.slice.injEq] at hv
    obtain ⟨rfl, _, rfl⟩ := hv
    obtain rfl : L = [] := List.length_eq_zero_iff.1 hn
    rw [hn] at c0
    clear h
    go_enter Try.func21, Try.ntmps21
    go_wp2_with fail
    refine (reverse_none 0 w).mono ?_
    rintro e _ ⟨rfl, rfl⟩
    go_wp2_with fail
    refine bodyPost_end (v := .tuple #[]) (results_none rfl _ _) rfl ?_
    exact ⟨rfl, HL.out, upd_refl _ _ _⟩
  · simp only [Value.slice.injEq] at hv
    have had : ad = some ⟨g, 0, none⟩ := hv.1
    clear hv
    subst had
    have HR := Lib.hid (reverse_exact B g cap L hl w h.own)
    clear h
    go_enter Try.func21, Try.ntmps21
    go_wp2_with fail
    refine HR.out.mono ?_
    intro e w1 hh
    have he := hh.1
    subst he
    have HU := Lib.hid (same_row HL.out List.length_reverse hh.2)
    clear hh HR
    go_wp2_with fail
    refine bodyPost_end (v := .tuple #[]) (results_none rfl _ _) rfl ?_
    exact ⟨rfl, HU.out⟩
set_option maxRecDepth 100000 in
theorem clear_yes (B b : Nat) (ad : Option Addr) (cap : Nat) (L : List (Int × Int × ByteArray)) (hl : L.length ≤ 2000000) (w : World) (h : IsL B b ad cap w L) :
    Calls Try.prog 22 #[.pointer (some ⟨b, 0, none⟩)] w fun e w' => e = .returned (.tuple #[]) ∧ Same B b ad cap w w' [] := by
  have HC := Lib.hid (cut_any B b ad cap L 0 (Nat.zero_le _) hl w h)
  clear h
  go_enter Try.func22, Try.ntmps22
  go_wp2_with fail
  refine HC.out.mono ?_
  intro e w1 hh
  have he := hh.1
  subst he
  have HU := Lib.hid hh.2
  clear hh HC
  go_wp2_with fail
  refine bodyPost_end (v := .tuple #[]) (results_none rfl _ _) rfl ?_
  exact ⟨rfl, by have := HU.out; rw [List.take_zero] at this; exact this⟩
end Go.Proofs.Ytfngndbpgegnaaa.Li
