/- slices.Insert of one value where there is no room; list.Insert. -/
import Derived.Test.YtfngndbpgegnaaaList3
import Derived.BigRegion
namespace Go.Proofs.Ytfngndbpgegnaaa.Li
open Go.RowKit Go.ChangeShapes Go.WideShapes Go.ChangeAt Go.Proofs.Ytfngndbpgegnaaa.Va

theorem run_room {B cap g i k : Nat} {w : World} {L : List (Int × Int × ByteArray)} (hl : L.length ≤ 1048576) (hi : i < L.length) (hk : i + k = L.length + 1) (hc : cap < L.length + 1) (h : Own B (some ⟨g, 0, none⟩) cap w L) :
    ∃ (nc : Nat) (cur : Array Value), (Builtin.append_ #[25, 3] 25 #[.slice (some ⟨g, 0, none⟩) i cap, .int .i64 (k : Int)]).run Try.prog w = .ok (.slice (some ⟨w.heap.size, 0, none⟩) (L.length + 1) nc) (w.drew.alloc (.cells cur 30)) ∧
      cur.size = nc * 3 ∧ cur.toList.take (i * 3) = flat (L.take i) ∧ L.length + 1 ≤ nc ∧ nc ≤ maxLen := by
  obtain ⟨i0, hi0, hz0, hz1, hz2⟩ := info_parts A.infoE
  have hcells := World.ownsRow.cells h (g := g) rfl
  have hft : (flat (L.take i)).length = i * 3 := by rw [flat_len, List.length_take]; omega
  have hold : (Builtin.firstCells i0.size i (.slice (some ⟨g, 0, none⟩) i cap)).run Try.prog w.drew = .ok (flat (L.take i)).toArray w.drew := by
    rw [hz1]
    refine run_firstCells_some (P := Try.prog) w.drew 3 i ⟨g, 0, none⟩ i cap _ hft fun j v hj => ?_
    have hj' : (flat L)[j]? = some v := by
      rw [← take_flat L i (by omega)] at hj
      rw [List.getElem?_take] at hj
      split at hj
      · exact hj
      · cases hj
    exact hcells j v hj'
  have hr := Lib.run_append_grow_zeros (P := Try.prog) w 25 3 25 30 i0 _ .i64 .i64 Try.underlying25 Try.underlying3 hi0 hz0 (some ⟨g, 0, none⟩) i cap (flat (L.take i)) hold k (by omega) (by omega) (by omega) (by omega) (by rw [hz2]; omega) (growslice_fits (by omega) (by rw [hz2]; omega))
  rw [hk] at hr
  have hge := grownCap_ge w (L.length + 1) cap 30
  have hle := grownCap_le_maxLen w (L.length + 1) cap 30 (by unfold maxLen; omega)
  refine ⟨_, _, hr, ?_, ?_, hge, hle⟩
  · have hz : (Value.agg #[.int .i64 0, .int .i64 0, .string ⟨#[]⟩]).cells.size = 3 := rfl
    simp only [Array.size_append, List.size_toArray, hft, size_zeroCells, hz]
    omega
  · simp only [Array.toList_append, List.append_assoc]
    rw [List.take_left' hft]

theorem two_copies' (A : List Value) (L : List (Int × Int × ByteArray)) (i : Nat) (e : Int × Int × ByteArray) (hi : i ≤ L.length) (hA : A.take (i * 3) = flat (L.take i)) (hl : (L.length + 1) * 3 ≤ A.length) (A1 : List Value)
    (h1 : A1 = A.take (i * 3) ++ flat [e] ++ A.drop (i * 3 + [e].length * 3)) :
    (A1.take ((i + 1) * 3) ++ flat (L.drop i) ++ A1.drop ((i + 1) * 3 + (L.drop i).length * 3)).take ((L.length + 1) * 3) = flat (ins L i e) ∧ (A1.take ((i + 1) * 3) ++ flat (L.drop i) ++ A1.drop ((i + 1) * 3 + (L.drop i).length * 3)).length = A.length ∧ A1.length = A.length := by
  have hd : (L.drop i).length = L.length - i := List.length_drop ..
  have hft : (flat (L.take i)).length = i * 3 := by rw [flat_len, List.length_take]; omega
  have hfd : (flat (L.drop i)).length = (L.length - i) * 3 := by rw [flat_len, hd]
  rw [hA, flat_one] at h1
  have hA1 : A1.length = A.length := by rw [h1]; simp only [List.length_append, hft, cel_len, List.length_drop, List.length_singleton]; omega
  have e1 : A1.take ((i + 1) * 3) = flat (L.take i) ++ cel e := by
    rw [h1, List.take_left' (by simp only [List.length_append, hft, cel_len]; omega)]
  rw [e1]
  refine ⟨?_, ?_, hA1⟩
  · rw [List.take_left' (by simp only [List.length_append, hft, hfd, cel_len]; omega), flat_ins, List.append_assoc]
  · simp only [List.length_append, hft, hfd, cel_len, List.length_drop, hd, hA1]; omega

set_option maxRecDepth 100000 in
set_option maxHeartbeats 2000000 in
theorem insert_grow (B g vb cap i : Nat) (L : List (Int × Int × ByteArray)) (e : Int × Int × ByteArray) (hi : i < L.length) (hl : L.length ≤ 1048576) (hroom : cap < L.length + 1) (w : World) (hB : B ≤ w.heap.size) (h : Own B (some ⟨g, 0, none⟩) cap w L)
    (hv : w.heap[vb]? = some (.cells (flat [e]).toArray 30 (0, 0))) :
    Calls Try.prog 69 #[.slice (some ⟨g, 0, none⟩) L.length cap, .int .i64 (i : Int), .slice (some ⟨vb, 0, none⟩) 1 1] w fun x w' => ∃ v, x = .returned v ∧ Ins B (some ⟨g, 0, none⟩) w w' (ins L i e) v := by
  have hcap : L.length ≤ cap := by
    rcases h.2 with ⟨hv, e⟩ | ⟨g, c, cur, hv, _, _, hc, _⟩
    · omega
    · simp only [Value.slice.injEq] at hv; omega
  obtain ⟨k, hk⟩ : ∃ k, i + k = L.length + 1 := ⟨L.length + 1 - i, by omega⟩
  obtain ⟨nc, cur, hr, hsz, htk, hnc, hncm⟩ := run_room hl hi hk hroom h
  have hD : (L.drop i).length = L.length - i := List.length_drop ..
  have hcells := World.ownsRow.cells h (g := g) rfl
  have hgl : g < w.heap.size := by
    obtain ⟨g', hg', _, hlt⟩ := own_some h (by omega)
    cases hg'; exact hlt
  have hvl := lt_of_block hv
  obtain ⟨w4, hw4⟩ : ∃ x, x = w.drew.alloc (.cells cur 30) := ⟨_, rfl⟩
  rw [← hw4] at hr
  have h4o : w4.os = w.os ∧ w4.tape = w.tape ∧ w4.output = w.output := by rw [hw4]; exact ⟨rfl, rfl, rfl⟩
  have h4g : w4.heap[w.heap.size]? = some (.cells cur 30 (0, 0)) := by rw [hw4]; exact heap_alloc_new w.drew _
  have h4k : ∀ k, k < w.heap.size → w4.heap[k]? = w.heap[k]? := fun k hk => by rw [hw4]; exact heap_alloc_old w.drew _ hk
  have h4s : w4.heap.size = w.heap.size + 1 := by rw [hw4]; show (w.drew.alloc _).heap.size = _; simp
  clear hw4
  obtain ⟨A1, hA1⟩ : ∃ A1, A1 = cur.toList.take (i * 3) ++ flat [e] ++ cur.toList.drop (i * 3 + [e].length * 3) := ⟨_, rfl⟩
  obtain ⟨t1, t2, t3⟩ := two_copies' cur.toList L i e (by omega) htk (by simp only [Array.length_toList]; omega) A1 hA1
  obtain ⟨A2, hA2⟩ : ∃ A2, A2 = A1.take ((i + 1) * 3) ++ flat (L.drop i) ++ A1.drop ((i + 1) * 3 + (L.drop i).length * 3) := ⟨_, rfl⟩
  rw [← hA2] at t1 t2
  have hcl : cur.toList.length = nc * 3 := by rw [Array.length_toList, hsz]
  have hcp1 : ∀ ty dc, (Builtin.copy_ #[25, 25] ty #[.slice (some ⟨w.heap.size, i * 3, none⟩) (L.length + 1 - i) dc, .slice (some ⟨vb, 0, none⟩) 1 1]).run Try.prog w4 = .ok (goInt ([e].length : Nat)) (w4.setRow w.heap.size A1.toArray) := fun ty dc => by
    rw [hA1]
    refine run_copy3 w4 ty _ _ _ dc ⟨vb, 0, none⟩ 1 1 cur [e] h4g (by simp only [List.length_singleton, Nat.min_def]; split <;> omega) (fun j u hj => ?_) (by simp only [List.length_singleton]; omega)
    rw [Go.WideShapes.add_plain]
    simp only [World.cell?, h4k vb hvl, hv]
    rw [Nat.zero_add]
    simpa using hj
  have h5g : (w4.setRow w.heap.size A1.toArray).heap[w.heap.size]? = some (.cells A1.toArray 30 (0, 0)) := setRow_heap w4 _ cur _ _ _ h4g
  have hcp2 : ∀ ty dc sc, (Builtin.copy_ #[25, 25] ty #[.slice (some ⟨w.heap.size, (i + 1) * 3, none⟩) (L.length - i) dc, .slice (some ⟨g, i * 3, none⟩) (L.length - i) sc]).run Try.prog (w4.setRow w.heap.size A1.toArray).drew = .ok (goInt (L.drop i).length) ((w4.setRow w.heap.size A1.toArray).drew.setRow w.heap.size A2.toArray) := fun ty dc sc => by
    rw [hA2]
    refine run_copy3 _ ty _ _ _ dc ⟨g, i * 3, none⟩ _ sc A1.toArray (L.drop i) h5g (by rw [hD]; simp only [Nat.min_def]; split <;> omega) (fun j u hj => ?_) (by rw [hD]; simp only [List.size_toArray]; omega)
    rw [← drop_flat L i (by omega), List.getElem?_drop] at hj
    have := hcells _ _ hj
    rw [Go.WideShapes.add_plain] at this ⊢
    rw [show 0 + (i * 3 + j) = i * 3 + j by omega] at this
    have hg5 : (w4.setRow w.heap.size A1.toArray).drew.heap[g]? = w.heap[g]? := (setRow_other w4 _ g _ (by omega)).trans (h4k g hgl)
    simp only [World.cell?, hg5]
    exact this
  have HI : Hid (∀ W : World, W.heap = ((w4.setRow w.heap.size A1.toArray).setRow w.heap.size A2.toArray).heap → W.os = w4.os → W.tape = w4.tape → W.output = w4.output → Ins B (some ⟨g, 0, none⟩) w W (ins L i e) (.slice (some ⟨w.heap.size, 0, none⟩) (L.length + 1) nc)) := by
    intro W hW h1 h2 h3
    have hgW : W.heap[w.heap.size]? = some (.cells A2.toArray 30 (0, 0)) := by rw [hW]; exact setRow_heap _ _ _ _ _ _ h5g
    refine ⟨some ⟨w.heap.size, 0, none⟩, nc, by rw [ins_len L i e (by omega)], ⟨flat_len _, .inr ⟨w.heap.size, nc, A2.toArray, rfl, hB, hgW, by rw [ins_len L i e (by omega)]; exact hnc, hncm, ?_, ?_⟩⟩, ⟨h1.trans h4o.1, h2.trans h4o.2.1, h3.trans h4o.2.2, ?_, fun k hk _ => ?_⟩, fun g' h => Or.inr (by simp at h; omega)⟩
    · simp only [List.size_toArray]; rw [t2, hcl]
    · rw [ins_len L i e (by omega)]; exact t1
    · rw [hW]; simp [World.setRow]; omega
    · rw [hW, setRow_other _ _ k _ (by omega), setRow_other _ _ k _ (by omega)]; exact h4k k hk
  clear t1 t2 t3 hA1 hA2 hcells h hv h5g h4g h4k h4s h4o htk hncm hcl hsz
  have hkc : (L.length : Int) + 1 - (i : Int) = (k : Int) := by omega
  have hw1 : IntKind.i64.wrap ((i : Int) + 1) = (i : Int) + 1 := by rw [IntKind.wrap_i64]; omega
  have hbb : (i : Int) + 1 ≤ (L.length : Int) + 1 := by omega
  have hb3 : (i : Int) ≤ (L.length : Int) + 1 := by omega
  have hb1 : (0 : Int) ≤ (i : Int) + 1 := by omega
  have hb5 : ¬ nc = i + 1 := by omega
  have hb6 : ¬ nc = i := by omega
  have hb4 : ¬ (cap = i) := by omega
  have hbc : (cap : Int) < (L.length : Int) + 1 := by omega
  have hne0 : ((i : Int) == (L.length : Int)) = false := by rw [beq_eq_false_iff_ne]; omega
  go_enter Try.func69, Try.ntmps69
  go_wp2_with (at_builtin; refine Lib.wpList_append_run _ rfl _ _ _ _ rfl _ _ rfl rfl _ _ hr ?_)
  go_region
  all_goals (try go_wp2)
  all_goals go_ret
  all_goals exact ⟨_, rfl, HI.out _ rfl rfl rfl rfl⟩

theorem insert_any (B vb cap i : Nat) (ad : Option Addr) (L : List (Int × Int × ByteArray)) (e : Int × Int × ByteArray) (hi : i ≤ L.length) (hl : L.length ≤ 1048576) (w : World) (hB : B ≤ w.heap.size) (h : Own B ad cap w L) (hne : ad.map (·.block) ≠ some vb)
    (hv : w.heap[vb]? = some (.cells (flat [e]).toArray 30 (0, 0))) :
    Calls Try.prog 69 #[.slice ad L.length cap, .int .i64 (i : Int), .slice (some ⟨vb, 0, none⟩) 1 1] w fun x w' => ∃ v, x = .returned v ∧ Ins B ad w w' (ins L i e) v := by
  by_cases hlt : i < L.length
  · obtain ⟨g, rfl, _, _⟩ := own_some h (by omega)
    by_cases hroom : L.length + 1 ≤ cap
    · exact insert_room B g vb cap i L e hlt hl hroom w h (fun e => hne (by simp [e])) hv
    · exact insert_grow B g vb cap i L e hlt hl (by omega) w hB h hv
  · obtain rfl : i = L.length := by omega
    refine insert_end B ad vb cap L e hl w hB h fun j u hj => ?_
    rw [Go.WideShapes.add_plain, Nat.zero_add]
    simp only [World.cell?, hv]
    simpa using hj

theorem ins_split {B : Nat} {ad : Option Addr} {W w1 : World} {L' : List (Int × Int × ByteArray)} {v : Value} (hI : Ins B ad W w1 L' v) : ∃ ad' cap', v = .slice ad' L'.length cap' := by
  obtain ⟨ad', cap', h, _⟩ := hI
  exact ⟨ad', cap', h⟩
theorem ins_cell {B b cap : Nat} {ad : Option Addr} {W w1 : World} {L L' : List (Int × Int × ByteArray)} {v : Value} (hI : Ins B ad W w1 L' v) (h : IsL B b ad cap W L) : w1.heap[b]? = some (.cells #[.slice ad L.length cap] 114 (0, 0)) := by
  obtain ⟨ad', cap', rfl, ho, hg, hf⟩ := hI
  exact (hg.block b (lt_of_block h.blk) (fun e => own_apart h.own h.blk e.symm)).trans h.blk
theorem now_ins {B b cap : Nat} {ad : Option Addr} {w W w1 : World} {L L' : List (Int × Int × ByteArray)} {v : Value} (hb : Below w.heap.size w W) (h : IsL B b ad cap W L) (hI : Ins B ad W w1 L' v) : Now B b ad w (w1.setCell ⟨b, 0, none⟩ v) L' := by
  have hc := ins_cell hI h
  obtain ⟨ad', cap', rfl, ho, hg, hf⟩ := hI
  obtain ⟨a1, c1, h1, hu, hfr⟩ := now_store h.low ho hc hg hf L'.length rfl
  exact ⟨a1, c1, h1, ⟨hu.os.trans hb.os, hu.tape.trans hb.tape, hu.output.trans hb.output, Nat.le_trans hb.size hu.size, fun k hk h1 h2 => (hu.block k (Nat.lt_of_lt_of_le hk hb.size) h1 h2).trans (hb.block k hk)⟩, fun g hg => (hfr g hg).imp id fun h => Nat.le_trans hb.size h⟩

set_option maxRecDepth 100000 in
theorem insert_no (B b : Nat) (ad : Option Addr) (cap : Nat) (L : List (Int × Int × ByteArray)) (k n : Int) (s : ByteArray) (i : Int) (hi : 0 ≤ i) (hle : i ≤ L.length) (hl : 1048576 ≤ L.length) (hl2 : L.length ≤ 2000000) (w : World) (h : IsL B b ad cap w L) :
    Calls Try.prog 18 #[.pointer (some ⟨b, 0, none⟩), .int .i64 i, .agg #[.int .i64 k, .int .i64 n, .string s]] w fun e w' => e = .returned (.int .i64 2) ∧ Below w.heap.size w w' := by
  have hbe : Below w.heap.size w (w.alloc (.cells #[.int .i64 k, .int .i64 n, .string s] 30)) := (Below.refl _ _).alloc (Nat.le_refl _) _
  obtain ⟨c0, z0⟩ := isL_cell (isL_below h hbe)
  have h' : (1048576 : Int) ≤ (L.length : Int) := by omega
  have h3 : ¬ i < 0 := by omega
  have h4 : ¬ (L.length : Int) < i := by omega
  clear h hl hl2 hi hle
  go_enter Try.func18, Try.ntmps18
  go_wp2_with fail
  go_ret
  exact ⟨rfl, hbe⟩
set_option maxRecDepth 100000 in
theorem insert_out (B b : Nat) (ad : Option Addr) (cap : Nat) (L : List (Int × Int × ByteArray)) (k n : Int) (s : ByteArray) (i : Int) (hi : i < 0 ∨ (L.length : Int) < i) (w : World) (h : IsL B b ad cap w L) :
    Calls Try.prog 18 #[.pointer (some ⟨b, 0, none⟩), .int .i64 i, .agg #[.int .i64 k, .int .i64 n, .string s]] w fun e w' => e = .returned (.int .i64 1) ∧ Below w.heap.size w w' := by
  have hbe : Below w.heap.size w (w.alloc (.cells #[.int .i64 k, .int .i64 n, .string s] 30)) := (Below.refl _ _).alloc (Nat.le_refl _) _
  obtain ⟨c0, z0⟩ := isL_cell (isL_below h hbe)
  clear h
  by_cases h0 : i < 0
  · clear hi
    go_enter Try.func18, Try.ntmps18
    go_wp2_with fail
    go_ret
    exact ⟨rfl, hbe⟩
  · have h1 : (L.length : Int) < i := by omega
    clear hi
    go_enter Try.func18, Try.ntmps18
    go_wp2_with fail
    go_ret
    exact ⟨rfl, hbe⟩

set_option maxRecDepth 100000 in
set_option maxHeartbeats 8000000 in
theorem linsert_any (B b : Nat) (ad : Option Addr) (cap : Nat) (L : List (Int × Int × ByteArray)) (k n : Int) (s : ByteArray) (i : Nat) (hi : i ≤ L.length) (hl : L.length < 1048576) (w : World) (hB : B ≤ w.heap.size) (h : IsL B b ad cap w L) :
    Calls Try.prog 18 #[.pointer (some ⟨b, 0, none⟩), .int .i64 (i : Int), .agg #[.int .i64 k, .int .i64 n, .string s]] w fun e w' => e = .returned (.int .i64 0) ∧ Now B b ad w w' (ins L i (k, n, s)) := by
  have hb1 : Below w.heap.size w (w.alloc (.cells #[.int .i64 k, .int .i64 n, .string s] 30)) := (Below.refl _ _).alloc (Nat.le_refl _) _
  have hb2 : Below w.heap.size w (w.alloc (.cells #[.int .i64 k, .int .i64 n, .string s] 30)).drew := hb1.drew
  have hb3 : Below w.heap.size w ((w.alloc (.cells #[.int .i64 k, .int .i64 n, .string s] 30)).alloc (.cells #[.int .i64 k, .int .i64 n, .string s] 30)).drew := (hb1.alloc (by simp) _).drew
  obtain ⟨c0, z0⟩ := isL_cell (isL_below h hb1)
  obtain ⟨e0, y0⟩ := isL_cell (isL_below h hb2)
  have HL := Lib.hid (isL_below h hb3)
  have HB := Lib.hid hb3
  obtain ⟨f0, x0⟩ := isL_cell (isL_below h hb3)
  have hvb : ((w.alloc (.cells #[.int .i64 k, .int .i64 n, .string s] 30)).alloc (.cells #[.int .i64 k, .int .i64 n, .string s] 30)).drew.heap[w.heap.size + 1]? = some (.cells #[.int .i64 k, .int .i64 n, .string s] 30) := by
    have := heap_alloc_new (w.alloc (.cells #[.int .i64 k, .int .i64 n, .string s] 30)) (.cells #[.int .i64 k, .int .i64 n, .string s] 30)
    rw [show (w.alloc (.cells #[.int .i64 k, .int .i64 n, .string s] 30)).heap.size = w.heap.size + 1 by simp] at this
    exact this
  have hap : ad.map (·.block) ≠ some (w.heap.size + 1) := by
    intro e
    obtain ⟨cur, hc⟩ := own_block (isL_below h hb1).own _ e
    have := lt_of_block hc
    have e2 : (w.alloc (.cells #[.int .i64 k, .int .i64 n, .string s] 30)).heap.size = w.heap.size + 1 := by simp
    omega
  have HI := Lib.hid (insert_any B _ cap i ad L (k, n, s) hi (by omega) _ (by have := hb3.size; omega) HL.out.own hap hvb)
  have h' : ¬ (1048576 : Int) ≤ (L.length : Int) := by omega
  have h3 : ¬ (i : Int) < 0 := by omega
  have h4 : ¬ (L.length : Int) < (i : Int) := by omega
  clear h hb1 hb2 hb3 hvb hap hl hi
  go_enter Try.func18, Try.ntmps18
  go_wp2_with fail
  go_region_with (go_at_call 69; with_reducible refine HI.out.mono ?_; rintro x w1 ⟨v, rfl, hI⟩; obtain ⟨ad', cap', hv⟩ := ins_split hI; generalize hq : (ins L i (k, n, s)).length = q at hv; rw [hv] at hI ⊢; clear hv hq; have hc := ins_cell hI HL.out; have g0 := cell_of_one hc; have g1 := free_of_one hc; have HN := Lib.hid (now_ins HB.out HL.out hI); clear hI hc)
  all_goals (try go_wp2)
  all_goals go_ret
  all_goals exact ⟨rfl, HN.out⟩
end Go.Proofs.Ytfngndbpgegnaaa.Li
