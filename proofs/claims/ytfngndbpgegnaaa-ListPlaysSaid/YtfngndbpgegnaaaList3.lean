/- slices.Insert of one value into a list's row. -/
import Derived.Test.YtfngndbpgegnaaaList2
import Derived.Shelf.Spec.SlicesInsert
import Derived.Deep.RegionLaw
namespace Go.Proofs.Ytfngndbpgegnaaa.Li
open Go.RowKit Go.ChangeShapes Go.WideShapes Go.ChangeAt Go.Proofs.Ytfngndbpgegnaaa.Va

theorem run_copy3 (w : World) (ty : TypeId) (g o dLen dCap : Nat) (a : Addr) (sLen sCap : Nat) (cur : Array Value) (M : List (Int × Int × ByteArray)) (hg : w.heap[g]? = some (.cells cur 30 (0, 0)))
    (hn : M.length = Nat.min sLen dLen) (hsrc : ∀ j u, (flat M)[j]? = some u → w.cell? (a.add j) = some u) (hfit : o + M.length * 3 ≤ cur.size) :
    (Builtin.copy_ #[25, 25] ty #[.slice (some ⟨g, o, none⟩) dLen dCap, .slice (some a) sLen sCap]).run Try.prog w = .ok (goInt M.length) (w.setRow g (cur.toList.take o ++ flat M ++ cur.toList.drop (o + M.length * 3)).toArray) := by
  obtain ⟨i0, hi, hz0, hz1, hz2⟩ := info_parts A.infoE
  have hl := run_firstCells_some (P := Try.prog) w 3 M.length a sLen sCap (flat M) (flat_len M) hsrc
  have hst := run_storeCells_at Try.prog g o 30 (flat M) 0 cur w hg (by rw [flat_len]; simpa using hfit) (flat_cells M)
  simp only [Nat.add_zero, flat_len] at hst
  simp [Builtin.copy_, run_underlying Try.underlying25, Builtin.lenOf, sizeOf, typeInfo, hi, hz1, ← hn, hl, hst]

theorem take_flat (L : List (Int × Int × ByteArray)) (i : Nat) (hi : i ≤ L.length) : (flat L).take (i * 3) = flat (L.take i) := by
  have h : flat L = flat (L.take i) ++ flat (L.drop i) := by rw [← flat_append, List.take_append_drop]
  rw [h, List.take_left' (by rw [flat_len, List.length_take]; omega)]
theorem drop_flat (L : List (Int × Int × ByteArray)) (i : Nat) (hi : i ≤ L.length) : (flat L).drop (i * 3) = flat (L.drop i) := by
  have h : flat L = flat (L.take i) ++ flat (L.drop i) := by rw [← flat_append, List.take_append_drop]
  rw [h, List.drop_left' (by rw [flat_len, List.length_take]; omega)]
def ins (L : List (Int × Int × ByteArray)) (i : Nat) (e : Int × Int × ByteArray) : List (Int × Int × ByteArray) := L.take i ++ e :: L.drop i
theorem ins_len (L : List (Int × Int × ByteArray)) (i : Nat) (e : Int × Int × ByteArray) (hi : i ≤ L.length) : (ins L i e).length = L.length + 1 := by
  unfold ins; rw [List.length_append, List.length_take, List.length_cons, List.length_drop]; omega
theorem flat_ins (L : List (Int × Int × ByteArray)) (i : Nat) (e : Int × Int × ByteArray) : flat (ins L i e) = flat (L.take i) ++ (cel e ++ flat (L.drop i)) := by
  unfold ins; rw [flat_append, flat_cons]
theorem cel_len (e : Int × Int × ByteArray) : (cel e).length = 3 := rfl
/-- The row behind both copies. -/
theorem two_copies (A : List Value) (L : List (Int × Int × ByteArray)) (i : Nat) (e : Int × Int × ByteArray) (hi : i ≤ L.length) (hA : A.take (L.length * 3) = flat L) (hl : (L.length + 1) * 3 ≤ A.length) (A1 : List Value)
    (h1 : A1 = A.take ((i + 1) * 3) ++ flat (L.drop i) ++ A.drop ((i + 1) * 3 + (L.drop i).length * 3)) :
    (A1.take (i * 3) ++ flat [e] ++ A1.drop (i * 3 + [e].length * 3)).take ((L.length + 1) * 3) = flat (ins L i e) ∧ (A1.take (i * 3) ++ flat [e] ++ A1.drop (i * 3 + [e].length * 3)).length = A.length := by
  have hd : (L.drop i).length = L.length - i := List.length_drop ..
  have ht : A.take (i * 3) = flat (L.take i) := by
    rw [← take_flat L i hi, ← hA, List.take_take]; congr 1; omega
  have hlen1 : (A.take ((i + 1) * 3)).length = (i + 1) * 3 := by rw [List.length_take]; omega
  have e1 : A1.take (i * 3) = flat (L.take i) := by
    rw [h1, List.append_assoc, List.take_append_of_le_length (by omega), List.take_take, show min (i * 3) ((i + 1) * 3) = i * 3 by omega, ht]
  have e2 : A1.drop (i * 3 + [e].length * 3) = flat (L.drop i) ++ A.drop ((i + 1) * 3 + (L.drop i).length * 3) := by
    rw [h1, List.append_assoc, List.drop_left' (by rw [hlen1]; simp; omega)]
  have hft : (flat (L.take i)).length = i * 3 := by rw [flat_len, List.length_take]; omega
  have hfd : (flat (L.drop i)).length = (L.length - i) * 3 := by rw [flat_len, hd]
  rw [e1, e2, flat_one]
  refine ⟨?_, ?_⟩
  · rw [List.append_assoc, ← List.append_assoc (cel e), ← List.append_assoc (flat (L.take i)), List.take_left' (by simp only [List.length_append, hft, hfd, cel_len]; omega), flat_ins]
  · simp only [List.length_append, hft, hfd, cel_len, List.length_drop, hd]; omega

/-- What slices.Insert leaves. -/
def Ins (B : Nat) (ad : Option Addr) (w w' : World) (L : List (Int × Int × ByteArray)) (v : Value) : Prop :=
  ∃ ad' cap', v = .slice ad' L.length cap' ∧ Own B ad' cap' w' L ∧ w.grownBy w' (ad.map (·.block)) ∧ ∀ g, ad'.map (·.block) = some g → ad.map (·.block) = some g ∨ w.heap.size ≤ g

set_option maxRecDepth 100000 in
theorem insert_end (B : Nat) (ad : Option Addr) (vb cap : Nat) (L : List (Int × Int × ByteArray)) (e : Int × Int × ByteArray) (hl : L.length ≤ 1048576) (w : World) (hB : B ≤ w.heap.size) (h : Own B ad cap w L) (hv : ∀ j u, (flat [e])[j]? = some u → w.cell? ((⟨vb, 0, none⟩ : Addr).add j) = some u) :
    Calls Try.prog 69 #[.slice ad L.length cap, .int .i64 (L.length : Int), .slice (some ⟨vb, 0, none⟩) 1 1] w fun x w' => ∃ v, x = .returned v ∧ Ins B ad w w' (ins L L.length e) v := by
  obtain ⟨ad', cap', w4, hr, hown, hgr, hfr⟩ := run_push (c := 1) (M := [e]) (by simp; omega) hB h hv
  have hI : ins L L.length e = L ++ [e] := by unfold ins; rw [List.take_length, List.drop_length]
  have hcap : L.length ≤ cap := by
    rcases h.2 with ⟨hv, e⟩ | ⟨g, c, cur, hv, _, _, hc, _⟩
    · omega
    · simp only [Value.slice.injEq] at hv; omega
  have HI : Hid (Ins B ad w w4 (ins L L.length e) (.slice ad' (L ++ [e]).length cap')) := by rw [hI]; exact ⟨ad', cap', rfl, hown, hgr, hfr⟩
  clear hown hgr hfr hI h hv
  simp only [List.length_append, List.length_cons, List.length_nil, Nat.zero_add] at hr HI
  go_enter Try.func69, Try.ntmps69
  go_wp2_with (at_builtin; refine Lib.wpList_append_run _ rfl _ _ _ _ rfl _ _ rfl rfl _ _ hr ?_)
  all_goals (try go_ret)
  all_goals exact ⟨_, rfl, HI.out⟩

set_option maxRecDepth 100000 in
set_option maxHeartbeats 2000000 in
theorem insert_room (B g vb cap i : Nat) (L : List (Int × Int × ByteArray)) (e : Int × Int × ByteArray) (hi : i < L.length) (hl : L.length ≤ 1048576) (hroom : L.length + 1 ≤ cap) (w : World) (h : Own B (some ⟨g, 0, none⟩) cap w L) (hne : vb ≠ g)
    (hv : w.heap[vb]? = some (.cells (flat [e]).toArray 30 (0, 0))) :
    Calls Try.prog 69 #[.slice (some ⟨g, 0, none⟩) L.length cap, .int .i64 (i : Int), .slice (some ⟨vb, 0, none⟩) 1 1] w fun x w' => ∃ v, x = .returned v ∧ Ins B (some ⟨g, 0, none⟩) w w' (ins L i e) v := by
  have hown := h
  obtain ⟨_, h2⟩ := h
  rcases h2 with ⟨hx, _⟩ | ⟨g', c', cur, hx, hBg, hg, hnc, hcm, hcs, htake⟩
  · cases hx
  simp only [Value.slice.injEq, Option.some.injEq, Addr.mk.injEq, and_true, true_and] at hx
  obtain ⟨rfl, rfl⟩ := hx
  have hD : (L.drop i).length = L.length - i := List.length_drop ..
  have hcells := World.ownsRow.cells hown (g := g) rfl
  have hcp1 : ∀ (W : World), W.heap = w.heap → ∀ ty dc sc, (Builtin.copy_ #[25, 25] ty #[.slice (some ⟨g, (i + 1) * 3, none⟩) (L.length - i) dc, .slice (some ⟨g, i * 3, none⟩) (L.length + 1 - i) sc]).run Try.prog W = .ok (goInt (L.drop i).length) (W.setRow g (cur.toList.take ((i + 1) * 3) ++ flat (L.drop i) ++ cur.toList.drop ((i + 1) * 3 + (L.drop i).length * 3)).toArray) := fun W hW ty dc sc =>
    run_copy3 W ty g _ _ dc ⟨g, i * 3, none⟩ _ sc cur (L.drop i) (by rw [hW]; exact hg) (by rw [hD]; simp only [Nat.min_def]; split <;> omega) (fun j u hj => by
      rw [← drop_flat L i (by omega), List.getElem?_drop] at hj
      have := hcells _ _ hj
      rw [Go.WideShapes.add_plain] at this ⊢
      rw [show 0 + (i * 3 + j) = i * 3 + j by omega] at this
      rw [← this]; simp [World.cell?, hW]) (by rw [hD, hcs]; omega)
  obtain ⟨A1, hA1⟩ : ∃ A1, A1 = cur.toList.take ((i + 1) * 3) ++ flat (L.drop i) ++ cur.toList.drop ((i + 1) * 3 + (L.drop i).length * 3) := ⟨_, rfl⟩
  rw [← hA1] at hcp1
  obtain ⟨t1, t2⟩ := two_copies cur.toList L i e (by omega) htake (by simp only [Array.length_toList]; omega) A1 hA1
  obtain ⟨A2, hA2⟩ : ∃ A2, A2 = A1.take (i * 3) ++ flat [e] ++ A1.drop (i * 3 + [e].length * 3) := ⟨_, rfl⟩
  rw [← hA2] at t1 t2
  have hA1l : A1.length = cap * 3 := by
    have hl2 : cur.toList.length = cap * 3 := by rw [Array.length_toList, hcs]
    rw [hA1]; simp only [List.length_append, List.length_take, List.length_drop, flat_len, hl2]; omega
  have hg1 : (w.setRow g A1.toArray).heap[g]? = some (.cells A1.toArray 30 (0, 0)) := setRow_heap w g cur _ _ _ hg
  have hv1 : (w.setRow g A1.toArray).heap[vb]? = some (.cells (flat [e]).toArray 30 (0, 0)) := by rw [setRow_other w g vb _ hne]; exact hv
  have hcp2 : ∀ (W : World), W.heap = (w.setRow g A1.toArray).heap → ∀ ty dc, (Builtin.copy_ #[25, 25] ty #[.slice (some ⟨g, i * 3, none⟩) (L.length + 1 - i) dc, .slice (some ⟨vb, 0, none⟩) 1 1]).run Try.prog W = .ok (goInt ([e].length : Nat)) (W.setRow g A2.toArray) := fun W hW ty dc => by
    rw [hA2]
    refine run_copy3 W ty g _ _ dc ⟨vb, 0, none⟩ 1 1 A1.toArray [e] (by rw [hW]; exact hg1) (by simp only [List.length_singleton, Nat.min_def]; split <;> omega) (fun j u hj => ?_) (by simp; omega)
    rw [Go.WideShapes.add_plain]
    simp only [World.cell?, hW, hv1]
    rw [Nat.zero_add]
    simpa using hj
  have hsz : ∀ w, (Go.sizeOf 30).run Try.prog w = .ok 3 w := fun w => by
    obtain ⟨i0, hi0, hz0, hz1, hz2⟩ := info_parts A.infoE
    simp [sizeOf, typeInfo, hi0, hz1]
  have hov : ∀ lb cb, (callFunc 102 #[.slice (some ⟨vb, 0, none⟩) 1 1, .slice (some ⟨g, (i + 1) * 3, none⟩) lb cb]).run Try.prog w = .ok (.value (.bool false)) w := fun lb cb => by
    rw [run_callFunc_extern Try.func102 (by kernel_rfl) (by kernel_rfl) (by kernel_rfl) (e := Extern.SlicesOverlaps.overlaps #[25, 25] #[4]) (by kernel_rfl),
      Lib.run_overlaps_apart w 25 4 30 Try.underlying25 3 hsz ⟨vb, 0, none⟩ ⟨g, (i + 1) * 3, none⟩ 1 1 lb cb hne 30 30 3 cur.size (by simp [World.shape?, hv, flat_one, cel]) (by simp [World.shape?, hg]) (by omega) (by simp [World.frozen?, hv]) (by simp [World.frozen?, hv])]
    rfl
  have HI : Hid (∀ W : World, W.heap = ((w.setRow g A1.toArray).setRow g A2.toArray).heap → W.os = w.os → W.tape = w.tape → W.output = w.output → Ins B (some ⟨g, 0, none⟩) w W (ins L i e) (.slice (some ⟨g, 0, none⟩) (L.length + 1) cap)) := by
    intro W hW h1 h2 h3
    have hgW : W.heap[g]? = some (.cells A2.toArray 30 (0, 0)) := by rw [hW]; exact setRow_heap _ g _ _ _ _ hg1
    refine ⟨some ⟨g, 0, none⟩, cap, by rw [ins_len L i e (by omega)], ⟨flat_len _, .inr ⟨g, cap, A2.toArray, rfl, hBg, hgW, by rw [ins_len L i e (by omega)]; exact hroom, hcm, ?_, ?_⟩⟩, ⟨h1, h2, h3, ?_, fun k hk hne' => ?_⟩, fun g' h => Or.inl h⟩
    · simp only [List.size_toArray]; rw [t2, Array.length_toList, hcs]
    · rw [ins_len L i e (by omega)]; exact t1
    · rw [hW]; simp [World.setRow]
    · have hkg : k ≠ g := fun e => hne' (by simp [e])
      rw [hW, setRow_other _ g k _ hkg, setRow_other _ g k _ hkg]
  clear t1 t2 hA1 hA2 hA1l hcells htake hown hg hv hg1 hv1 hsz hBg hcm hcs
  have hw1 : IntKind.i64.wrap ((i : Int) + 1) = (i : Int) + 1 := by rw [IntKind.wrap_i64]; omega
  have hbb : (i : Int) + 1 ≤ (L.length : Int) + 1 := by omega
  have hb3 : (i : Int) ≤ (L.length : Int) + 1 := by omega
  have hb1 : (0 : Int) ≤ (i : Int) + 1 := by omega
  have htn : ((i : Int) + 1).toNat = i + 1 := by omega
  have hb2 : ¬ (cap = i + 1) := by omega
  have hb4 : ¬ (cap = i) := by omega
  have hne0 : ((i : Int) == (L.length : Int)) = false := by rw [beq_eq_false_iff_ne]; omega
  go_enter Try.func69, Try.ntmps69
  have hcpA := hcp1 w.drew rfl
  have hcpB := hcp2 (w.drew.setRow g A1.toArray) rfl
  clear hcp1 hcp2
  go_wp2_with (simp only [hov])
  go_region
  all_goals (try go_wp2)
  all_goals go_ret
  all_goals exact ⟨_, rfl, HI.out _ rfl rfl rfl rfl⟩
end Go.Proofs.Ytfngndbpgegnaaa.Li
