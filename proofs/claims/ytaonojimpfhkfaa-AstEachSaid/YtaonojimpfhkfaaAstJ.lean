/- Clone, Root. -/
import Derived.Test.YtaonojimpfhkfaaAstI
namespace Go.Proofs.Ytaonojimpfhkfaa.As
open Go.RowKit Go.ChangeShapes Go.WideShapes Go.ChangeAt

theorem root_any {A : Option Addr} {cap N : Nat} {w : World} (hN : N ≤ 1000000) : Calls Try.prog 18 #[.agg #[.slice A N cap]] w fun e w' => e = .returned (.int .i64 ((N : Int) - 1)) ∧ Below w.heap.size w w' := by
  have hb := bel1 w (.cells #[.slice A N cap] 24)
  have HB := Lib.hid hb
  have hN2 : (N : Int) ≤ 1000000 := by omega
  clear hb
  go_enter Try.func18, Try.ntmps18
  go_wp2_with fail
  go_ret
  exact ⟨rfl, HB.out⟩
theorem A.infoT : (Try.prog.info? 24).map (·.size) = some 1 := by kernel_rfl
/-- What Clone answers. -/
def Cloned (w w' : World) (e : Ending) (L : List Nd) : Prop := ∃ A' c' M, e = .returned (.agg #[.slice A' M.length c']) ∧ Alk L M ∧ OwT w.heap.size A' c' w' M ∧ Below w.heap.size w w'
def NdBlk (w : World) (g : Nat) : Prop := ∃ cs, w.heap[g]? = some (.cells cs 37 (0, 0))
theorem NdBlk.set {w : World} {g o : Nat} {v : Value} (h : NdBlk w g) : NdBlk (w.setCell ⟨g, o, none⟩ v) g := by
  obtain ⟨cs, h⟩ := h
  exact ⟨_, heap_setCell_same w g o _ _ v h⟩
theorem own_setN {B size n g o : Nat} {ad : Option Addr} {cap : Nat} {w : World} {xs : List Value} {v : Value} (h : w.ownsRow B 3 size (.slice ad n cap) n xs) (hg : NdBlk w g) : (w.setCell ⟨g, o, none⟩ v).ownsRow B 3 size (.slice ad n cap) n xs := by
  obtain ⟨cs, hg⟩ := hg
  exact own_set h hg (by decide)
theorem own_fiveN {B size n g o : Nat} {ad : Option Addr} {cap : Nat} {w : World} {xs : List Value} {a b c d e : Value} (h : w.ownsRow B 3 size (.slice ad n cap) n xs) (hg : NdBlk w g) :
    (((((w.setCell ⟨g, o, none⟩ a).setCell ⟨g, o + 1, none⟩ b).setCell ⟨g, o + 2, none⟩ c).setCell ⟨g, o + 3, none⟩ d).setCell ⟨g, o + 4, none⟩ e).ownsRow B 3 size (.slice ad n cap) n xs :=
  own_setN (own_setN (own_setN (own_setN (own_setN h hg) hg.set) hg.set.set) hg.set.set.set) hg.set.set.set.set
theorem blk_fiveN {g g' o : Nat} {w : World} {ob : Obj} {a b c d e : Value} (h : w.heap[g']? = some ob) (hne : g' ≠ g) :
    (((((w.setCell ⟨g, o, none⟩ a).setCell ⟨g, o + 1, none⟩ b).setCell ⟨g, o + 2, none⟩ c).setCell ⟨g, o + 3, none⟩ d).setCell ⟨g, o + 4, none⟩ e).heap[g']? = some ob :=
  blk_far (blk_far (blk_far (blk_far (blk_far h hne _) hne _) hne _) hne _) hne _
theorem below_fiveN {B g o : Nat} {w w' : World} (h : Below B w w') (hg : B ≤ g) (a b c d e : Value) :
    Below B w (((((w'.setCell ⟨g, o, none⟩ a).setCell ⟨g, o + 1, none⟩ b).setCell ⟨g, o + 2, none⟩ c).setCell ⟨g, o + 3, none⟩ d).setCell ⟨g, o + 4, none⟩ e) :=
  ((((h.setCell (p := ⟨g, o, none⟩) hg _).setCell (p := ⟨g, o + 1, none⟩) hg _).setCell (p := ⟨g, o + 2, none⟩) hg _).setCell (p := ⟨g, o + 3, none⟩) hg _).setCell (p := ⟨g, o + 4, none⟩) hg _
theorem ownN_facts {lo g c : Nat} {w : World} {L : List Nd} (h : OwN lo (some ⟨g, 0, none⟩) c w L) {j : Nat} {n : Nd} (hn : L[j]? = some n) :
    (w.cell? ⟨g, j * 5, none⟩ = some (.int .i64 n.kind) ∧ w.cell? ⟨g, j * 5 + 1, none⟩ = some (.int .i64 n.loc) ∧ w.cell? ⟨g, j * 5 + 2, none⟩ = some (.string n.text) ∧ w.cell? ⟨g, j * 5 + 3, none⟩ = some (.int .i64 n.num) ∧ w.cell? ⟨g, j * 5 + 4, none⟩ = some (.slice n.ka n.kids.length n.kc)) ∧
    (∀ o, w.frozen? ⟨g, o, none⟩ = false) ∧ NdBlk w g ∧ lo ≤ g ∧ g < w.heap.size := by
  have hj := get_lt hn
  have cell : ∀ k, k < 5 → w.cell? ⟨g, j * 5 + k, none⟩ = (celN n)[k]? := fun k hk =>
    (World.ownsRow.cellAt (n := L.length) (size := 5) h (j * 5 + k) (by omega)).trans (flatN_at hn k hk)
  refine ⟨⟨cell 0 (by omega), cell 1 (by omega), cell 2 (by omega), cell 3 (by omega), cell 4 (by omega)⟩, ?_⟩
  rcases h.2 with ⟨hv, _⟩ | ⟨g', cap', cur, hv, hb, hg, _⟩
  · simp at hv
  · obtain rfl : g = g' := by simpa using (Value.slice.inj hv).1
    exact ⟨fun o => blk_free hg, ⟨_, hg⟩, hb, lt_of_block hg⟩
/-- How far a clone has come. -/
structure Cln (lo k bx : Nat) (A' : Option Addr) (c' : Nat) (w wr : World) (L M : List Nd) : Prop where
  n : OwN lo A' c' wr M
  l : M.length = L.length
  d : ∀ (j : Nat) (n : Nd), L[j]? = some n → j < k → ∃ a c, M[j]? = some (n.at a c) ∧ OwI lo a c wr n.kids
  r : ∀ (j : Nat), k ≤ j → M[j]? = L[j]?
  x : wr.heap[bx]? = some (.cells #[.slice none 0 0] 24 (0, 0))
  z : Below w.heap.size w wr
set_option maxRecDepth 100000 in
set_option maxHeartbeats 8000000 in
theorem clone_tree {A : Option Addr} {cap B : Nat} {w : World} {L : List Nd} (hT : Tr w B A L) (hB : B ≤ w.heap.size) (hs : Szd L) :
    Calls Try.prog 16 #[.agg #[.slice A L.length cap]] w fun e w' => Cloned w w' e L := by
  have HT := Lib.hid hT
  have HS := Lib.hid hs
  have HB := Lib.hid hB
  have HZ := Lib.hid (bel2 w (.cells #[.slice A L.length cap] 24) (.cells #[.slice none 0 0] 24))
  have HX := Lib.hid (new2 w (.cells #[.slice A L.length cap] 24) (.cells #[.slice none 0 0] 24))
  clear hT hs hB
  go_enter Try.func16, Try.ntmps16
  go_wp2_with fail
  generalize (w.alloc (.cells #[.slice A L.length cap] 24)).alloc (.cells #[.slice none 0 0] 24) = w0 at *
  refine (copyN_any (HT.out.keep (w' := w0) (Nat.le_refl _) fun b hb => HZ.out.block b (by have := HB.out; omega)) HS.out.1).mono ?_
  rintro e w1 ⟨A', c', rfl, ho, hb⟩
  have HC0 : Hid (Cln w.heap.size 0 (w.heap.size + 1) A' c' w w1 L L) :=
    ⟨own_mono ho HZ.out.size, rfl, fun j n hn hj => by omega, fun j _ => rfl, (hb.block _ (lt_of_block HX.out)).trans HX.out, HZ.out.trans (hb.mono HZ.out.size)⟩
  obtain ⟨N, hN⟩ : ∃ N, L.length = N := ⟨_, rfl⟩
  have HN := Lib.hid hN
  have hNb : (N : Int) ≤ 1000000 := by have := HS.out.1; omega
  rw [hN]
  clear ho hb hN HX HZ
  go_wp2_with fail
  go_loopw [11] (fun i wr => ∃ (k : Nat) (M : List Nd), k ≤ N ∧ i = .int .i64 (k : Int) ∧ Hid (Cln w.heap.size k (w.heap.size + 1) A' c' w wr L M)) (fun i _ => N - (intOf i).toNat)
  case atStart => exact ⟨0, L, Nat.zero_le _, rfl, HC0.out⟩
  case round =>
    obtain ⟨k, M, hk, rfl, HC⟩ := hrel
    by_cases hlt : k < N
    · obtain ⟨n, hn⟩ := get_some (show k < L.length by have := HN.out; omega)
      have hM : M[k]? = some n := (HC.out.r k (Nat.le_refl _)).trans hn
      obtain ⟨g, rfl, hg1, hg2⟩ := own_some HC.out.n (by rw [HC.out.l]; have := HN.out; omega)
      obtain ⟨⟨m0, m1, m2, m3, m4⟩, _, _⟩ := ownN_facts HC.out.n hM
      have hsn := HS.out.2 n (List.mem_of_getElem? hn)
      have HSN := Lib.hid hsn
      have hb2 := bel1 wr (.cells #[.int .i64 n.kind, .int .i64 n.loc, .string n.text, .int .i64 n.num, .slice n.ka n.kids.length n.kc] 37)
      have hn2 := new1 wr (.cells #[.int .i64 n.kind, .int .i64 n.loc, .string n.text, .int .i64 n.num, .slice n.ka n.kids.length n.kc] 37)
      obtain ⟨⟨x0, x1, x2, x3, x4⟩, _⟩ := five_facts hn2
      have HW2 := Lib.hid hb2
      have HNL := Lib.hid hn
      have HMK := Lib.hid hM
      have HKN : Hid (RowI w B n.ka n.kids) := by
        obtain ⟨_, _, _, _, hat⟩ := HT.out.at_ hn
        exact hat.r
      have hOA : Hid (∀ W, Below w.heap.size w W → Calls Try.prog 36 #[nv n] W fun e w' => ∃ A' c', e = .returned (nv (n.at A' c')) ∧ OwI W.heap.size A' c' w' n.kids ∧ Below W.heap.size W w') := fun W hW =>
        own_any n (HKN.out.keep (w' := W) (Nat.le_refl _) fun b hb => hW.block b (by have := HB.out; omega)) (by have := HB.out; have := hW.size; omega) HSN.out.2.1 HSN.out.1
      have HOA := Lib.hid (hOA.out _ (HC.out.z.trans (hb2.mono HC.out.z.size)))
      unfold nv Nd.at at HOA
      simp only at HOA
      have hkl : (k : Int) < (N : Int) := by omega
      clear hn hM hsn hb2 hn2 hOA
      go_wp2_with fail
      refine HOA.out.mono ?_
      rintro e w3 ⟨A2, c2, rfl, ho2, hb3⟩
      have hz3 := HW2.out.trans (hb3.mono HW2.out.size)
      have hN3 : OwN w.heap.size (some ⟨g, 0, none⟩) c' w3 M := own_below HC.out.n hz3
      obtain ⟨⟨y0, y1, y2, y3, y4⟩, yf, ynb, _, _⟩ := ownN_facts hN3 HMK.out
      have f0 := yf (k * 5)
      have f1 := yf (k * 5 + 1)
      have f2 := yf (k * 5 + 2)
      have f3 := yf (k * 5 + 3)
      have f4 := yf (k * 5 + 4)
      have HZ3 := Lib.hid hz3
      have HN3 := Lib.hid hN3
      have HNB := Lib.hid ynb
      have HO2 := Lib.hid (own_mono ho2 (show w.heap.size ≤ _ by have := HC.out.z.size; have := HW2.out.size; omega))
      clear ho2 hb3 hz3 hN3 yf ynb m0 m1 m2 m3 m4 x0 x1 x2 x3 x4
      go_wp2_with fail
      go_roundw
      case rel =>
        refine ⟨k + 1, M.set k (n.at A2 c2), by omega, by go_num, ownN_set (n := n.at A2 c2) HN3.out k (by rw [HC.out.l, HN.out]; exact hlt), by rw [List.length_set]; exact HC.out.l, ?_, ?_, blk_fiveN ((HZ3.out.block _ (lt_of_block HC.out.x)).trans HC.out.x) (by
          rintro rfl
          obtain ⟨cs, hcs⟩ := HNB.out
          rw [(HZ3.out.block _ (lt_of_block HC.out.x)).trans HC.out.x] at hcs
          simp at hcs), below_fiveN (HC.out.z.trans (HZ3.out.mono HC.out.z.size)) hg1 _ _ _ _ _⟩
        · intro j p hp hj
          by_cases hjk : j = k
          · subst hjk
            rw [HNL.out, Option.some.injEq] at hp
            subst hp
            exact ⟨A2, c2, by rw [List.getElem?_set_self (by rw [HC.out.l, HN.out]; exact hlt)], own_fiveN HO2.out HNB.out⟩
          · obtain ⟨a, c, h1, h2⟩ := HC.out.d j p hp (by omega)
            exact ⟨a, c, by rw [List.getElem?_set_ne (Ne.symm hjk)]; exact h1, own_fiveN (own_below h2 HZ3.out) HNB.out⟩
        · intro j hj
          rw [List.getElem?_set_ne (by omega)]
          exact HC.out.r j (by omega)
      case measure => simp [intOf]; omega
    · have hke : k = N := by omega
      subst hke
      have hx := HC.out.x
      have hb1 := cell_of_one hx
      have hf1 : wr.frozen? ⟨w.heap.size + 1, 0, none⟩ = false := blk_free hx
      have HX := Lib.hid hx
      clear hx HC0
      go_wp2_with fail
      refine bodyPost_ret (results_one rfl _ _ (w.heap.size + 1) 24 #[.slice A' k c'] (0, 0) _ rfl (by rw [heap_setCell_same _ _ _ _ _ _ HX.out]; rfl) Try.underlying24 rfl As.A.infoT) rfl ?_
      have hl : M.length = k := by rw [HC.out.l, HN.out]
      refine ⟨A', c', M, by rw [hl], ⟨HC.out.l, fun j n hn => ?_⟩, ⟨own_set (o := 0) HC.out.n HX.out (by decide), fun n hn => ?_⟩, HC.out.z.setCell (p := ⟨w.heap.size + 1, 0, none⟩) (Nat.le_succ _) _⟩
      · obtain ⟨a, c, h1, _⟩ := HC.out.d j n hn (by have := get_lt hn; have := HN.out; omega)
        exact ⟨a, c, h1⟩
      · obtain ⟨j, hj⟩ := List.getElem?_of_mem hn
        obtain ⟨p, hp⟩ := get_some (show j < L.length by have := get_lt hj; have := HC.out.l; omega)
        obtain ⟨a, c, h1, h2⟩ := HC.out.d j p hp (by have := get_lt hp; have := HN.out; omega)
        rw [hj, Option.some.injEq] at h1
        subst h1
        exact own_set (o := 0) h2 HX.out (by decide)
end Go.Proofs.Ytaonojimpfhkfaa.As
