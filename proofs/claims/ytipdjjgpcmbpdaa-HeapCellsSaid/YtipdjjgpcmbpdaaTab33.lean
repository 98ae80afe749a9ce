/- Contract of table.Cells. -/
import Derived.Test.YtipdjjgpcmbpdaaTab32
set_option linter.unusedVariables false
namespace Go.Proofs.Ytipdjjgpcmbpdaa.Ta
open Go.RowKit Go.Shelf Go.ChangeShapes Go.WideShapes Go.ChangeAt Go.Proofs.Ytipdjjgpcmbpdaa.Va
attribute [local go_sem] Oper.semAt_some

/-- The cells among keys, among values. -/
def celK (L : List (Vl × Vl)) : List Int := L.flatMap fun p => cel1 p.1
def celV (L : List (Vl × Vl)) : List Int := L.flatMap fun p => cel1 p.2
theorem cel1_len (x : Vl) : (cel1 x).length ≤ 1 := by unfold cel1; split <;> simp
theorem celK_snoc (L : List (Vl × Vl)) (p : Vl × Vl) : celK (L ++ [p]) = celK L ++ cel1 p.1 := by unfold celK; rw [List.flatMap_append]; simp
theorem celV_snoc (L : List (Vl × Vl)) (p : Vl × Vl) : celV (L ++ [p]) = celV L ++ cel1 p.2 := by unfold celV; rw [List.flatMap_append]; simp
theorem celK_len : ∀ L : List (Vl × Vl), (celK L).length ≤ L.length
  | [] => Nat.le_refl _
  | p :: L => by have := celK_len L; have := cel1_len p.1; simp [celK] at *; omega
theorem celV_len : ∀ L : List (Vl × Vl), (celV L).length ≤ L.length
  | [] => Nat.le_refl _
  | p :: L => by have := celV_len L; have := cel1_len p.2; simp [celV] at *; omega
theorem ownI_down {B B' cap : Nat} {ad : Option Addr} {w : World} {L : List Int} (h : OwnI B ad cap w L) (hB : B' ≤ B) : OwnI B' ad cap w L := by
  refine ⟨h.1, ?_⟩
  rcases h.2 with h1 | ⟨g, c, cur, hv, hb, rest⟩
  · exact Or.inl h1
  · exact Or.inr ⟨g, c, cur, hv, Nat.le_trans hB hb, rest⟩
/-- What a round's call hands on, and what the append and the store behind it make of it. -/
theorem cells_call {n c B : Nat} {ds : List Nat} {w W : World} {L : List Int} (x : Vl) (hn : n ≤ w.heap.size) (hcn : n ≤ c) (hm : L.length ≤ 2000000) (hs : CellI n c ds w L W) {ad0 : Option Addr} {cap0 : Nat} (h0 : W.heap[c]? = some (.cells #[.slice ad0 L.length cap0] 46 (0, 0))) :
    Calls Try.prog 47 #[.slice (some ⟨W.heap.size, 0, none⟩) 1 1] (W.alloc (.cells #[.int .i64 x.1, .int .i64 x.2.1, .string x.2.2] 30)).drew fun e w9 => ∃ a cp ad' cap' w10, e = .returned (.slice a (cel1 x).length cp) ∧ w9.cell? ⟨c, 0, none⟩ = some (.slice ad0 L.length cap0) ∧
      (Builtin.append_ #[46, 46] 46 #[.slice ad0 L.length cap0, .slice a (cel1 x).length cp]).run Try.prog w9 = .ok (.slice ad' (L.length + (cel1 x).length) cap') w10 ∧ w10.cell? ⟨c, 0, none⟩ = some (.slice ad0 L.length cap0) ∧ w10.frozen? ⟨c, 0, none⟩ = false ∧
      Hid (KeepsFrom B W (w10.setCell ⟨c, 0, none⟩ (.slice ad' (L.length + (cel1 x).length) cap')) ∧ Below n W (w10.setCell ⟨c, 0, none⟩ (.slice ad' (L.length + (cel1 x).length) cap')) ∧ CellI n c ds w (L ++ cel1 x) (w10.setCell ⟨c, 0, none⟩ (.slice ad' (L.length + (cel1 x).length) cap'))) := by
  have hq : Below W.heap.size W (W.alloc (.cells #[.int .i64 x.1, .int .i64 x.2.1, .string x.2.2] 30)).drew := ((Below.refl _ _).alloc (Nat.le_refl _) _).drew
  refine (cells_one x (v := W.heap.size) (W.alloc (.cells #[.int .i64 x.1, .int .i64 x.2.1, .string x.2.2] 30)).drew (show (W.alloc (.cells #[.int .i64 x.1, .int .i64 x.2.1, .string x.2.2] 30)).heap[W.heap.size]? = _ from heap_alloc_new W _)).mono ?_
  rintro e w9 ⟨a, cp, rfl, ho, hb⟩
  have hb9 := hq.trans (hb.mono hq.size)
  obtain ⟨ad', cap', w10, h1, h2, h3, h4⟩ := cellI_step (B := B) hn hcn (by have := cel1_len x; omega) hs hb9 (ownI_down ho hq.size) h0
  rw [List.length_append] at h1 h4
  exact ⟨a, cp, ad', cap', w10, rfl, one ((hb9.block _ (lt_of_block h0)).trans h0), h1, h2, h3, h4⟩
set_option maxRecDepth 100000 in
set_option maxHeartbeats 4000000 in
theorem cells_tab {B b cr cp m : Nat} {ar ap : Option Addr} {R : List Rw} {P : List Int} {last : Int} (w : World) (hT : Tab B b ar cr ap cp w R P m last) (hE : (ents R).length ≤ 1000000) :
    Calls Try.prog 20 #[.pointer (some ⟨b, 0, none⟩)] w fun e W' => ∃ ad cap, e = .returned (.slice ad ((celK (prs (ents R))).length + (celV (prs (ents R))).length) cap) ∧ Below w.heap.size w W' := by
  have HE := Lib.hid hE
  refine (callsIn_wide (n := 3)).1 ?_
  refine callsIn_of_wp_marks Try.func20 rfl trivial ?_ rfl
  simp only [Try.ntmps20, List.size_toArray, List.length_cons, List.length_nil, Nat.reduceAdd, Nat.reduceSub, Array.replicate_succ, Array.replicate_zero, List.push_toArray, List.append_toArray, List.nil_append, List.cons_append]
  gi_wp2_with (refine ⟨trivial, ?_⟩; gi_at_call 60; refine (each_in 2 _ _).mono ?_; rintro e w' ⟨rfl, rfl⟩)
  have hA1 := (Below.refl w.heap.size w).alloc (Nat.le_refl _) (.cells #[.slice none 0 0] 46)
  have hA2 := hA1.alloc (by simp) (.cells #[.pointer (some ⟨b, 0, none⟩)] 25)
  have bC : ((w.alloc (.cells #[.slice none 0 0] 46)).alloc (.cells #[.pointer (some ⟨b, 0, none⟩)] 25)).heap[w.heap.size]? = some (.cells #[.slice none 0 0] 46 (0, 0)) := (heap_alloc_old _ _ (by simp)).trans (heap_alloc_new w _)
  have bT := heap_alloc_new (w.alloc (.cells #[.slice none 0 0] 46)) (.cells #[.pointer (some ⟨b, 0, none⟩)] 25)
  have hsz : ((w.alloc (.cells #[.slice none 0 0] 46)).alloc (.cells #[.pointer (some ⟨b, 0, none⟩)] 25)).heap.size = w.heap.size + 2 := by simp
  rw [World.size_alloc] at bT
  have cT := one bT
  have hTT := tab_below hT hA2
  obtain ⟨W0, hW0⟩ : ∃ W0, (w.alloc (.cells #[.slice none 0 0] 46)).alloc (.cells #[.pointer (some ⟨b, 0, none⟩)] 25) = W0 := ⟨_, rfl⟩
  rw [hW0] at bC bT hA2 hTT hsz cT ⊢
  clear hW0 hA1
  have hlow : ∀ g, ar.map (·.block) = some g → g < w.heap.size := fun g hg => by obtain ⟨_, cur, hc⟩ := row_block hT.r g hg; exact lt_of_block hc
  refine wpIn_rangeFunc_ownH rfl (by decide) (gf := 78) (lb := #[.pointer (some ⟨w.heap.size + 1, 0, none⟩)]) rfl trivial (enters_of Try.func78 (by kernel_rfl) rfl)
    (each_stops 2 (by decide) (w.heap.size + 1) w.heap.size B b cr cp m ar ap R P last W0 (by omega) (by omega) cT hTT hlow) belowK_t (belowK_b (by omega)) (Below.refl _ _) (fun _ => rfl)
    (fun pre W => CellI w.heap.size w.heap.size [] w (celK pre) W)
    (fun _ _ _ => False)
    (fun s X Y row hs hg hr => cellI_grown (Nat.le_refl _) (by omega) (fun D h => by cases h) hs hg hr)
    (fun _ _ _ _ _ hs _ _ => hs)
    ⟨none, 0, bC, World.ownsRow_nil _ _ _ _, hA2, fun D h => by cases h⟩
    (fun x a' W => ∃ Bx, W.heap[Bx]? = some (.cells #[.int .i64 x.1.1, .int .i64 x.1.2.1, .string x.1.2.2] 30 (0, 0)) ∧ a' = { tmps := #[.pointer (some ⟨b, 0, none⟩), undef, .slice none 0 0, .pointer (some ⟨w.heap.size, 0, none⟩), .pointer (some ⟨Bx, 0, none⟩), undef, undef, .pointer (some ⟨b, 0, none⟩), .func (.func 78) #[] #[.pointer (some ⟨w.heap.size + 1, 0, none⟩)], ag x.1, ag x.2, undef, undef, undef, undef, undef, undef, undef, undef, undef, undef, undef, undef, undef, undef, undef], defers := [] })
    (fun x a' s X Y row hs hg hr => by obtain ⟨Bx, h1, h3⟩ := hs; exact ⟨Bx, grown_cells hg hr h1, h3⟩)
    ?assign ?body ?done ?stop
  case assign =>
    rintro l pre x W K hI hK
    have hq := (Below.refl W.heap.size W).alloc (Nat.le_refl _) (.cells #[.int .i64 x.1.1, .int .i64 x.1.2.1, .string x.1.2.2] 30)
    simp only [ag]
    gi_wp2
    have hBW : w.heap.size ≤ W.heap.size := by obtain ⟨_, _, _, _, h, _⟩ := hI; exact h.size
    refine hK _ _ ((KeepsOthers.alloc _ _).from _) (hq.mono hBW) (cellI_grown (B := W0.heap.size) (row := none) (Nat.le_refl _) (by omega) (fun D h => by cases h) hI (World.grownBy_alloc W _ none) (fun r e => by cases e)) ⟨W.heap.size, heap_alloc_new W _, rfl⟩
  case body =>
    rintro l pre x a' W hl ⟨rc, hrc⟩ hI ⟨Bx, hk, rfl⟩ hlt
    have hI2 := hI
    obtain ⟨ad0, cap0, hc0, _, hbw, _⟩ := hI2
    have hcc := one hc0
    obtain ⟨d0, d1, d2⟩ := three hk
    have hpl : (celK pre).length ≤ 2000000 := by have := celK_len pre; have := HE.out; omega
    have HC := Lib.hid (cells_call (B := W0.heap.size) x.1 (Nat.le_refl w.heap.size) (Nat.le_refl _) hpl hI hc0)
    have hcc2 : (W.alloc (.cells #[.int .i64 x.1.1, .int .i64 x.1.2.1, .string x.1.2.2] 30)).cell? ⟨w.heap.size, 0, none⟩ = some (.slice ad0 (celK pre).length cap0) := one ((heap_alloc_old _ _ (lt_of_block hc0)).trans hc0)
    clear hI hc0 hk hpl
    gi_wp2
    refine wpIn_region_any (by kernel_rfl) ?_
    change wpAnyIn _ _ _ _ _ _ _ _ _ (World.drew _)
    refine wpAnyIn_ready (rs := [0, 1]) (by kernel_rfl) (by simp) ?_
    refine AllReadyIn.cons rfl (fun K hK => ?_) (AllReadyIn.cons rfl (fun K hK => ?_) AllReadyIn.nil)
    · go_simp
      refine hK _ _ ?_
      clear hK K
      refine wpAnyIn_ready (rs := [1]) (by kernel_rfl) (by simp) ?_
      refine AllReadyIn.cons rfl (fun K hK => ?_) AllReadyIn.nil
      · go_simp
        refine hK _ _ ?_
        clear hK K
        refine wpAnyIn_ready (rs := [2]) (by kernel_rfl) (by simp) ?_
        refine AllReadyIn.cons rfl (fun K hK => ?_) AllReadyIn.nil
        · go_simp
          refine hK _ _ ?_
          clear hK K
          refine wpAnyIn_ready (rs := [3]) (by kernel_rfl) (by simp) ?_
          refine AllReadyIn.cons rfl (fun K hK => ?_) AllReadyIn.nil
          · go_simp
            refine ⟨trivial, (CallsIn.inRound l (callsIn_wide.2 HC.out)).mono ?_⟩
            rintro e w9 ⟨a9, c9, ad9, cap9, w10, rfl, hc9, hr, hq1, hq2, HF⟩
            refine hK _ _ ?_
            clear hK K
            refine wpAnyIn_ready (rs := [4]) (by kernel_rfl) (by simp) ?_
            refine AllReadyIn.cons rfl (fun K hK => ?_) AllReadyIn.nil
            · refine step_append_in (fun _ => trivial) rfl (.tmp 11) (.tmp 14) 46 rfl _ _ rfl rfl hr (hK _ _ ?_)
              clear hK K
              refine wpAnyIn_ready (rs := [5]) (by kernel_rfl) (by simp) ?_
              refine AllReadyIn.cons rfl (fun K hK => ?_) AllReadyIn.nil
              · go_simp
                refine hK _ _ ?_
                clear hK K
                refine wpAnyIn_done (by kernel_rfl) ?_ _
                refine ⟨HF.out.1, HF.out.2.1, ?_⟩; show CellI _ _ _ _ (celK (pre ++ [x])) _; rw [celK_snoc]; exact HF.out.2.2
    · go_simp
      refine hK _ _ ?_
      clear hK K
      refine wpAnyIn_ready (rs := [0, 2]) (by kernel_rfl) (by simp) ?_
      refine AllReadyIn.cons rfl (fun K hK => ?_) (AllReadyIn.cons rfl (fun K hK => ?_) AllReadyIn.nil)
      · go_simp
        refine hK _ _ ?_
        clear hK K
        refine wpAnyIn_ready (rs := [2]) (by kernel_rfl) (by simp) ?_
        refine AllReadyIn.cons rfl (fun K hK => ?_) AllReadyIn.nil
        · go_simp
          refine hK _ _ ?_
          clear hK K
          refine wpAnyIn_ready (rs := [3]) (by kernel_rfl) (by simp) ?_
          refine AllReadyIn.cons rfl (fun K hK => ?_) AllReadyIn.nil
          · go_simp
            refine ⟨trivial, (CallsIn.inRound l (callsIn_wide.2 HC.out)).mono ?_⟩
            rintro e w9 ⟨a9, c9, ad9, cap9, w10, rfl, hc9, hr, hq1, hq2, HF⟩
            refine hK _ _ ?_
            clear hK K
            refine wpAnyIn_ready (rs := [4]) (by kernel_rfl) (by simp) ?_
            refine AllReadyIn.cons rfl (fun K hK => ?_) AllReadyIn.nil
            · refine step_append_in (fun _ => trivial) rfl (.tmp 11) (.tmp 14) 46 rfl _ _ rfl rfl hr (hK _ _ ?_)
              clear hK K
              refine wpAnyIn_ready (rs := [5]) (by kernel_rfl) (by simp) ?_
              refine AllReadyIn.cons rfl (fun K hK => ?_) AllReadyIn.nil
              · go_simp
                refine hK _ _ ?_
                clear hK K
                refine wpAnyIn_done (by kernel_rfl) ?_ _
                refine ⟨HF.out.1, HF.out.2.1, ?_⟩; show CellI _ _ _ _ (celK (pre ++ [x])) _; rw [celK_snoc]; exact HF.out.2.2
      · go_simp
        refine hK _ _ ?_
        clear hK K
        refine wpAnyIn_ready (rs := [0, 3]) (by kernel_rfl) (by simp) ?_
        refine AllReadyIn.cons rfl (fun K hK => ?_) (AllReadyIn.cons rfl (fun K hK => ?_) AllReadyIn.nil)
        · go_simp
          refine hK _ _ ?_
          clear hK K
          refine wpAnyIn_ready (rs := [3]) (by kernel_rfl) (by simp) ?_
          refine AllReadyIn.cons rfl (fun K hK => ?_) AllReadyIn.nil
          · go_simp
            refine ⟨trivial, (CallsIn.inRound l (callsIn_wide.2 HC.out)).mono ?_⟩
            rintro e w9 ⟨a9, c9, ad9, cap9, w10, rfl, hc9, hr, hq1, hq2, HF⟩
            refine hK _ _ ?_
            clear hK K
            refine wpAnyIn_ready (rs := [4]) (by kernel_rfl) (by simp) ?_
            refine AllReadyIn.cons rfl (fun K hK => ?_) AllReadyIn.nil
            · refine step_append_in (fun _ => trivial) rfl (.tmp 11) (.tmp 14) 46 rfl _ _ rfl rfl hr (hK _ _ ?_)
              clear hK K
              refine wpAnyIn_ready (rs := [5]) (by kernel_rfl) (by simp) ?_
              refine AllReadyIn.cons rfl (fun K hK => ?_) AllReadyIn.nil
              · go_simp
                refine hK _ _ ?_
                clear hK K
                refine wpAnyIn_done (by kernel_rfl) ?_ _
                refine ⟨HF.out.1, HF.out.2.1, ?_⟩; show CellI _ _ _ _ (celK (pre ++ [x])) _; rw [celK_snoc]; exact HF.out.2.2
        · go_simp
          refine ⟨trivial, (CallsIn.inRound l (callsIn_wide.2 HC.out)).mono ?_⟩
          rintro e w9 ⟨a9, c9, ad9, cap9, w10, rfl, hc9, hr, hq1, hq2, HF⟩
          refine hK _ _ ?_
          clear hK K
          refine wpAnyIn_ready (rs := [0]) (by kernel_rfl) (by simp) ?_
          refine AllReadyIn.cons rfl (fun K hK => ?_) AllReadyIn.nil
          · go_simp
            refine hK _ _ ?_
            clear hK K
            refine wpAnyIn_ready (rs := [4]) (by kernel_rfl) (by simp) ?_
            refine AllReadyIn.cons rfl (fun K hK => ?_) AllReadyIn.nil
            · refine step_append_in (fun _ => trivial) rfl (.tmp 11) (.tmp 14) 46 rfl _ _ rfl rfl hr (hK _ _ ?_)
              clear hK K
              refine wpAnyIn_ready (rs := [5]) (by kernel_rfl) (by simp) ?_
              refine AllReadyIn.cons rfl (fun K hK => ?_) AllReadyIn.nil
              · go_simp
                refine hK _ _ ?_
                clear hK K
                refine wpAnyIn_done (by kernel_rfl) ?_ _
                refine ⟨HF.out.1, HF.out.2.1, ?_⟩; show CellI _ _ _ _ (celK (pre ++ [x])) _; rw [celK_snoc]; exact HF.out.2.2
  case done =>
    rintro D ys W hD rfl hI hK
    have hI2 := hI
    obtain ⟨ad0, cap0, hc0, ho0, hbw, _⟩ := hI2
    have hcc := one hc0
    have hWs := hbw.size
    gi_wp2_with (refine ⟨trivial, ?_⟩; gi_at_call 60; refine (each_in 2 _ _).mono ?_; rintro e w' ⟨rfl, rfl⟩)
    have hA2 := (Below.refl W.heap.size W).alloc (Nat.le_refl _) (.cells #[.pointer (some ⟨b, 0, none⟩)] 25)
    have bT2 := heap_alloc_new W (.cells #[.pointer (some ⟨b, 0, none⟩)] 25)
    have hK2 : (W.alloc (.cells #[.pointer (some ⟨b, 0, none⟩)] 25)).heap[D]? = some (.deferred (some [])) := (heap_alloc_old _ _ (lt_of_block hK)).trans hK
    have hDl := lt_of_block hK
    have hsz2 : (W.alloc (.cells #[.pointer (some ⟨b, 0, none⟩)] 25)).heap.size = W.heap.size + 1 := by simp
    have cT2 := one bT2
    have hTT2 := tab_below hT (hbw.trans (hA2.mono hbw.size))
    have hJ : CellI w.heap.size w.heap.size [D] w (celK (prs (ents R)) ++ celV []) (W.alloc (.cells #[.pointer (some ⟨b, 0, none⟩)] 25)) := by
      rw [show celV [] = [] from rfl, List.append_nil]
      exact ⟨ad0, cap0, (heap_alloc_old _ _ (lt_of_block hc0)).trans hc0, ownI_move ho0 fun g cur _ h => (heap_alloc_old _ _ (lt_of_block h)).trans h, hbw.trans (hA2.mono hbw.size), fun D' h => by simp at h; subst h; exact hK2⟩
    obtain ⟨W2, hW2⟩ : ∃ W2, W.alloc (.cells #[.pointer (some ⟨b, 0, none⟩)] 25) = W2 := ⟨_, rfl⟩
    rw [hW2] at bT2 hTT2 hsz2 cT2 hK2 hJ ⊢
    clear hW2 hA2 hI hcc hc0 ho0
    refine wpIn_rangeFunc_ownH rfl (by decide) (gf := 78) (lb := #[.pointer (some ⟨W.heap.size, 0, none⟩)]) rfl trivial (enters_of Try.func78 (by kernel_rfl) rfl)
      (each_stops 2 (by decide) W.heap.size w.heap.size B b cr cp m ar ap R P last W2 (by omega) (by omega) cT2 hTT2 hlow) belowK_t (belowK_b (by omega)) (Below.refl _ _) (fun _ => rfl)
      (fun pre X => CellI w.heap.size w.heap.size [D] w (celK (prs (ents R)) ++ celV pre) X)
      (fun _ _ _ => False)
      (fun s X Y row hs hg hr => cellI_grown (Nat.le_refl _) (by omega) (fun D' h => by simp at h; omega) hs hg hr)
      (fun _ _ _ _ _ hs _ _ => hs)
      hJ
      (fun x a' X => ∃ Bx, X.heap[Bx]? = some (.cells #[.int .i64 x.2.1, .int .i64 x.2.2.1, .string x.2.2.2] 30 (0, 0)) ∧ a' = { tmps := #[.pointer (some ⟨b, 0, none⟩), undef, .slice none 0 0, .pointer (some ⟨w.heap.size, 0, none⟩), undef, undef, .pointer (some ⟨Bx, 0, none⟩), .pointer (some ⟨b, 0, none⟩), .func (.func 78) #[] #[.pointer (some ⟨w.heap.size + 1, 0, none⟩)], undef, undef, undef, undef, undef, undef, undef, .pointer (some ⟨b, 0, none⟩), .func (.func 78) #[] #[.pointer (some ⟨W.heap.size, 0, none⟩)], ag x.1, ag x.2, undef, undef, undef, undef, undef, undef], defers := [] })
      (fun x a' s X Y row hs hg hr => by obtain ⟨Bx, h1, h3⟩ := hs; exact ⟨Bx, grown_cells hg hr h1, h3⟩)
      ?assign2 ?body2 ?done2 ?stop2
    case assign2 =>
      rintro l pre x X K hI hK
      have hq := (Below.refl X.heap.size X).alloc (Nat.le_refl _) (.cells #[.int .i64 x.2.1, .int .i64 x.2.2.1, .string x.2.2.2] 30)
      simp only [ag]
      gi_wp2
      have hBW : w.heap.size ≤ X.heap.size := by obtain ⟨_, _, _, _, h, _⟩ := hI; exact h.size
      refine hK _ _ ((KeepsOthers.alloc _ _).from _) (hq.mono hBW) (cellI_grown (B := W2.heap.size) (row := none) (Nat.le_refl _) (by omega) (fun D' h => by simp at h; omega) hI (World.grownBy_alloc X _ none) (fun r e => by cases e)) ⟨X.heap.size, heap_alloc_new X _, rfl⟩
    case body2 =>
      rintro l pre x a' W hl ⟨rc, hrc⟩ hI ⟨Bx, hk, rfl⟩ hlt
      have hI2 := hI
      obtain ⟨ad0, cap0, hc0, _, hbw, _⟩ := hI2
      have hcc := one hc0
      obtain ⟨d0, d1, d2⟩ := three hk
      have hpl : (celK (prs (ents R)) ++ celV pre).length ≤ 2000000 := by have h1 := celK_len (prs (ents R)); have h2 := celV_len pre; have := HE.out; rw [prs_len] at h1; rw [List.length_append]; omega
      have HC := Lib.hid (cells_call (B := W2.heap.size) x.2 (Nat.le_refl w.heap.size) (Nat.le_refl _) hpl hI hc0)
      have hcc2 : (W.alloc (.cells #[.int .i64 x.2.1, .int .i64 x.2.2.1, .string x.2.2.2] 30)).cell? ⟨w.heap.size, 0, none⟩ = some (.slice ad0 (celK (prs (ents R)) ++ celV pre).length cap0) := one ((heap_alloc_old _ _ (lt_of_block hc0)).trans hc0)
      rw [List.length_append] at hcc hcc2 HC
      clear hI hc0 hk hpl
      gi_wp2
      refine wpIn_region_any (by kernel_rfl) ?_
      change wpAnyIn _ _ _ _ _ _ _ _ _ (World.drew _)
      refine wpAnyIn_ready (rs := [0, 1]) (by kernel_rfl) (by simp) ?_
      refine AllReadyIn.cons rfl (fun K hK => ?_) (AllReadyIn.cons rfl (fun K hK => ?_) AllReadyIn.nil)
      · go_simp
        refine hK _ _ ?_
        clear hK K
        refine wpAnyIn_ready (rs := [1]) (by kernel_rfl) (by simp) ?_
        refine AllReadyIn.cons rfl (fun K hK => ?_) AllReadyIn.nil
        · go_simp
          refine hK _ _ ?_
          clear hK K
          refine wpAnyIn_ready (rs := [2]) (by kernel_rfl) (by simp) ?_
          refine AllReadyIn.cons rfl (fun K hK => ?_) AllReadyIn.nil
          · go_simp
            refine hK _ _ ?_
            clear hK K
            refine wpAnyIn_ready (rs := [3]) (by kernel_rfl) (by simp) ?_
            refine AllReadyIn.cons rfl (fun K hK => ?_) AllReadyIn.nil
            · go_simp
              refine ⟨trivial, (CallsIn.inRound l (callsIn_wide.2 HC.out)).mono ?_⟩
              rintro e w9 ⟨a9, c9, ad9, cap9, w10, rfl, hc9, hr, hq1, hq2, HF⟩
              refine hK _ _ ?_
              clear hK K
              refine wpAnyIn_ready (rs := [4]) (by kernel_rfl) (by simp) ?_
              refine AllReadyIn.cons rfl (fun K hK => ?_) AllReadyIn.nil
              · refine step_append_in (fun _ => trivial) rfl (.tmp 20) (.tmp 23) 46 rfl _ _ rfl rfl hr (hK _ _ ?_)
                clear hK K
                refine wpAnyIn_ready (rs := [5]) (by kernel_rfl) (by simp) ?_
                refine AllReadyIn.cons rfl (fun K hK => ?_) AllReadyIn.nil
                · go_simp
                  refine hK _ _ ?_
                  clear hK K
                  refine wpAnyIn_done (by kernel_rfl) ?_ _
                  refine ⟨HF.out.1, HF.out.2.1, ?_⟩; show CellI _ _ _ _ (_ ++ celV (pre ++ [x])) _; rw [celV_snoc, ← List.append_assoc]; exact HF.out.2.2
      · go_simp
        refine hK _ _ ?_
        clear hK K
        refine wpAnyIn_ready (rs := [0, 2]) (by kernel_rfl) (by simp) ?_
        refine AllReadyIn.cons rfl (fun K hK => ?_) (AllReadyIn.cons rfl (fun K hK => ?_) AllReadyIn.nil)
        · go_simp
          refine hK _ _ ?_
          clear hK K
          refine wpAnyIn_ready (rs := [2]) (by kernel_rfl) (by simp) ?_
          refine AllReadyIn.cons rfl (fun K hK => ?_) AllReadyIn.nil
          · go_simp
            refine hK _ _ ?_
            clear hK K
            refine wpAnyIn_ready (rs := [3]) (by kernel_rfl) (by simp) ?_
            refine AllReadyIn.cons rfl (fun K hK => ?_) AllReadyIn.nil
            · go_simp
              refine ⟨trivial, (CallsIn.inRound l (callsIn_wide.2 HC.out)).mono ?_⟩
              rintro e w9 ⟨a9, c9, ad9, cap9, w10, rfl, hc9, hr, hq1, hq2, HF⟩
              refine hK _ _ ?_
              clear hK K
              refine wpAnyIn_ready (rs := [4]) (by kernel_rfl) (by simp) ?_
              refine AllReadyIn.cons rfl (fun K hK => ?_) AllReadyIn.nil
              · refine step_append_in (fun _ => trivial) rfl (.tmp 20) (.tmp 23) 46 rfl _ _ rfl rfl hr (hK _ _ ?_)
                clear hK K
                refine wpAnyIn_ready (rs := [5]) (by kernel_rfl) (by simp) ?_
                refine AllReadyIn.cons rfl (fun K hK => ?_) AllReadyIn.nil
                · go_simp
                  refine hK _ _ ?_
                  clear hK K
                  refine wpAnyIn_done (by kernel_rfl) ?_ _
                  refine ⟨HF.out.1, HF.out.2.1, ?_⟩; show CellI _ _ _ _ (_ ++ celV (pre ++ [x])) _; rw [celV_snoc, ← List.append_assoc]; exact HF.out.2.2
        · go_simp
          refine hK _ _ ?_
          clear hK K
          refine wpAnyIn_ready (rs := [0, 3]) (by kernel_rfl) (by simp) ?_
          refine AllReadyIn.cons rfl (fun K hK => ?_) (AllReadyIn.cons rfl (fun K hK => ?_) AllReadyIn.nil)
          · go_simp
            refine hK _ _ ?_
            clear hK K
            refine wpAnyIn_ready (rs := [3]) (by kernel_rfl) (by simp) ?_
            refine AllReadyIn.cons rfl (fun K hK => ?_) AllReadyIn.nil
            · go_simp
              refine ⟨trivial, (CallsIn.inRound l (callsIn_wide.2 HC.out)).mono ?_⟩
              rintro e w9 ⟨a9, c9, ad9, cap9, w10, rfl, hc9, hr, hq1, hq2, HF⟩
              refine hK _ _ ?_
              clear hK K
              refine wpAnyIn_ready (rs := [4]) (by kernel_rfl) (by simp) ?_
              refine AllReadyIn.cons rfl (fun K hK => ?_) AllReadyIn.nil
              · refine step_append_in (fun _ => trivial) rfl (.tmp 20) (.tmp 23) 46 rfl _ _ rfl rfl hr (hK _ _ ?_)
                clear hK K
                refine wpAnyIn_ready (rs := [5]) (by kernel_rfl) (by simp) ?_
                refine AllReadyIn.cons rfl (fun K hK => ?_) AllReadyIn.nil
                · go_simp
                  refine hK _ _ ?_
                  clear hK K
                  refine wpAnyIn_done (by kernel_rfl) ?_ _
                  refine ⟨HF.out.1, HF.out.2.1, ?_⟩; show CellI _ _ _ _ (_ ++ celV (pre ++ [x])) _; rw [celV_snoc, ← List.append_assoc]; exact HF.out.2.2
          · go_simp
            refine ⟨trivial, (CallsIn.inRound l (callsIn_wide.2 HC.out)).mono ?_⟩
            rintro e w9 ⟨a9, c9, ad9, cap9, w10, rfl, hc9, hr, hq1, hq2, HF⟩
            refine hK _ _ ?_
            clear hK K
            refine wpAnyIn_ready (rs := [0]) (by kernel_rfl) (by simp) ?_
            refine AllReadyIn.cons rfl (fun K hK => ?_) AllReadyIn.nil
            · go_simp
              refine hK _ _ ?_
              clear hK K
              refine wpAnyIn_ready (rs := [4]) (by kernel_rfl) (by simp) ?_
              refine AllReadyIn.cons rfl (fun K hK => ?_) AllReadyIn.nil
              · refine step_append_in (fun _ => trivial) rfl (.tmp 20) (.tmp 23) 46 rfl _ _ rfl rfl hr (hK _ _ ?_)
                clear hK K
                refine wpAnyIn_ready (rs := [5]) (by kernel_rfl) (by simp) ?_
                refine AllReadyIn.cons rfl (fun K hK => ?_) AllReadyIn.nil
                · go_simp
                  refine hK _ _ ?_
                  clear hK K
                  refine wpAnyIn_done (by kernel_rfl) ?_ _
                  refine ⟨HF.out.1, HF.out.2.1, ?_⟩; show CellI _ _ _ _ (_ ++ celV (pre ++ [x])) _; rw [celV_snoc, ← List.append_assoc]; exact HF.out.2.2
    case done2 =>
      rintro D2 ys X hD2 rfl hI hK3
      obtain ⟨ad1, cap1, hc1, ho1, hb1, hds⟩ := hI
      have hcc := one hc1
      have hKD := hds D (by simp)
      gi_wp2
      have hne : D ≠ D2 := by omega
      have hKD2 : (X.putObj D2 (.deferred none)).heap[D]? = some (.deferred (some [])) := ((grownBy_putObj' X D2 (.deferred none)).block D (lt_of_block hKD) (fun e => by simp at e; omega)).trans hKD
      have hbE := hb1.trans ((belowK_b (w := w) (Nat.le_refl _) X D2 _ (.deferred none) (by omega) hK3 rfl rfl).trans (belowK_b (w := w) (Nat.le_refl _) (X.putObj D2 (.deferred none)) D _ (.deferred none) (by omega) hKD2 rfl rfl))
      refine ⟨by simp, .inl ⟨_, _, rfl, run_takeDeferred hK3, by simp, .inl ⟨_, _, rfl, run_takeDeferred hKD2, ?_⟩⟩⟩
      refine ⟨_, results_tmp rfl _ _ _, ad1, cap1, rfl, hbE⟩
    case stop2 =>
      rintro D c pre W _ _ h _
      exact h.elim
  case stop =>
    rintro D c pre W _ _ h _
    exact h.elim
end Go.Proofs.Ytipdjjgpcmbpdaa.Ta
