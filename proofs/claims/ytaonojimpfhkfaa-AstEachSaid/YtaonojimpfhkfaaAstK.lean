/- The builder: Add. -/
import Derived.Test.YtaonojimpfhkfaaAstJ
import Derived.Maps.AppendAt
import Derived.Deep.RegionHeld3
import Derived.Deep.RegionLaw
namespace Go.Proofs.Ytaonojimpfhkfaa.As
open Go.RowKit Go.ChangeShapes Go.WideShapes Go.ChangeAt

theorem step_append_run {P : Program} {ops : Array Oper} {o : Oper} {a : Act} {w : World} {K : Act → World → Prop} {Q : Exit → Act → World → Prop} {E : Prop}
    (hg : o.guard = none) (s x : Operand) (t : TypeId) (hop : o.op = Op.call { callee := Callee.builtin Builtin.append, args := #[s, x], argTypes := #[t, t] }) (v u : Value) (hs : a.eval s = v) (hx : a.eval x = u)
    {v' : Value} {w' : World} (hr : (Builtin.append_ #[t, t] o.type #[v, u]).run P w = .ok v' w') (hK : K (a.put o.dst v') w') :
    if Region.wanted o (yielded ops a.tmps) = true then Oper.wp P o a w K Q else E := by
  have hw : Region.wanted o (yielded ops a.tmps) = true := by simp [Region.wanted, hg]
  rw [if_pos hw]
  unfold Oper.wp
  simp [execOp, hop, resolve, invoke, builtin, hs, hx, hr, Result.andThen]
  exact hK
set_option maxRecDepth 100000 in
theorem run_pushN {lo c : Nat} {A : Option Addr} {w : World} {L : List Nd} (n : Nd) (h : OwN lo A c w L) (hl : L.length ≤ 1000000) (hlo : lo ≤ w.heap.size) :
    ∃ A2 c2 w2, (Builtin.append_ #[22, 22] 22 #[.slice A L.length c, .slice (some ⟨w.heap.size, 0, none⟩) 1 1]).run Try.prog (w.alloc (.cells #[.int .i64 n.kind, .int .i64 n.loc, .string n.text, .int .i64 n.num, .slice n.ka n.kids.length n.kc] 37)) = .ok (.slice A2 (L.length + 1) c2) w2 ∧
      OwN lo A2 c2 w2 (L ++ [n]) ∧ (w.alloc (.cells #[.int .i64 n.kind, .int .i64 n.loc, .string n.text, .int .i64 n.num, .slice n.ka n.kids.length n.kc] 37)).grownBy w2 (A.map (·.block)) ∧ (A2.map (·.block) = A.map (·.block) ∨ A2.map (·.block) = some (w.heap.size + 1)) := by
  obtain ⟨i0, hi, hz0, hz1, hz2⟩ := info_parts As.A.infoN
  have hnew := new1 w (.cells #[.int .i64 n.kind, .int .i64 n.loc, .string n.text, .int .i64 n.num, .slice n.ka n.kids.length n.kc] 37)
  have hb := bel1 w (.cells #[.int .i64 n.kind, .int .i64 n.loc, .string n.text, .int .i64 n.num, .slice n.ka n.kids.length n.kc] 37)
  have hs : (w.alloc (.cells #[.int .i64 n.kind, .int .i64 n.loc, .string n.text, .int .i64 n.num, .slice n.ka n.kids.length n.kc] 37)).heap.size = w.heap.size + 1 := by simp
  generalize w.alloc (.cells #[.int .i64 n.kind, .int .i64 n.loc, .string n.text, .int .i64 n.num, .slice n.ka n.kids.length n.kc] 37) = w1 at *
  obtain ⟨v', w2, hr, hown, hgr, _, hat⟩ := run_append_own_at (P := Try.prog) (w := w1) lo 22 22 37 i0 _ 5 64 Try.underlying22 hi hz0 hz1 hz2 rfl (by decide) (.slice A L.length c) L.length (flatN L) (own_below h hb) ⟨w.heap.size, 0, none⟩ 1 1 (celN n) rfl (by
    intro j u hu
    rw [Go.WideShapes.add_plain, cell_of_row _ _ _ _ _ _ hnew, Nat.zero_add]
    unfold celN at hu
    simpa using hu) (by intro u hu; exact flatN_cells [n] u (by rw [flatN_one]; exact hu)) (by unfold maxLen; omega) (by omega) (by omega)
  obtain ⟨A2, c2, rfl⟩ := own_shape hown
  have ob : ∀ (A : Option Addr) (m c : Nat), (Value.slice A m c).ownBlock = A.map (·.block) := fun A m c => by cases A <;> rfl
  rw [ob] at hgr
  rw [ob, ob, hs] at hat
  refine ⟨A2, c2, w2, hr, ?_, hgr, hat⟩
  unfold OwN
  rw [flatN_append, flatN_one, List.length_append]
  exact hown
/-- A builder in memory. -/
structure BldP (lo b : Nat) (A : Option Addr) (c : Nat) (w : World) (L : List Nd) : Prop where
  x : w.heap[b]? = some (.cells #[.slice A L.length c] 34 (0, 0))
  t : OwT lo A c w L
  l : lo ≤ b
theorem BldP.below {lo b c : Nat} {A : Option Addr} {w w' : World} {L : List Nd} (h : BldP lo b A c w L) (hb : Below w.heap.size w w') : BldP lo b A c w' L :=
  ⟨(hb.block _ (lt_of_block h.x)).trans h.x, h.t.below hb, h.l⟩
theorem bld_ne {lo b c : Nat} {A : Option Addr} {w : World} {L : List Nd} (h : BldP lo b A c w L) : A.map (·.block) ≠ some b := by
  intro e
  rcases h.t.n.2 with ⟨hv, _⟩ | ⟨g', cap', cur, hv, _, hg', _⟩
  · rw [(Value.slice.inj hv).1] at e; cases e
  · rw [(Value.slice.inj hv).1] at e
    simp at e
    subst e
    rw [h.x] at hg'
    simp at hg'
/-- What Add leaves. -/
def Added (lo b : Nat) (A : Option Addr) (w w' : World) (L : List Nd) (n : Nd) : Prop :=
  ∃ a c A2 c2, BldP lo b A2 c2 w' (L ++ [n.at a c]) ∧ Below lo w w' ∧ (∀ (g : Nat) (o : Obj), w.heap[g]? = some o → g ≠ b → some g ≠ A.map (·.block) → w'.heap[g]? = some o) ∧ (A2.map (·.block) = A.map (·.block) ∨ ∃ g, A2.map (·.block) = some g ∧ w.heap.size ≤ g)
set_option maxRecDepth 100000 in
set_option maxHeartbeats 8000000 in
theorem add_any {lo b c hi : Nat} {A : Option Addr} {w : World} {L : List Nd} (n : Nd) (h : BldP lo b A c w L) (hl : L.length < 131072) (hk : RowI w hi n.ka n.kids) (hhi : hi ≤ w.heap.size) (hkl : n.kids.length ≤ 1000000) (hs : n.text.size ≤ 1000000) (hlo : lo ≤ w.heap.size) :
    Calls Try.prog 12 #[.pointer (some ⟨b, 0, none⟩), .int .i64 n.kind, .int .i64 n.loc, .string n.text, .int .i64 n.num, .slice n.ka n.kids.length n.kc] w fun e w' => e = .returned (.tuple #[.int .i64 (L.length : Int), .int .i64 0]) ∧ Added lo b A w w' L n := by
  have c0 := cell_of_one h.x
  have HH := Lib.hid h
  have HK := Lib.hid (fun (W : World) (hW : Below w.heap.size w W) => own_any (w := W) n (hk.keep (w' := W) (Nat.le_refl _) fun b hb => hW.block b (by omega)) (by have := hW.size; omega) hkl hs)
  unfold nv Nd.at at HK
  simp only at HK
  have hlb : (L.length : Int) < 131072 := by omega
  have hlb2 : ¬ (131072 : Int) ≤ (L.length : Int) := by omega
  have HL := Lib.hid hl
  have HLO := Lib.hid hlo
  clear h hk hhi hkl hs hl hlo
  have HS0 := Lib.hid c0
  have HS1 : Hid (w.drew.cell? ⟨b, 0, none⟩ = some (.slice A L.length c)) := c0
  have HOW := Lib.hid (HK.out w.drew (Below.refl _ _).drew)
  go_enter Try.func12, Try.ntmps12
  go_wp2_with fail
  go_region_law
    (first
      | (refine step_append_run rfl (.tmp 24) (.tmp 32) 22 rfl _ _ rfl rfl hr ?_)
      | (go_simp; go_at_call 36; refine HOW.out.mono ?_; rintro e1 w1 ⟨A1, c1, rfl, ho1, hb1⟩; have HB1 := Lib.hid ((Below.refl w.heap.size w).drew.trans hb1); have HO1 := Lib.hid ho1; have HP1 := Lib.hid (HH.out.below HB1.out); have hc1 := cell_of_one HP1.out.x; have hb2 := bel1 w1 (.cells #[.int .i64 n.kind, .int .i64 n.loc, .string n.text, .int .i64 n.num, .slice A1 n.kids.length c1] 37); have hc2 := cell_of_one (HP1.out.below hb2).x; obtain ⟨A2, c2, w2, hr, hown, hgr, hat⟩ := run_pushN (n.at A1 c1) HP1.out.t.n (by have := HL.out; omega) (by have := HB1.out.size; have := HLO.out; omega); unfold Nd.at at hr hgr; simp only at hr hgr; have HOWN := Lib.hid hown; have HGR := Lib.hid hgr; have HAT := Lib.hid hat; have HNE := Lib.hid (bld_ne HP1.out); have hx2 := (HGR.out.block b (by have := lt_of_block ((HP1.out.below hb2).x); exact this) (fun e => HNE.out e.symm)).trans (HP1.out.below hb2).x; have HX2 := Lib.hid hx2; have hc3 := cell_of_one hx2; have hz3 := blk_free (i := 0) hx2; clear ho1 hb1 hown hgr hat hx2))
  all_goals
    have hx3 : (w2.setCell ⟨b, 0, none⟩ (.slice A2 (L.length + 1) c2)).heap[b]? = some (.cells #[.slice A2 (L.length + 1) c2] 34 (0, 0)) := by rw [heap_setCell_same w2 b 0 _ _ _ HX2.out]; rfl
    have HX3 := Lib.hid hx3
    have hc4 := cell_of_one hx3
    clear hc1 hc2 hc3 hz3 hx3 hr
    go_wp2_with fail
    go_ret2
    have hb2 := bel1 w1 (.cells #[.int .i64 n.kind, .int .i64 n.loc, .string n.text, .int .i64 n.num, .slice A1 n.kids.length c1] 37)
    have hsz1 := HB1.out.size
    have hsz2 := hb2.size
    have hlo := HLO.out
    have keep : ∀ (g : Nat) (o : Obj), w.heap[g]? = some o → g ≠ b → some g ≠ A.map (·.block) → (w2.setCell ⟨b, 0, none⟩ (.slice A2 (L.length + 1) c2)).heap[g]? = some o := fun g o hg h1 h2 => by
      have hgl := lt_of_block hg
      exact blk_far ((HGR.out.block g (by omega) h2).trans ((hb2.block g (by omega)).trans ((HB1.out.block g hgl).trans hg))) h1 _
    refine ⟨rfl, A1, c1, A2, c2, ⟨by rw [List.length_append]; exact HX3.out, ⟨own_set (o := 0) HOWN.out HX2.out (by decide), fun p hp => ?_⟩, HH.out.l⟩, ?_, keep, ?_⟩
    · have far : ∀ (k : Nat) (AA : Option Addr) (cc nn : Nat) (xs : List Value), w1.ownsRow k 3 1 (.slice AA nn cc) nn xs → (w2.setCell ⟨b, 0, none⟩ (.slice A2 (L.length + 1) c2)).ownsRow k 3 1 (.slice AA nn cc) nn xs := fun k AA cc nn xs hx => by
        refine own_set ?_ HX2.out (by decide)
        refine World.ownsRow.kept (own_below hx hb2) HGR.out ?_
        rcases hx.2 with ⟨hv, _⟩ | ⟨g', cap', cur, hv, _, hg', _⟩
        · left
          rw [(Value.slice.inj hv).1]
          simp [Value.ownBlock]
        · right
          rw [(Value.slice.inj hv).1]
          intro e
          rcases HP1.out.t.n.2 with ⟨hv2, _⟩ | ⟨g2, cap2, cur2, hv2, _, hg2, _⟩
          · rw [(Value.slice.inj hv2).1] at e; cases e
          · rw [(Value.slice.inj hv2).1] at e
            simp [Value.ownBlock] at e
            subst e
            rw [hg2] at hg'
            simp at hg'
      rcases List.mem_append.1 hp with h | h
      · exact far _ _ _ _ _ (HP1.out.t.k p h)
      · rw [List.mem_singleton.1 h]
        exact far _ _ _ _ _ (own_mono HO1.out hlo)
    · exact (((HB1.out.trans (hb2.mono hsz1)).mono hlo).grown HGR.out (by omega) (fun k hk => by
        rcases HP1.out.t.n.2 with ⟨hv, _⟩ | ⟨g', cap', cur, hv, hlog, _⟩
        · rw [(Value.slice.inj hv).1] at hk; cases hk
        · rw [(Value.slice.inj hv).1] at hk
          simp at hk
          omega)).setCell (p := ⟨b, 0, none⟩) HH.out.l _
    · rcases HAT.out with h | h
      · exact Or.inl h
      · exact Or.inr ⟨_, h, by omega⟩
end Go.Proofs.Ytaonojimpfhkfaa.As
