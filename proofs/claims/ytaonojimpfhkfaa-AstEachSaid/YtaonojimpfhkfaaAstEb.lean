/- Each: a node and all below it are handed on, until no more is wanted. -/
import Derived.Test.YtaonojimpfhkfaaAstV
import Derived.Test.YtaonojimpfhkfaaAstEa
namespace Go.Proofs.Ytaonojimpfhkfaa.As
open Go.RowKit Go.ChangeShapes Go.WideShapes Go.ChangeAt

/-- What is handed on of a row, if so many were ahead of it; was more wanted each time? -/
def takeE (ans : Nat → Bool) : Nat → List Nat → List Nat × Bool
  | _, [] => ([], true)
  | c, x :: l => if ans (c + 1) = true then (x :: (takeE ans (c + 1) l).1, (takeE ans (c + 1) l).2) else ([x], false)
theorem takeE_all {ans : Nat → Bool} : ∀ (l : List Nat) (c : Nat), (takeE ans c l).2 = true → (takeE ans c l).1 = l
  | [], c, _ => rfl
  | x :: l, c, h => by
    rw [takeE] at h ⊢
    by_cases ha : ans (c + 1) = true
    · rw [if_pos ha] at h ⊢; simp only at h ⊢; rw [takeE_all l _ h]
    · rw [if_neg ha] at h; simp at h
theorem takeE_app {ans : Nat → Bool} : ∀ (l l' : List Nat) (c : Nat), takeE ans c (l ++ l') = if (takeE ans c l).2 = true then (l ++ (takeE ans (c + l.length) l').1, (takeE ans (c + l.length) l').2) else takeE ans c l
  | [], l', c => by simp [takeE]
  | x :: l, l', c => by
    rw [List.cons_append, takeE, takeE]
    by_cases ha : ans (c + 1) = true
    · rw [if_pos ha, if_pos ha, takeE_app l l' (c + 1)]
      by_cases hb : (takeE ans (c + 1) l).2 = true
      · rw [if_pos hb, if_pos hb, List.length_cons, show c + 1 + l.length = c + (l.length + 1) by omega]; rfl
      · rw [if_neg hb, if_neg hb]
    · rw [if_neg ha, if_neg ha]; rfl
theorem takeE_sub {ans : Nat → Bool} : ∀ (l : List Nat) (c x : Nat), x ∈ (takeE ans c l).1 → x ∈ l
  | [], c, x, h => h
  | y :: l, c, x, h => by
    rw [takeE] at h
    by_cases ha : ans (c + 1) = true
    · rw [if_pos ha] at h
      rcases List.mem_cons.1 h with rfl | h
      · simp
      · exact List.mem_cons_of_mem _ (takeE_sub l _ x h)
    · rw [if_neg ha] at h
      rcases List.mem_cons.1 h with rfl | h
      · simp
      · simp at h
/-- What hears of nodes. -/
structure Yld (bt B0 N : Nat) (fid : FuncId) (caps : Array Value) (ans : Nat → Bool) (St : List Nat → World → Prop) : Prop where
  ent : ∀ args W, (callFunc fid args).run Try.prog W = .ok (.enter fid args) W
  keep : ∀ vs W W', St vs W → Below B0 W W' → St vs W'
  call : ∀ vs W (i : Nat), St vs W → B0 ≤ W.heap.size → i < N → i ∉ vs → Calls Try.prog fid (#[.int .i64 (i : Int)] ++ caps) W fun e w' => e = .returned (.bool (ans (vs.length + 1))) ∧ St (vs ++ [i]) w' ∧ Below bt W w' ∧ W.heap.size ≤ w'.heap.size ∧ ∀ b, B0 ≤ b → b < W.heap.size → w'.heap[b]? = W.heap[b]?
structure Wk (bt B0 bw bm : Nat) (A : Option Addr) (cap : Nat) (fv : Value) (W : World) (L : List Nd) (K : List Bool) : Prop where
  w : W.heap[bw]? = some (.cells #[.slice A L.length cap, .slice (some ⟨bm, 0, none⟩) L.length L.length, fv] 69 (0, 0))
  m : W.heap[bm]? = some (.cells ((K.map Value.bool).toArray) 4 (0, 0))
  bw : B0 ≤ bw
  bm : B0 ≤ bm
  b0 : bt ≤ B0
  t : Tr W bt A L
theorem Wk.setk {bt B0 bw bm cap : Nat} {A : Option Addr} {fv : Value} {W : World} {L : List Nd} {K : List Bool} (h : Wk bt B0 bw bm A cap fv W L K) (x : Nat) : Wk bt B0 bw bm A cap fv (W.setCell ⟨bm, x, none⟩ (.bool true)) L (K.set x true) := by
  refine ⟨blk_far h.w (blk_ne h.w h.m (by decide)) _, ?_, h.bw, h.bm, h.b0, h.t.keep (Nat.le_refl _) fun b hb => Below.heap_setCell W _ _ b (by have := h.bm; have := h.b0; simp; omega)⟩
  rw [heap_setCell_same W bm x _ _ _ h.m]
  simp [List.map_set]
theorem Wk.cellk {bt B0 bw bm cap : Nat} {A : Option Addr} {fv : Value} {W : World} {L : List Nd} {K : List Bool} (h : Wk bt B0 bw bm A cap fv W L K) {x : Nat} {b : Bool} (hx : K[x]? = some b) : W.cell? ⟨bm, x, none⟩ = some (.bool b) := by
  rw [cell_of_row _ _ _ _ _ _ h.m]; simp [hx]
theorem Wk.yield {bt B0 bw bm cap : Nat} {A : Option Addr} {fv : Value} {W w' : World} {L : List Nd} {K : List Bool} (h : Wk bt B0 bw bm A cap fv W L K) (hb : Below bt W w') (hf : ∀ b, B0 ≤ b → b < W.heap.size → w'.heap[b]? = W.heap[b]?) : Wk bt B0 bw bm A cap fv w' L K :=
  ⟨(hf _ h.bw (lt_of_block h.w)).trans h.w, (hf _ h.bm (lt_of_block h.m)).trans h.m, h.bw, h.bm, h.b0, h.t.keep (Nat.le_refl _) fun b hb' => hb.block b hb'⟩
/-- So far it went. -/
def Wn (bt B0 bw bm : Nat) (A : Option Addr) (cap : Nat) (fv : Value) (St : List Nat → World → Prop) (L : List Nd) (W W' : World) (K : List Bool) (vs dn : List Nat) : Prop :=
  ∃ K', Wk bt B0 bw bm A cap fv W' L K' ∧ K'.length = K.length ∧ (∀ x, x ∉ dn → K'[x]? = K[x]?) ∧ St (vs ++ dn) W' ∧ Below bt W W'
def Went (bt B0 bw bm : Nat) (A : Option Addr) (cap : Nat) (fv : Value) (St : List Nat → World → Prop) (L : List Nd) (W W' : World) (K : List Bool) (vs : List Nat) (e : Ending) (r : List Nat × Bool) : Prop :=
  e = .returned (.bool r.2) ∧ Wn bt B0 bw bm A cap fv St L W W' K vs r.1

set_option maxRecDepth 100000 in
theorem from_neg {bt B0 bw bm cap : Nat} {A : Option Addr} {L : List Nd} {fv : Value} {ans : Nat → Bool} {St : List Nat → World → Prop} (f : Nat) (i d : Int) (vs : List Nat) (K : List Bool) (W : World) (hW : Wk bt B0 bw bm A cap fv W L K) (hS : St vs W) (h0 : i < 0) :
    Calls Try.prog 39 #[.pointer (some ⟨bw, 0, none⟩), .int .i64 i, .int .i64 d] W fun e w' => Went bt B0 bw bm A cap fv St L W w' K vs e (takeE ans vs.length (pre L f i)) := by
  have HW := Lib.hid hW
  have HS := Lib.hid hS
  have HE : Hid (takeE ans vs.length (pre L f i) = ([], true)) := by show _ = _; rw [pre_neg h0]; rfl
  obtain ⟨c0, c1, c2⟩ := cells3 hW.w
  clear hW hS
  go_enter Try.func39, Try.ntmps39
  go_wp2_with fail
  go_ret
  rw [HE.out]
  exact ⟨rfl, K, HW.out, rfl, fun _ _ => rfl, by rw [List.append_nil]; exact HS.out, Below.refl _ _⟩
set_option maxRecDepth 100000 in
set_option maxHeartbeats 8000000 in
theorem from_any {bt B0 bw bm cap : Nat} {A : Option Addr} {L : List Nd} {fid : FuncId} {caps : Array Value} {ans : Nat → Bool} {St : List Nat → World → Prop} {D : List Int} (hk : Kin L) (hz : Szd L) (hu : Upto L L.length D) (hY : Yld bt B0 L.length fid caps ans St) (f : Nat) :
    ∀ (i d : Int) (vs : List Nat) (K : List Bool) (W : World), Wk bt B0 bw bm A cap (.func (.func fid) #[] caps) W L K → K.length = L.length → St vs W → -1 ≤ i → i < (f : Int) → i < (L.length : Int) → 0 ≤ d → (0 ≤ i → d + D.getD i.toNat 0 ≤ 200) → (∀ x ∈ pre L f i, K[x]? = some false ∧ x ∉ vs) →
    Calls Try.prog 39 #[.pointer (some ⟨bw, 0, none⟩), .int .i64 i, .int .i64 d] W fun e w' => Went bt B0 bw bm A cap (.func (.func fid) #[] caps) St L W w' K vs e (takeE ans vs.length (pre L f i)) := by
  induction f with
  | zero =>
    intro i d vs K W hW hK hS h1 h2 _ _ _ _
    exact from_neg 0 i d vs K W hW hS (by omega)
  | succ f ih =>
    intro i d vs K W hW hK hS h1 h2 h3 hd0 hd hun
    have HW := Lib.hid hW
    have HK := Lib.hid hK
    have HS := Lib.hid hS
    have HUN := Lib.hid hun
    have HIH := Lib.hid ih
    have hlb : (L.length : Int) ≤ 1000000 := by have := hz.1; omega
    obtain ⟨c0, c1, c2⟩ := cells3 hW.w
    clear hW hK hS hun ih
    by_cases h0 : i < 0
    · exact from_neg (f + 1) i d vs K W HW.out HS.out h0
    obtain ⟨a, rfl⟩ : ∃ a : Nat, i = (a : Int) := ⟨i.toNat, by omega⟩
    obtain ⟨n, hn⟩ := get_some (show a < L.length by omega)
    have hunm := HUN.out a (by rw [pre_some hn]; simp)
    have ca := HW.out.cellk hunm.1
    have hdd := hd (by omega)
    rw [Int.toNat_natCast] at hdd
    have hDa := hu.dp a n (get_lt hn) hn
    have HNV := Lib.hid hunm.2
    have HDA := Lib.hid hDa.2.2
    have HDD := Lib.hid hdd
    have hd2 : d ≤ 200 := by omega
    have HN := Lib.hid hn
    have hf0 : W.frozen? ⟨bm, a, none⟩ = false := blk_free HW.out.m
    have HW1 := Lib.hid (HW.out.setk a)
    have hS1 := hY.keep vs W (W.setCell ⟨bm, a, none⟩ (.bool true)) HS.out ((Below.refl _ _).setCell (p := ⟨bm, a, none⟩) HW.out.bm _)
    have HY := Lib.hid (hY.call vs (W.setCell ⟨bm, a, none⟩ (.bool true)) a hS1 (by have := HW1.out.bm; have := lt_of_block HW1.out.m; omega) (get_lt hn) hunm.2)
    obtain ⟨s0, s1, s2⟩ := cells3 HW1.out.w
    clear hd hn hunm hdd hDa hS1
    go_enter Try.func39, Try.ntmps39
    go_wp2_with fail
    rw [hY.ent]
    show Calls _ _ _ _ _
    refine HY.out.mono ?_
    rintro e w1 ⟨rfl, hS2, hb2, hsz2, hfr2⟩
    have HW2 := Lib.hid (HW1.out.yield hb2 (by simpa using hfr2))
    have HS2 := Lib.hid hS2
    have hb0 : Below bt W (W.setCell ⟨bm, a, none⟩ (.bool true)) := (Below.refl _ _).setCell (p := ⟨bm, a, none⟩) (by have := HW.out.bm; have := HW.out.b0; show bt ≤ bm; omega) _
    have HB2 := Lib.hid (hb0.trans hb2)
    obtain ⟨t0, t1, t2⟩ := cells3 HW2.out.w
    clear c0 c1 c2 s0 s1 s2 ca hf0 HW1 HY hS2 hb2 hfr2 hsz2 hb0
    obtain ⟨b, hb⟩ : ∃ b, ans (vs.length + 1) = b := ⟨_, rfl⟩
    have HANS := Lib.hid hb
    rw [hb]
    clear hb
    have HWN : Hid (Wn bt B0 bw bm A cap (.func (.func fid) #[] caps) St L W w1 K vs [a]) :=
      ⟨_, HW2.out, by rw [List.length_set], fun x hx => by rw [List.getElem?_set_ne (fun e => hx (by simp [e]))], HS2.out, HB2.out⟩
    cases b
    · have HE : Hid (takeE ans vs.length (pre L (f + 1) (a : Int)) = ([a], false)) := by
        show _ = _
        rw [pre_some HN.out, takeE, if_neg (by rw [HANS.out]; simp)]
      go_wp2_with fail
      go_ret
      rw [HE.out]
      exact ⟨rfl, HWN.out⟩
    have HE0 : Hid (takeE ans vs.length (pre L (f + 1) (a : Int)) = ([a] ++ (takeE ans (vs.length + 1) (n.kids.flatMap (pre L f))).1, (takeE ans (vs.length + 1) (n.kids.flatMap (pre L f))).2)) := by
      show _ = _
      rw [pre_some HN.out, takeE, if_pos HANS.out]; rfl
    obtain ⟨g, o, hA, hg, hat⟩ := HW2.out.t.at_ HN.out
    subst hA
    have n4 := hat.s
    have HR := Lib.hid hat.r
    have hkb : (n.kids.length : Int) ≤ 1000000 := by have := (hz.2 n (List.mem_of_getElem? HN.out)).2.1; omega
    have HBT2 := Lib.hid HW2.out.b0
    clear hat HW2 HS2 HB2 HANS
    go_wp2_with fail
    clear n4 t0 t1 t2
    go_loopw [55] (fun i wr => ∃ k : Nat, k ≤ n.kids.length ∧ i = .int .i64 (k : Int) ∧ Hid (Wn bt B0 bw bm (some ⟨g, o, none⟩) cap (.func (.func fid) #[] caps) St L W wr K vs ([a] ++ (n.kids.take k).flatMap (pre L f))) ∧ Hid (Below bt w1 wr) ∧ Hid (takeE ans vs.length (pre L (f + 1) (a : Int)) = (([a] ++ (n.kids.take k).flatMap (pre L f)) ++ (takeE ans (vs ++ ([a] ++ (n.kids.take k).flatMap (pre L f))).length ((n.kids.drop k).flatMap (pre L f))).1, (takeE ans (vs ++ ([a] ++ (n.kids.take k).flatMap (pre L f))).length ((n.kids.drop k).flatMap (pre L f))).2))) (fun i _ => n.kids.length - (intOf i).toNat)
    case atStart => exact ⟨0, Nat.zero_le _, rfl, by show Wn _ _ _ _ _ _ _ _ _ _ _ _ _ _; simpa using HWN.out, Below.refl _ _, by show _ = _; rw [HE0.out]; simp⟩
    case round =>
      obtain ⟨k, hk1, rfl, HV, HZ, HQ⟩ := hrel
      by_cases hlt : k < n.kids.length
      · obtain ⟨x, hx⟩ := get_some hlt
        obtain ⟨g2, o2, hka, _, hcx⟩ := (HR.out.keep (w' := wr) (Nat.le_refl _) fun b hb => HZ.out.block b hb).at_ hx
        rw [hka]
        have hxk := hk a n HN.out x (List.mem_of_getElem? hx)
        have hsp : n.kids = n.kids.take k ++ x :: n.kids.drop (k + 1) := by rw [← drop_get hx, List.take_append_drop]
        obtain ⟨dn, hdn⟩ : ∃ dn, [a] ++ (n.kids.take k).flatMap (pre L f) = dn := ⟨_, rfl⟩
        have hdn2 : [a] ++ (n.kids.take (k + 1)).flatMap (pre L f) = dn ++ pre L f x := by
          rw [List.take_add_one, hx, ← hdn]; simp
        have hwh : pre L (f + 1) (a : Int) = dn ++ (pre L f x ++ (n.kids.drop (k + 1)).flatMap (pre L f)) := by
          rw [pre_some HN.out]
          conv => lhs; rw [hsp]
          rw [← hdn]; simp
        have hnd := pre_nodup hu hk (f + 1) (a : Int)
        rw [hwh, List.nodup_append] at hnd
        rw [hdn] at HV
        have HQ2 : Hid (takeE ans vs.length (pre L (f + 1) (a : Int)) = (dn ++ (takeE ans (vs ++ dn).length (pre L f x ++ (n.kids.drop (k + 1)).flatMap (pre L f))).1, (takeE ans (vs ++ dn).length (pre L f x ++ (n.kids.drop (k + 1)).flatMap (pre L f))).2)) := by
          have := HQ.out
          rw [hdn, drop_get hx, List.flatMap_cons] at this
          exact this
        obtain ⟨K', hw', hl', ho', hs', hb'⟩ := HV.out
        have HC := Lib.hid (HIH.out x (d + 1) (vs ++ dn) K' wr hw' (by rw [hl']; exact HK.out) hs' hxk.1 (by omega) (by omega) (by omega) (fun h0 => by have := HDA.out x (List.mem_of_getElem? hx) h0; have := HDD.out; omega) fun y hy => by
          have hyp : y ∈ pre L (f + 1) (a : Int) := by rw [hwh]; exact List.mem_append_right _ (List.mem_append_left _ hy)
          have hyd : y ∉ dn := fun h => hnd.2.2 y h y (List.mem_append_left _ hy) rfl
          have := HUN.out y hyp
          exact ⟨(ho' y hyd).trans this.1, fun h => (List.mem_append.1 h).elim this.2 hyd⟩)
        obtain ⟨y0, y1, y2⟩ := cells3 hw'.w
        have HL' := Lib.hid hl'
        have HO' := Lib.hid ho'
        have HB' := Lib.hid hb'
        have HDN2 := Lib.hid hdn2
        have hkl : (k : Int) < (n.kids.length : Int) := by omega
        clear hw' hl' ho' hs' hb' hnd hwh hdn hdn2 hsp hxk hx HQ HIH
        go_wp2_with fail
        refine HC.out.mono ?_
        rintro e w2 ⟨rfl, K2, hw2, hl2, ho2, hs2, hb2⟩
        obtain ⟨t, ht⟩ : ∃ t, takeE ans (vs ++ dn).length (pre L f x) = t := ⟨_, rfl⟩
        rw [ht] at ho2 hs2 ⊢
        have HWN2 : Hid (Wn bt B0 bw bm (some ⟨g, o, none⟩) cap (.func (.func fid) #[] caps) St L W w2 K vs (dn ++ t.1)) :=
          ⟨K2, hw2, hl2.trans HL'.out, fun y hy => (ho2 y fun h => hy (List.mem_append_right _ h)).trans (HO'.out y fun h => hy (List.mem_append_left _ h)), by rw [← List.append_assoc]; exact hs2, HB'.out.trans hb2⟩
        have HZ2 := Lib.hid (HZ.out.trans hb2)
        have HT := Lib.hid ht
        clear hw2 hl2 ho2 hs2 hb2 ht HC y0 y1 y2 hcx
        obtain ⟨t1, b⟩ := t
        cases b
        · have HE : Hid (takeE ans vs.length (pre L (f + 1) (a : Int)) = (dn ++ t1, false)) := by
            show _ = _
            rw [HQ2.out, takeE_app, HT.out, if_neg (by simp)]
          go_wp2_with fail
          go_ret
          rw [HE.out]
          exact ⟨rfl, HWN2.out⟩
        · have htt : t1 = pre L f x := by have := takeE_all (ans := ans) (pre L f x) (vs ++ dn).length (by rw [HT.out]); rw [HT.out] at this; exact this
          subst htt
          go_wp2_with fail
          go_roundw
          case rel =>
            refine ⟨k + 1, by omega, by go_num, by rw [HDN2.out]; exact HWN2.out, HZ2.out, ?_⟩
            show _ = _
            rw [HDN2.out, HQ2.out, takeE_app, HT.out, if_pos rfl]
            simp [Nat.add_assoc]
          case measure => simp [intOf]; omega
      · obtain rfl : k = n.kids.length := by omega
        have HE : Hid (takeE ans vs.length (pre L (f + 1) (a : Int)) = ([a] ++ (n.kids.take n.kids.length).flatMap (pre L f), true)) := by
          have := HQ.out
          rw [List.drop_length] at this
          show _ = _
          rw [this]; simp [takeE]
        go_wp2_with fail
        go_ret
        rw [HE.out]
        exact ⟨rfl, HV.out⟩
end Go.Proofs.Ytaonojimpfhkfaa.As
