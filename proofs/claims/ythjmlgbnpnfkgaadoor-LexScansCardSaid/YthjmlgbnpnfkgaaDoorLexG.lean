/- A token that is shown is cut as itself. -/
import Derived.Test.YthjmlgbnpnfkgaaDoorLexE
import Derived.Test.YthjmlgbnpnfkgaaDoorUneE
set_option linter.unusedVariables false
namespace Go.Proofs.YthjmlgbnpnfkgaaDoor.Lx
open Go.RowKit Go.ChangeShapes Go.WideShapes Go.ChangeAt Go.Proofs.YthjmlgbnpnfkgaaDoor.Nu

theorem wl_take : ∀ l : List UInt8, wl (l.take (wl l)) = wl l
  | [] => rfl
  | c :: l => by
    by_cases h : isW c = true
    · rw [wl_yes h, List.take_succ_cons, wl_yes h, wl_take l]
    · rw [Bool.not_eq_true] at h
      rw [wl_no h]; rfl
theorem take_self (l : List UInt8) (n : Nat) (h : n ≤ l.length) : (l.take n).take n = l.take n ∧ (l.take n).length = n := ⟨by rw [List.take_take, Nat.min_self], by rw [List.length_take]; omega⟩
/-- How a quote's reading stands behind a piece in which it doesn't end. -/
def qst (q : UInt8) : Bool → List UInt8 → Option Bool
  | b, [] => some b
  | b, c :: l => if c = 10 then none else if c = q ∧ b = false then none else qst q (c == 92 && !b) l
theorem qst_run (q : UInt8) : ∀ (l r : List UInt8) (a : Nat) (b b' : Bool), qst q b l = some b' → qeF q (l ++ r) a b = qeF q r (a + l.length) b'
  | [], r, a, b, b', h => by rw [qst] at h; cases h; rfl
  | c :: l, r, a, b, b', h => by
    rw [qst] at h
    by_cases h1 : c = 10
    · rw [if_pos h1] at h; cases h
    · rw [if_neg h1] at h
      by_cases h2 : c = q ∧ b = false
      · rw [if_pos h2] at h; cases h
      · rw [if_neg h2] at h
        rw [List.cons_append, qe_on h1 h2, qst_run q l r _ _ _ h, List.length_cons]
        congr 1; omega
theorem qst_esc : ∀ c : Fin 256, qst 34 false (esc c.val) = some false := by decide +kernel
theorem qe_escs : ∀ (l r : List UInt8) (a : Nat), qeF 34 (escs l ++ r) a false = qeF 34 r (a + (escs l).length) false
  | [], r, a => rfl
  | c :: l, r, a => by
    rw [escs, List.append_assoc, qst_run 34 (esc c.toNat) _ a false false (qst_esc ⟨c.toNat, c.toNat_lt⟩), qe_escs l r, List.length_append]
    congr 1; omega
theorem qeF_take (q : UInt8) : ∀ (l : List UInt8) (a : Nat) (b : Bool), 0 < a → qeF q l a b ≠ 0 → qeF q (l.take (qeF q l a b - a + 1)) a b = qeF q l a b
  | [], a, b, _, h => absurd rfl h
  | c :: l, a, b, h0, h => by
    by_cases h1 : c = 10
    · rw [qe_stop h1] at h; exact absurd rfl h
    · by_cases h2 : c = q ∧ b = false
      · rw [qe_here h1 h2, List.take_succ_cons, qe_here h1 h2]
      · rw [qe_on h1 h2] at h ⊢
        have h3 := (qeF_lt q l (a + 1) (c == 92 && !b) (by omega)).resolve_left h
        rw [List.take_succ_cons, qe_on h1 h2]
        have h4 := qeF_take q l (a + 1) _ (by omega) h
        rw [show qeF q l (a + 1) (c == 92 && !b) - a = qeF q l (a + 1) (c == 92 && !b) - (a + 1) + 1 by omega]
        exact h4
/-- No gap begins where this does. -/
def NG (x : List UInt8) : Prop := ∃ d m, x = d :: m ∧ ¬ d = 10 ∧ ¬ (d = 32 ∨ d = 9 ∨ d = 13) ∧ ¬ (d = 35 ∨ Lib.hasPrefix x [47, 47] = true) ∧ ¬ Lib.hasPrefix x [47, 42] = true
theorem ng_head {d : UInt8} {m : List UInt8} (h1 : ¬ d = 10) (h2 : ¬ (d = 32 ∨ d = 9 ∨ d = 13)) (h3 : ¬ d = 35) (h4 : ¬ d = 47) : NG (d :: m) := by
  have h5 : (47 == d) = false := by rw [beq_eq_false_iff_ne]; exact fun e => h4 e.symm
  exact ⟨d, m, rfl, h1, h2, by simp [Lib.hasPrefix, List.isPrefixOf, h5, h3], by simp [Lib.hasPrefix, List.isPrefixOf, h5]⟩
theorem ng_gap {x : List UInt8} (h : NG x) (f e : Nat) (b : Bool) (z : List UInt8) (hz : z = [] ∨ ∃ c0 r, Sep c0 ∧ z = c0 :: r) : gapF (f + 1) (x ++ z) e b = (e, b, true) := by
  obtain ⟨d, m, rfl, h1, h2, h3, h4⟩ := h
  rcases hz with rfl | ⟨c0, r, hs, rfl⟩
  · rw [List.append_nil]; exact gap_end h1 h2 h3 h4
  · have e1 := hp2_app d c0 47 47 m r (by rcases hs with rfl | rfl <;> decide)
    have e2 := hp2_app d c0 47 42 m r (by rcases hs with rfl | rfl <;> decide)
    rw [List.cons_append]
    exact gap_end h1 h2 (by rw [e1]; exact h3) (by rw [e2]; exact h4)
theorem ng_signs : ∀ x ∈ signs, (match x with | [] => false | d :: _ => !(d == 10) && !(d == 32) && !(d == 9) && !(d == 13) && !(d == 35) && !Lib.hasPrefix x [47, 47] && !Lib.hasPrefix x [47, 42] && !dgB d.toNat && !(d == 39) && !(d == 34) && !stB d.toNat) = true := by decide +kernel
theorem sg_in {l : List UInt8} (h : sg l ≠ 0) : signs.contains (l.take (sg l)) = true := by
  unfold sg at h ⊢
  by_cases h3 : 3 ≤ l.length ∧ signs.contains (l.take 3) = true
  · rw [if_pos h3]; exact h3.2
  · rw [if_neg h3] at h ⊢
    by_cases h2 : 2 ≤ l.length ∧ signs.contains (l.take 2) = true
    · rw [if_pos h2]; exact h2.2
    · rw [if_neg h2] at h ⊢
      by_cases h1 : 1 ≤ l.length ∧ signs.contains (l.take 1) = true
      · rw [if_pos h1]; exact h1.2
      · rw [if_neg h1] at h; exact absurd rfl h
/-- What is shown is cut as itself. -/
structure Good (t : Tk) : Prop where
  cut : frs (shw t) = ⟨t.k, t.x, t.v, (shw t).length, 0, 0⟩
  ng : NG (shw t)
theorem head_w {c : UInt8} (h : dgB c.toNat = true ∨ stB c.toNat = true) : ¬ c = 10 ∧ ¬ (c = 32 ∨ c = 9 ∨ c = 13) ∧ ¬ c = 35 ∧ ¬ c = 47 := by
  have key : ∀ x : Fin 256, (dgB x.val || stB x.val) = true → x.val ≠ 10 ∧ x.val ≠ 32 ∧ x.val ≠ 9 ∧ x.val ≠ 13 ∧ x.val ≠ 35 ∧ x.val ≠ 47 := by decide +kernel
  obtain ⟨k1, k2, k3, k4, k5, k6⟩ := key ⟨c.toNat, c.toNat_lt⟩ (by rcases h with h | h <;> simp [h])
  refine ⟨?_, ?_, ?_, ?_⟩ <;> simp only [u8_eq] <;> first | exact k1 | exact k5 | exact k6 | exact fun h => by rcases h with h | h | h <;> simp_all
theorem good_of (c : UInt8) (m : List UInt8) (h : (frs (c :: m)).c = 0) (a : Int) (b : Bool) : Good ⟨(frs (c :: m)).k, a, (frs (c :: m)).x, (frs (c :: m)).v, b⟩ ∧ (shw ⟨(frs (c :: m)).k, a, (frs (c :: m)).x, (frs (c :: m)).v, b⟩).length ≤ 4 * (frs (c :: m)).n := by
  rw [frs_cons] at h ⊢
  by_cases h1 : dgB c.toNat = true
  · rw [if_pos h1] at h ⊢
    have hw : isW c = true := by unfold isW; rw [h1]; rfl
    have hwl : wl (c :: m) = wl m + 1 := wl_yes hw
    unfold frD at h ⊢
    by_cases h2 : (numV ((c :: m).take (wl (c :: m)))).2 = 0
    · rw [if_pos h2]
      obtain ⟨t1, t2⟩ := take_self _ _ (wl_le (c :: m))
      rw [shw_else (by decide : ¬ (3 : Int) = 4)]
      dsimp only
      refine ⟨⟨?_, ?_⟩, by rw [t2]; omega⟩
      · rw [shw_else (by decide : ¬ (3 : Int) = 4)]
        dsimp only
        have e : (c :: m).take (wl (c :: m)) = c :: m.take (wl m) := by rw [hwl, List.take_succ_cons]
        have : frs ((c :: m).take (wl (c :: m))) = frD ((c :: m).take (wl (c :: m))) := by rw [e, frs_cons, if_pos h1]
        rw [this]
        unfold frD
        rw [wl_take, t1, if_pos h2, t2]
      · rw [shw_else (by decide : ¬ (3 : Int) = 4)]
        obtain ⟨g1, g2, g3, g4⟩ := head_w (Or.inl h1)
        dsimp only
        rw [hwl, List.take_succ_cons]
        exact ng_head g1 g2 g3 g4
    · rw [if_neg h2] at h; exact absurd (Int.ofNat.inj h) h2
  · rw [if_neg h1] at h ⊢
    by_cases h2 : c = 39 ∨ c = 34
    · rw [if_pos h2] at h ⊢
      unfold frQ at h ⊢
      by_cases h3 : qe (c :: m) = 0
      · rw [if_pos h3] at h; exact absurd h (by show ¬ (5 : Int) = 0; decide)
      · rw [if_neg h3] at h ⊢
        have hlt := (qe_lt (c :: m)).resolve_left h3
        by_cases h4 : (inq (c :: m) (qe (c :: m))).2 < 0
        · rw [if_pos h4] at h ⊢
          by_cases h5 : (c :: m).head? = some 34
          · rw [if_pos h5]
            generalize hT : (inq (c :: m) (qe (c :: m))).1 = T
            have hTl : T.length ≤ qe (c :: m) - 1 := by
              rw [← hT]; unfold inq
              rcases une_bd (qe (c :: m) - 1) (((c :: m).drop 1).take (qe (c :: m) - 1)) 0 [] (by rw [List.length_take]; omega) with ⟨r, e1, e2⟩ | ⟨n, e1, e2⟩
              · rw [e1]; rw [List.length_take] at e2; simp at e2 ⊢; omega
              · rw [e1]; simp
            have hl := escs_le T
            have hge := escs_ge T
            refine ⟨⟨?_, ?_⟩, by rw [shw_str rfl]; simp; omega⟩
            · rw [shw_str rfl, frs_cons, if_neg (by decide), if_pos (by decide)]
              dsimp only
              have hq : qe (34 :: (escs T ++ [34])) = 1 + (escs T).length := by
                show qeF 34 (escs T ++ [34]) 1 false = _
                rw [qe_escs, qe_here (by decide) (by decide)]
              unfold frQ
              rw [hq, if_neg (by omega)]
              have hi : inq (34 :: (escs T ++ [34])) (1 + (escs T).length) = (T, -1) := by
                unfold inq
                rw [show 1 + (escs T).length - 1 = (escs T).length by omega, show (34 :: (escs T ++ [34])).drop 1 = escs T ++ [34] from rfl, List.take_append_of_le_length (Nat.le_refl _), List.take_length, une_escs T _ _ _ hge]
                rfl
              rw [hi, if_pos (show ((T, -1) : List UInt8 × Int).2 < 0 by show (-1 : Int) < 0; decide), if_pos (show (34 :: (escs T ++ [34])).head? = some 34 from rfl)]
              congr 1
              simp; omega
            · rw [shw_str rfl]; exact ng_head (by decide) (by decide) (by decide) (by decide)
          · rw [if_neg h5] at h ⊢
            have hc : c = 39 := h2.resolve_right (fun e => h5 (by rw [e]; rfl))
            subst hc
            by_cases h6 : (inq (39 :: m) (qe (39 :: m))).1.length = 1
            · rw [if_pos h6]
              obtain ⟨t1, t2⟩ := take_self (39 :: m) (qe (39 :: m) + 1) (by omega)
              have hsh : ∀ (a v : Int) (b : Bool), shw ⟨3, a, (39 :: m).take (qe (39 :: m) + 1), v, b⟩ = (39 :: m).take (qe (39 :: m) + 1) := fun a v b => shw_else (by decide : ¬ (3 : Int) = 4)
              have e : (39 :: m).take (qe (39 :: m) + 1) = 39 :: m.take (qe (39 :: m)) := by rw [List.take_succ_cons]
              have hq : qe ((39 :: m).take (qe (39 :: m) + 1)) = qe (39 :: m) := by
                have := qeF_take 39 m 1 false (by decide) h3
                rw [e]
                show qeF 39 (m.take (qeF 39 m 1 false)) 1 false = qeF 39 m 1 false
                have h8 : qeF 39 m 1 false ≠ 0 := h3
                rw [show qeF 39 m 1 false - 1 + 1 = qeF 39 m 1 false by omega] at this
                exact this
              refine ⟨⟨?_, ?_⟩, by rw [hsh, List.length_take]; dsimp only; omega⟩
              · rw [hsh]
                have : frs ((39 :: m).take (qe (39 :: m) + 1)) = frQ ((39 :: m).take (qe (39 :: m) + 1)) := by rw [e, frs_cons, if_neg (by decide), if_pos (by decide)]
                rw [this]
                have hi : inq ((39 :: m).take (qe (39 :: m) + 1)) (qe (39 :: m)) = inq (39 :: m) (qe (39 :: m)) := by
                  unfold inq
                  rw [e]
                  show une _ ((m.take (qe (39 :: m))).take (qe (39 :: m) - 1)) 0 [] = une _ (m.take (qe (39 :: m) - 1)) 0 []
                  rw [List.take_take, Nat.min_eq_left (by omega)]
                unfold frQ
                rw [hq, if_neg h3, hi, if_pos h4, if_neg (by rw [e]; show ¬ some (39 : UInt8) = some 34; decide), if_pos h6, t1, t2]
              · rw [hsh, e]; exact ng_head (by decide) (by decide) (by decide) (by decide)
            · rw [if_neg h6] at h; exact absurd h (by show ¬ (5 : Int) = 0; decide)
        · rw [if_neg h4] at h; exact absurd h (by show ¬ (20 : Int) = 0; decide)
    · rw [if_neg h2] at h ⊢
      by_cases h3 : stB c.toNat = true
      · rw [if_pos h3]
        have hw : isW c = true := by unfold isW; rw [h3, Bool.or_true]
        have hwl : wl (c :: m) = wl m + 1 := wl_yes hw
        unfold frN
        obtain ⟨t1, t2⟩ := take_self _ _ (wl_le (c :: m))
        generalize hk : (if kws.contains ((c :: m).take (wl (c :: m))) = true then (2 : Int) else 1) = k
        have hk4 : ¬ k = 4 := by rw [← hk]; split <;> decide
        have hsh : ∀ (a v : Int) (b : Bool), shw ⟨k, a, (c :: m).take (wl (c :: m)), v, b⟩ = (c :: m).take (wl (c :: m)) := fun a v b => shw_else hk4
        have e : (c :: m).take (wl (c :: m)) = c :: m.take (wl m) := by rw [hwl, List.take_succ_cons]
        refine ⟨⟨?_, ?_⟩, by rw [hsh, List.length_take]; dsimp only; omega⟩
        · rw [hsh]
          have : frs ((c :: m).take (wl (c :: m))) = frN ((c :: m).take (wl (c :: m))) := by rw [e, frs_cons, if_neg h1, if_neg h2, if_pos h3]
          rw [this]
          unfold frN
          rw [wl_take, t1, t2, hk]
        · rw [hsh, e]
          obtain ⟨g1, g2, g3, g4⟩ := head_w (Or.inr h3)
          exact ng_head g1 g2 g3 g4
      · rw [if_neg h3] at h ⊢
        unfold frS at h ⊢
        by_cases h4 : sg (c :: m) = 0
        · rw [if_pos h4] at h; exact absurd h (by show ¬ (80 : Int) = 0; decide)
        · rw [if_neg h4]
          obtain ⟨s1, s3⟩ := sg_le (c :: m)
          obtain ⟨t1, t2⟩ := take_self _ _ s1
          have hin := sg_in h4
          have hsh : ∀ (a v : Int) (b : Bool), shw ⟨5, a, (c :: m).take (sg (c :: m)), v, b⟩ = (c :: m).take (sg (c :: m)) := fun a v b => shw_else (by decide : ¬ (5 : Int) = 4)
          have e : (c :: m).take (sg (c :: m)) = c :: m.take (sg (c :: m) - 1) := by
            obtain ⟨j, hj⟩ : ∃ j, sg (c :: m) = j + 1 := ⟨sg (c :: m) - 1, by omega⟩
            rw [hj, List.take_succ_cons]; rfl
          have hg := ng_signs _ (List.contains_iff_mem.1 hin)
          have hs2 : sg ((c :: m).take (sg (c :: m))) = sg (c :: m) := sg_at (by omega) s3 (by omega) (by rw [t1]; exact hin) (fun j h5 h6 h7 => by omega)
          refine ⟨⟨?_, ?_⟩, by rw [hsh, List.length_take]; dsimp only; omega⟩
          · rw [hsh]
            have : frs ((c :: m).take (sg (c :: m))) = frS ((c :: m).take (sg (c :: m))) := by rw [e, frs_cons, if_neg h1, if_neg h2, if_neg h3]
            rw [this]
            unfold frS
            rw [hs2, if_neg h4, t1, t2]
          · rw [hsh]
            rw [e] at hg ⊢
            simp only [Bool.and_eq_true, Bool.not_eq_true', beq_eq_false_iff_ne] at hg
            obtain ⟨⟨⟨⟨⟨⟨⟨⟨⟨⟨g1, g2⟩, g3⟩, g4⟩, g5⟩, g6⟩, g7⟩, _⟩, _⟩, _⟩, _⟩ := hg
            refine ⟨c, _, rfl, g1, ?_, ?_, ?_⟩
            · rintro (h | h | h) <;> contradiction
            · rintro (h | h)
              · contradiction
              · rw [h] at g6; cases g6
            · intro h; rw [h] at g7; cases g7
end Go.Proofs.YthjmlgbnpnfkgaaDoor.Lx
