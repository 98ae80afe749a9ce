/- Contract of lex.first. -/
import Derived.Test.YthjmlgbnpnfkgaaDoorLex5
set_option linter.unusedVariables false
namespace Go.Proofs.YthjmlgbnpnfkgaaDoor.Lx
open Go.RowKit Go.ChangeShapes Go.WideShapes Go.ChangeAt Go.Proofs.YthjmlgbnpnfkgaaDoor.Nu

/-- A token (but for where it stands), how many bytes it has, and a fault. -/
structure Fst where
  k : Int
  x : List UInt8
  v : Int
  n : Nat
  c : Int
  a : Int
def Fst.val (f : Fst) : Value := retV f.k ⟨f.x.toArray⟩ f.v f.n f.c f.a
def bad (c a : Int) : Fst := ⟨0, [], 0, 0, c, a⟩
def frD (l : List UInt8) : Fst := if (numV (l.take (wl l))).2 = 0 then ⟨3, l.take (wl l), (numV (l.take (wl l))).1, wl l, 0, 0⟩ else bad (numV (l.take (wl l))).2 0
def inq (l : List UInt8) (q : Nat) : List UInt8 × Int := une (q - 1) ((l.drop 1).take (q - 1)) 0 []
def frQ (l : List UInt8) : Fst :=
  if qe l = 0 then bad 5 0
  else if (inq l (qe l)).2 < 0 then (if l.head? = some 34 then ⟨4, (inq l (qe l)).1, 0, qe l + 1, 0, 0⟩ else if (inq l (qe l)).1.length = 1 then ⟨3, l.take (qe l + 1), (((inq l (qe l)).1.headD 0).toNat : Int), qe l + 1, 0, 0⟩ else bad 5 0)
  else bad 20 (1 + (inq l (qe l)).2)
def frN (l : List UInt8) : Fst := ⟨if kws.contains (l.take (wl l)) = true then 2 else 1, l.take (wl l), 0, wl l, 0, 0⟩
def frS (l : List UInt8) : Fst := if sg l = 0 then bad 80 0 else ⟨5, l.take (sg l), 0, sg l, 0, 0⟩
/-- The token with which a text begins. -/
def frs (l : List UInt8) : Fst := match l with
  | [] => bad 80 0
  | c :: _ => if dgB c.toNat = true then frD l else if c = 39 ∨ c = 34 then frQ l else if stB c.toNat = true then frN l else frS l
theorem frs_cons (c : UInt8) (l : List UInt8) : frs (c :: l) = if dgB c.toNat = true then frD (c :: l) else if c = 39 ∨ c = 34 then frQ (c :: l) else if stB c.toNat = true then frN (c :: l) else frS (c :: l) := rfl
theorem ext_mk (s : ByteArray) (n : Nat) : s.extract 0 n = ⟨(s.data.toList.take n).toArray⟩ := bytes_ext (by rw [take_list])
theorem digits_f (s : ByteArray) (hs : s.size ≤ 1048576) (h0 : 0 < wl s.data.toList) (w : World) : Calls Tryd.prog 41 #[.string s] w fun e w' => e = .returned (frD s.data.toList).val ∧ Below w.heap.size w w' :=
  (digits_any s hs h0 w).mono fun e w' ⟨h1, h2⟩ => ⟨by
    rw [h1, ext_mk]
    unfold digV frD
    split <;> rfl, h2⟩
theorem named_f (s : ByteArray) (hs : s.size ≤ 1048576) (w : World) : Calls Tryd.prog 44 #[.string s] w fun e w' => e = .returned (frN s.data.toList).val ∧ Below w.heap.size w w' :=
  (named_any s hs w).mono fun e w' ⟨h1, h2⟩ => ⟨by
    rw [h1, ext_mk]
    unfold namV frN Fst.val
    rw [ByteArray.toList_eq], h2⟩
theorem sign_f (s : ByteArray) (hs : s.size ≤ 1048576) (w : World) : Calls Tryd.prog 45 #[.string s] w fun e w' => e = .returned (frS s.data.toList).val ∧ Below w.heap.size w w' :=
  (sign_any s hs w).mono fun e w' ⟨h1, h2⟩ => ⟨by
    rw [h1, ext_mk]
    unfold signV frS
    split <;> rfl, h2⟩
theorem quoted_f (s : ByteArray) (hs : s.size ≤ 1048576) (h0 : 0 < s.size) (w : World) : Calls Tryd.prog 42 #[.string s] w fun e w' => e = .returned (frQ s.data.toList).val ∧ Below w.heap.size w w' :=
  (quoted_any s hs h0 w).mono fun e w' ⟨h1, h2⟩ => ⟨by
    have hql : qe s.data.toList = 0 ∨ (1 ≤ qe s.data.toList ∧ qe s.data.toList < s.size) := by
      have hd0 := drop_byte s 0 h0
      rw [List.drop_zero] at hd0
      have hqe : qe s.data.toList = qeF s[0] (s.data.toList.drop 1) 1 false := by
        conv => lhs; rw [hd0]
        rfl
      have := qeF_lt s[0] (s.data.toList.drop 1) 1 false (by decide)
      rw [← hqe, List.length_drop, size_list] at this
      omega
    rw [h1]
    unfold quoV frQ
    by_cases hq : qe s.data.toList = 0
    · rw [if_pos hq, if_pos hq]; rfl
    · have hu : uneS (s.extract 1 (qe s.data.toList)) = inq s.data.toList (qe s.data.toList) := by
        have e1 : (s.extract 1 (qe s.data.toList)).data.toList = (s.data.toList.drop 1).take (qe s.data.toList - 1) := Lib.extract_data s 1 _
        have e2 : (s.extract 1 (qe s.data.toList)).size = qe s.data.toList - 1 := by simp; omega
        unfold uneS inq
        rw [e1, e2]
      rw [if_neg hq, if_neg hq, hu]
      split
      · split
        · rfl
        · split
          · rw [ext_mk]; rfl
          · rfl
      · rfl, h2⟩
set_option maxRecDepth 100000 in
set_option maxHeartbeats 2000000 in
theorem first_any (s : ByteArray) (hs : s.size ≤ 1048576) (h0 : 0 < s.size) (w : World) : Calls Tryd.prog 21 #[.string s] w fun e w' => e = .returned (frs s.data.toList).val ∧ Below w.heap.size w w' := by
  have hd0 := drop_byte s 0 h0
  rw [List.drop_zero] at hd0
  have hc := byte_lt s 0 h0
  have HB := Lib.hid (boxT_below w)
  obtain ⟨m2, m4, mz⟩ := boxT_facts w
  have HM := Lib.hid (And.intro m2 m4)
  clear m2 m4 mz
  have HN1 := Lib.hid fun w => name_one s 0 h0 w
  rw [Nat.zero_add] at HN1
  have hfr := frs_cons s[0] (s.data.toList.drop (0 + 1))
  rw [← hd0] at hfr
  rw [hfr]
  clear hfr
  have h39 : (s[0] = 39) ↔ s[0].toNat = 39 := u8_eq
  have h34 : (s[0] = 34) ↔ s[0].toNat = 34 := u8_eq
  cases hdg : dgB s[0].toNat
  · rw [if_neg (by simp)]
    by_cases hq : s[0] = 39 ∨ s[0] = 34
    · rw [if_pos hq]
      have HG := Lib.hid fun w => quoted_f s hs h0 w
      generalize frQ s.data.toList = F at *
      have hq2 : ((s[0].toNat : Int) == 39) = true ∨ (((s[0].toNat : Int) == 39) = false ∧ ((s[0].toNat : Int) == 34) = true) := by
        rw [h39, h34] at hq
        by_cases e : s[0].toNat = 39
        · left; rw [beq_iff_eq]; omega
        · right; rw [beq_eq_false_iff_ne, beq_iff_eq]; omega
      clear hq h39 h34 hd0
      rcases hq2 with hq2 | ⟨hq2, hq3⟩
      · go_enter Tryd.func21, Tryd.ntmps21
        go_wp2_with fail
        refine (isDigit_any _ hc _).mono ?_
        rintro e w' ⟨rfl, rfl⟩
        rw [hdg]
        go_wp2_with fail
        refine (HG.out _).mono ?_
        rintro e w3 ⟨rfl, hb3⟩
        have hb3' : Below (boxT w).heap.size (boxT w) w3 := hb3
        have k2 := keep HM.out.1 hb3'
        have k4 := keep HM.out.2 hb3'
        have HB3 := Lib.hid (HB.out.trans (hb3'.mono HB.out.size))
        obtain ⟨c0, c1, c2, c3, c4, c5, c6, f0, f1, f2, f3, f4, f5, f6⟩ := seven k2 k4
        have HK := Lib.hid (And.intro k2 k4)
        clear k2 k4 hb3 hb3'
        unfold Fst.val retV
        go_wp2_with fail
        (try simp only [Exit.inBlock, Exit.then])
        have HF := both_facts HK.out.1 HK.out.2 (.int .i64 F.k) (.int .i64 0) (.string ⟨F.x.toArray⟩) (.int .i64 F.v) (.bool false) (.int .i64 F.c) (.int .i64 F.a)
        refine bodyPost_ret (results_tnf rfl _ _ w.heap.size (w.heap.size + 1) _ _ rfl HF.1 rfl rfl HF.2 rfl) rfl ⟨rfl, both_below HB3.out (Nat.le_refl _) _ _ _ _ _ _ _⟩
      · go_enter Tryd.func21, Tryd.ntmps21
        go_wp2_with fail
        refine (isDigit_any _ hc _).mono ?_
        rintro e w' ⟨rfl, rfl⟩
        rw [hdg]
        go_wp2_with fail
        refine (HG.out _).mono ?_
        rintro e w3 ⟨rfl, hb3⟩
        have hb3' : Below (boxT w).heap.size (boxT w) w3 := hb3
        have k2 := keep HM.out.1 hb3'
        have k4 := keep HM.out.2 hb3'
        have HB3 := Lib.hid (HB.out.trans (hb3'.mono HB.out.size))
        obtain ⟨c0, c1, c2, c3, c4, c5, c6, f0, f1, f2, f3, f4, f5, f6⟩ := seven k2 k4
        have HK := Lib.hid (And.intro k2 k4)
        clear k2 k4 hb3 hb3'
        unfold Fst.val retV
        go_wp2_with fail
        (try simp only [Exit.inBlock, Exit.then])
        have HF := both_facts HK.out.1 HK.out.2 (.int .i64 F.k) (.int .i64 0) (.string ⟨F.x.toArray⟩) (.int .i64 F.v) (.bool false) (.int .i64 F.c) (.int .i64 F.a)
        refine bodyPost_ret (results_tnf rfl _ _ w.heap.size (w.heap.size + 1) _ _ rfl HF.1 rfl rfl HF.2 rfl) rfl ⟨rfl, both_below HB3.out (Nat.le_refl _) _ _ _ _ _ _ _⟩
    · rw [if_neg hq]
      have q39 : ((s[0].toNat : Int) == 39) = false := by rw [beq_eq_false_iff_ne]; intro h; exact hq (Or.inl (h39.2 (by omega)))
      have q34 : ((s[0].toNat : Int) == 34) = false := by rw [beq_eq_false_iff_ne]; intro h; exact hq (Or.inr (h34.2 (by omega)))
      clear hq h39 h34 hd0
      cases hst : stB s[0].toNat
      · rw [if_neg (by simp)]
        have HG := Lib.hid fun w => sign_f s hs w
        generalize frS s.data.toList = F at *
        go_enter Tryd.func21, Tryd.ntmps21
        go_wp2_with fail
        refine (isDigit_any _ hc _).mono ?_
        rintro e w' ⟨rfl, rfl⟩
        rw [hdg]
        go_wp2_with fail
        refine (HN1.out _).mono ?_
        rintro e w' ⟨rfl, rfl⟩
        rw [hst]
        go_wp2_with fail
        refine (HG.out _).mono ?_
        rintro e w3 ⟨rfl, hb3⟩
        have hb3' : Below (boxT w).heap.size (boxT w) w3 := hb3
        have k2 := keep HM.out.1 hb3'
        have k4 := keep HM.out.2 hb3'
        have HB3 := Lib.hid (HB.out.trans (hb3'.mono HB.out.size))
        obtain ⟨c0, c1, c2, c3, c4, c5, c6, f0, f1, f2, f3, f4, f5, f6⟩ := seven k2 k4
        have HK := Lib.hid (And.intro k2 k4)
        clear k2 k4 hb3 hb3'
        unfold Fst.val retV
        go_wp2_with fail
        (try simp only [Exit.inBlock, Exit.then])
        have HF := both_facts HK.out.1 HK.out.2 (.int .i64 F.k) (.int .i64 0) (.string ⟨F.x.toArray⟩) (.int .i64 F.v) (.bool false) (.int .i64 F.c) (.int .i64 F.a)
        refine bodyPost_ret (results_tnf rfl _ _ w.heap.size (w.heap.size + 1) _ _ rfl HF.1 rfl rfl HF.2 rfl) rfl ⟨rfl, both_below HB3.out (Nat.le_refl _) _ _ _ _ _ _ _⟩
      · rw [if_pos rfl]
        have HG := Lib.hid fun w => named_f s hs w
        generalize frN s.data.toList = F at *
        go_enter Tryd.func21, Tryd.ntmps21
        go_wp2_with fail
        refine (isDigit_any _ hc _).mono ?_
        rintro e w' ⟨rfl, rfl⟩
        rw [hdg]
        go_wp2_with fail
        refine (HN1.out _).mono ?_
        rintro e w' ⟨rfl, rfl⟩
        rw [hst]
        go_wp2_with fail
        refine (HG.out _).mono ?_
        rintro e w3 ⟨rfl, hb3⟩
        have hb3' : Below (boxT w).heap.size (boxT w) w3 := hb3
        have k2 := keep HM.out.1 hb3'
        have k4 := keep HM.out.2 hb3'
        have HB3 := Lib.hid (HB.out.trans (hb3'.mono HB.out.size))
        obtain ⟨c0, c1, c2, c3, c4, c5, c6, f0, f1, f2, f3, f4, f5, f6⟩ := seven k2 k4
        have HK := Lib.hid (And.intro k2 k4)
        clear k2 k4 hb3 hb3'
        unfold Fst.val retV
        go_wp2_with fail
        (try simp only [Exit.inBlock, Exit.then])
        have HF := both_facts HK.out.1 HK.out.2 (.int .i64 F.k) (.int .i64 0) (.string ⟨F.x.toArray⟩) (.int .i64 F.v) (.bool false) (.int .i64 F.c) (.int .i64 F.a)
        refine bodyPost_ret (results_tnf rfl _ _ w.heap.size (w.heap.size + 1) _ _ rfl HF.1 rfl rfl HF.2 rfl) rfl ⟨rfl, both_below HB3.out (Nat.le_refl _) _ _ _ _ _ _ _⟩
  · rw [if_pos rfl]
    have hwl : 0 < wl s.data.toList := by
      rw [hd0, wl_yes (by unfold isW; rw [hdg]; rfl)]; omega
    have HG := Lib.hid fun w => digits_f s hs hwl w
    generalize frD s.data.toList = F at *
    clear h39 h34 hd0 hwl
    go_enter Tryd.func21, Tryd.ntmps21
    go_wp2_with fail
    refine (isDigit_any _ hc _).mono ?_
    rintro e w' ⟨rfl, rfl⟩
    rw [hdg]
    go_wp2_with fail
    refine (HG.out _).mono ?_
    rintro e w3 ⟨rfl, hb3⟩
    have hb3' : Below (boxT w).heap.size (boxT w) w3 := hb3
    have k2 := keep HM.out.1 hb3'
    have k4 := keep HM.out.2 hb3'
    have HB3 := Lib.hid (HB.out.trans (hb3'.mono HB.out.size))
    obtain ⟨c0, c1, c2, c3, c4, c5, c6, f0, f1, f2, f3, f4, f5, f6⟩ := seven k2 k4
    have HK := Lib.hid (And.intro k2 k4)
    clear k2 k4 hb3 hb3'
    unfold Fst.val retV
    go_wp2_with fail
    (try simp only [Exit.inBlock, Exit.then])
    have HF := both_facts HK.out.1 HK.out.2 (.int .i64 F.k) (.int .i64 0) (.string ⟨F.x.toArray⟩) (.int .i64 F.v) (.bool false) (.int .i64 F.c) (.int .i64 F.a)
    refine bodyPost_ret (results_tnf rfl _ _ w.heap.size (w.heap.size + 1) _ _ rfl HF.1 rfl rfl HF.2 rfl) rfl ⟨rfl, both_below HB3.out (Nat.le_refl _) _ _ _ _ _ _ _⟩
end Go.Proofs.YthjmlgbnpnfkgaaDoor.Lx
