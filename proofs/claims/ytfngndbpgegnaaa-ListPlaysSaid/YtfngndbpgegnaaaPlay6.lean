/- 'ListPlays': cases of a round. -/
import Derived.Test.YtfngndbpgegnaaaPlay2
set_option linter.unusedVariables false
namespace Go.Proofs.Ytfngndbpgegnaaa.Li
open Go.RowKit Go.ChangeShapes Go.WideShapes Go.ChangeAt Go.Proofs.Ytfngndbpgegnaaa.Va
set_option maxRecDepth 1000000 in
set_option maxHeartbeats 8000000 in
theorem case_rem_yes (B b g off n cap : Nat) (w0 : World) (c0 c1 c5 c15 c16 c17 c18 c19 c20 c21 c22 c23 c24 c25 c26 : Value) (u2 u6 u7 u8 u9 u10 u11 u12 u13 u14 u30 u31 u32 u33 u34 u35 u36 u37 u38 u39 u40 u41 u42 u43 u44 u45 u46 u47 u48 u49 u50 u51 u52 u53 u54 u55 u56 u57 u58 u59 u60 u61 u62 u63 u64 u65 u66 u67 u68 u69 u70 u71 u72 u73 u74 u75 u76 u77 u78 u79 u80 u81 u82 u83 u84 u85 u86 u87 u88 u89 u90 u91 u92 u93 u94 u95 u96 u97 u98 u99 u100 u101 u102 u103 u104 u105 u106 u107 u108 u109 u110 u111 u112 u113 u114 u115 u116 u117 u118 u119 u120 u121 u122 u123 u124 u125 u126 u127 u128 u129 u130 u131 u132 u133 u134 u135 u136 u137 u138 u139 u140 u141 u142 u143 u144 u145 u146 u147 u148 u149 u150 u151 u152 u153 u154 u155 u156 u157 u158 u159 u160 u161 u162 u163 u164 u165 u166 u167 u168 u169 u170 u171 u172 u173 u174 u175 u176 u177 u178 u179 u180 u181 u182 u183 u184 u185 u186 u187 u188 u189 u190 u191 u192 u193 u194 u195 u196 u197 u198 u199 u200 u201 u202 u203 u204 u205 u206 u207 u208 u209 u210 u211 u212 u213 u214 u215 u216 u217 u218 u219 u220 u221 u222 : Value) (Q0 : Exit → Act → World → Prop) (a0 : Act) (wr : World) (k m : Nat) (M : List (Int × Int × ByteArray)) (adl adw : Option Addr) (capl capw : Nat) (ok oa vk vn : Int) (vs : ByteArray)
    (HT : Hid (Two B b adl capl adw capw wr M M)) (hm : m ≤ 300 + 2 * k) (hlen : Hid (M.length = m)) (HZ : Hid (Below w0.heap.size w0 wr)) (hB : Hid (B = w0.heap.size)) (hk : k < n) (hn : n ≤ 80)
    (hop : wr.cell? ⟨g, off + k * 5, none⟩ = some (.int .i64 ok) ∧ wr.cell? ⟨g, off + k * 5 + 1, none⟩ = some (.int .i64 oa) ∧ wr.cell? ⟨g, off + k * 5 + 2, none⟩ = some (.int .i64 vk) ∧ wr.cell? ⟨g, off + k * 5 + 3, none⟩ = some (.int .i64 vn) ∧ wr.cell? ⟨g, off + k * 5 + 4, none⟩ = some (.string vs)) (i j : Nat) (hok : ok = 4) (hi : oa = (i : Int)) (hmj : m = j + 1) (hij : i ≤ j) :
    Code.wp Try.prog body (Exit.then (fun a' w'' => WI B b g off n cap w0 c0 c1 c5 c15 c16 c17 c18 c19 c20 c21 c22 c23 c24 c25 c26 a' w'' ∧ Wmu n a' w'' < Wmu n ⟨#[c0, c1, u2, .pointer (some ⟨b, 0, none⟩), .slice adw m capw, c5, u6, u7, u8, u9, u10, u11, u12, u13, u14, c15, c16, c17, c18, c19, c20, c21, c22, c23, c24, c25, c26, .slice (some ⟨g, off, none⟩) n cap, .int .i64 (n : Int), .int .i64 (k : Int), u30, u31, u32, u33, u34, u35, u36, u37, u38, u39, u40, u41, u42, u43, u44, u45, u46, u47, u48, u49, u50, u51, u52, u53, u54, u55, u56, u57, u58, u59, u60, u61, u62, u63, u64, u65, u66, u67, u68, u69, u70, u71, u72, u73, u74, u75, u76, u77, u78, u79, u80, u81, u82, u83, u84, u85, u86, u87, u88, u89, u90, u91, u92, u93, u94, u95, u96, u97, u98, u99, u100, u101, u102, u103, u104, u105, u106, u107, u108, u109, u110, u111, u112, u113, u114, u115, u116, u117, u118, u119, u120, u121, u122, u123, u124, u125, u126, u127, u128, u129, u130, u131, u132, u133, u134, u135, u136, u137, u138, u139, u140, u141, u142, u143, u144, u145, u146, u147, u148, u149, u150, u151, u152, u153, u154, u155, u156, u157, u158, u159, u160, u161, u162, u163, u164, u165, u166, u167, u168, u169, u170, u171, u172, u173, u174, u175, u176, u177, u178, u179, u180, u181, u182, u183, u184, u185, u186, u187, u188, u189, u190, u191, u192, u193, u194, u195, u196, u197, u198, u199, u200, u201, u202, u203, u204, u205, u206, u207, u208, u209, u210, u211, u212, u213, u214, u215, u216, u217, u218, u219, u220, u221, u222], []⟩ wr) (QQ Q0 a0)) ⟨#[c0, c1, u2, .pointer (some ⟨b, 0, none⟩), .slice adw m capw, c5, u6, u7, u8, u9, u10, u11, u12, u13, u14, c15, c16, c17, c18, c19, c20, c21, c22, c23, c24, c25, c26, .slice (some ⟨g, off, none⟩) n cap, .int .i64 (n : Int), .int .i64 (k : Int), u30, u31, u32, u33, u34, u35, u36, u37, u38, u39, u40, u41, u42, u43, u44, u45, u46, u47, u48, u49, u50, u51, u52, u53, u54, u55, u56, u57, u58, u59, u60, u61, u62, u63, u64, u65, u66, u67, u68, u69, u70, u71, u72, u73, u74, u75, u76, u77, u78, u79, u80, u81, u82, u83, u84, u85, u86, u87, u88, u89, u90, u91, u92, u93, u94, u95, u96, u97, u98, u99, u100, u101, u102, u103, u104, u105, u106, u107, u108, u109, u110, u111, u112, u113, u114, u115, u116, u117, u118, u119, u120, u121, u122, u123, u124, u125, u126, u127, u128, u129, u130, u131, u132, u133, u134, u135, u136, u137, u138, u139, u140, u141, u142, u143, u144, u145, u146, u147, u148, u149, u150, u151, u152, u153, u154, u155, u156, u157, u158, u159, u160, u161, u162, u163, u164, u165, u166, u167, u168, u169, u170, u171, u172, u173, u174, u175, u176, u177, u178, u179, u180, u181, u182, u183, u184, u185, u186, u187, u188, u189, u190, u191, u192, u193, u194, u195, u196, u197, u198, u199, u200, u201, u202, u203, u204, u205, u206, u207, u208, u209, u210, u211, u212, u213, u214, u215, u216, u217, u218, u219, u220, u221, u222], []⟩ wr := by
  obtain ⟨c0, c1, c2, c3, c4⟩ := hop
  have hk1 : (k : Int) < (n : Int) := by omega
  have hW0 := heap_alloc_new wr (.cells #[.int .i64 ok, .int .i64 oa, .int .i64 vk, .int .i64 vn, .string vs] 32)
  have hE0 : Below wr.heap.size wr (wr.alloc (.cells #[.int .i64 ok, .int .i64 oa, .int .i64 vk, .int .i64 vn, .string vs] 32)) := (Below.refl _ _).alloc (Nat.le_refl _) _
  have hs0 : (wr.alloc (.cells #[.int .i64 ok, .int .i64 oa, .int .i64 vk, .int .i64 vn, .string vs] 32)).heap.size = wr.heap.size + 1 := by simp
  have HT0 := Lib.hid (two_below HT.out hE0)
  have HE0 := Lib.hid hE0
  have HW0 := Lib.hid hW0
  have hbw := lt_of_block HT.out.l.blk
  have hrow := list_row HT.out.l
  have HROW := Lib.hid hrow
  clear hE0 hW0 hrow
  subst hok
  subst hi
  subst hmj
  have hjl : i < M.length := by have := hlen.out; omega
  have hE1 := HE0.out.alloc (by simp) (.cells #[.int .i64 0, .int .i64 0, .string ⟨#[]⟩] 30)
  have hP := remove_yes B b adl capl M i j hlen.out hij (by have := hlen.out; omega) _ (two_below HT.out hE1).l
  unfold agg at hP
  have HAT := Lib.hid fun (W : World) (g' : Nat) (h : Own B (some ⟨g', 0, none⟩) capw W M) => own_at h i hjl
  obtain ⟨gw, hgw, _, hgw2⟩ := own_some HT.out.s (by omega)
  subst hgw
  have hcap := own_cap HT.out.s
  rw [hlen.out] at hcap
  generalize M[i] = x at *
  have HP := Lib.hid hP
  have hq : ((wr.alloc (.cells #[.int .i64 4, .int .i64 (i : Int), .int .i64 vk, .int .i64 vn, .string vs] 32)).alloc (.cells #[.int .i64 0, .int .i64 0, .string ⟨#[]⟩] 30)).heap[wr.heap.size + 1]? = some (.cells #[.int .i64 0, .int .i64 0, .string ⟨#[]⟩] 30) := by
    have := heap_alloc_new (wr.alloc (.cells #[.int .i64 4, .int .i64 (i : Int), .int .i64 vk, .int .i64 vn, .string vs] 32)) (.cells #[.int .i64 0, .int .i64 0, .string ⟨#[]⟩] 30)
    rw [hs0] at this
    exact this
  have HQ := Lib.hid hq
  have HE1 := Lib.hid hE1
  have HWE := Lib.hid (keep HW0.out ((Below.refl _ _).alloc (Nat.le_refl _) (.cells #[.int .i64 0, .int .i64 0, .string ⟨#[]⟩] 30)))
  have hj0 : (0 : Int) ≤ (i : Int) := by omega
  have hj1 : (i : Int) < ((j + 1 : Nat) : Int) := by omega
  have hj2 : (i : Int) ≤ (capw : Int) := by omega
  have hj3 : i ≤ capw := by omega
  have hjb : j ≤ 1000 := by omega
  have hj4 : (0 : Int) ≤ (i : Int) + 1 := by omega
  have hj5 : (i : Int) + 1 ≤ ((j + 1 : Nat) : Int) := by omega
  have hj6 : ((i : Int) + 1).toNat = i + 1 := by omega
  have hj7 : IntKind.i64.wrap ((i : Int) + 1) = (i : Int) + 1 := by rw [IntKind.wrap_i64]; omega
  have hj8 : j + 1 - (i + 1) = j - i := by omega
  have hj9 : ¬ capw = i := by omega
  have hj10 : (i : Int) ≤ (i : Int) + 1 := by omega
  have Hcap := Lib.hid hcap
  clear hP hE1 hq hjl hcap
  conv => arg 2; whnf
  go_wp2_with fail
  all_goals refine HP.out.mono ?_
  all_goals
    intro e w1 hh
    have he := hh.1
    subst he
    have hS := hh.2
    have hN1 : ∀ g, adl.map (·.block) = some g → g < wr.heap.size := HROW.out
    have hU := hS.2
    have hq1 := upd_blk HQ.out hU (by omega) (fun e => by have := hN1 _ e; omega)
    have hp1 := upd_blk HWE.out hU (by omega) (fun e => by have := hN1 _ e; omega)
    obtain ⟨z0, z1, z2, y0, y1, y2⟩ := three_facts hq1
    have hT1 := two_same (two_below HT.out HE1.out) hS
    have hZ1 := two_low (HZ.out.trans (HE1.out.mono HZ.out.size)) (HZ.out.trans (HE1.out.mono HZ.out.size)).size (Nat.le_of_eq rfl) (by have := two_below HT.out HE1.out; rw [hB.out] at this; exact this) hU
    have hN2 : ∀ g, (some (⟨gw, 0, none⟩ : Addr)).map (·.block) = some g → g < wr.heap.size := fun g e => by simp at e; omega
    have hT2 := two_off (two_off (two_off hT1 hbw hN1 hN2 (p := ⟨wr.heap.size + 1, 0, none⟩) (by simp) (.int .i64 x.1)) hbw hN1 hN2 (p := ⟨wr.heap.size + 1, 1, none⟩) (by simp) (.int .i64 x.2.1)) hbw hN1 hN2 (p := ⟨wr.heap.size + 1, 2, none⟩) (by simp) (.string x.2.2)
    have hws : w0.heap.size ≤ wr.heap.size := HZ.out.size
    have hZ2 := ((hZ1.setCell (p := ⟨wr.heap.size + 1, 0, none⟩) (Nat.le_trans hws (Nat.le_succ _)) (.int .i64 x.1)).setCell (p := ⟨wr.heap.size + 1, 1, none⟩) (Nat.le_trans hws (Nat.le_succ _)) (.int .i64 x.2.1)).setCell (p := ⟨wr.heap.size + 1, 2, none⟩) (Nat.le_trans hws (Nat.le_succ _)) (.string x.2.2)
    have hq2 := heap_three hq1 (.int .i64 x.1) (.int .i64 x.2.1) (.string x.2.2)
    have hp2 : (((w1.setCell ⟨wr.heap.size + 1, 0, none⟩ (.int .i64 x.1)).setCell ⟨wr.heap.size + 1, 1, none⟩ (.int .i64 x.2.1)).setCell ⟨wr.heap.size + 1, 2, none⟩ (.string x.2.2)).heap[wr.heap.size]? = _ := set_off (by omega) (set_off (by omega) (set_off (by omega) hp1))
    generalize hw2 : ((w1.setCell ⟨wr.heap.size + 1, 0, none⟩ (.int .i64 x.1)).setCell ⟨wr.heap.size + 1, 1, none⟩ (.int .i64 x.2.1)).setCell ⟨wr.heap.size + 1, 2, none⟩ (.string x.2.2) = w2 at *
    obtain ⟨d0, d1, d2, _, _, _⟩ := three_facts hq2
    obtain ⟨o0, o1, o2, o3, o4⟩ := five_facts hp2
    obtain ⟨f0, f1, f2⟩ := HAT.out w2 gw hT2.s
    have HT2 := Lib.hid hT2
    have HZ2 := Lib.hid hZ2
    have HW2 := Lib.hid hw2
    have HP2 := Lib.hid hp2
    clear hh hS hU hT1 hZ1 hT2 hZ2 hq1 hq2 hp1 hp2 hN1 hN2 hws hw2
    go_wp2_with fail
    simp only [HW2.out]
    go_quiet (fail)
    go_wp2_with fail
    have hZ3 := below_drewN (n := nq) HZ2.out
    have hT3 := two_below HT2.out (below_drewN (n := nq) (Below.refl _ _))
    have hP3 : (w2.drewN nq).heap[wr.heap.size]? = _ := HP2.out
    generalize w2.drewN nq = w3 at *
    obtain ⟨ad1, cap1, w4, ad2, cap2, w5, hr1, hr2, hb4, hb5, hT5⟩ := chain_rem (o := if capw = i + 1 then 0 else (i + 1) * 3) hT3 hlen.out hij hjb (by rw [hB.out]; exact hZ3.size) (by have := Hcap.out; split <;> omega) capw (capw - (i + 1))
    obtain ⟨g0, g1, g2, g3, g4⟩ := five_facts hP3
    have hP3d : w3.drew.heap[wr.heap.size]? = _ := hP3
    obtain ⟨h0, h1, h2, h3, h4⟩ := five_facts hP3d
    have hP3e : (w3.alloc (.cells #[] 30)).drew.heap[wr.heap.size]? = _ := (heap_alloc_old w3 _ (lt_of_block hP3)).trans hP3
    obtain ⟨i0, i1, i2, i3, i4⟩ := five_facts hP3e
    obtain ⟨k0, k1, k2, k3, k4⟩ := five_facts (keep hP3 hb4)
    obtain ⟨l0, l1, l2, l3, l4⟩ := five_facts (keep hP3 hb5)
    have hr1' : (Builtin.append_ #[25, 25] 25 #[.slice (some ⟨w3.heap.size, 0, none⟩) 0 0, .slice (some ⟨gw, 0, none⟩) i capw]).run Try.prog (w3.alloc (.cells #[] 30)).drew = .ok (.slice ad1 i cap1) w4 := hr1
    have HT5 := Lib.hid hT5
    have HZ5 := Lib.hid (hZ3.trans (hb5.mono hZ3.size))
    have HL5 : Hid ((rem M i).length = j) := by show _ = _; rw [rem_len M i (by have := hlen.out; omega), hlen.out]; rfl
    clear hr1 hT3 hZ3 hP3 hb4 hb5 hT5 hP3d hP3e
    by_cases hc : capw = i + 1
    all_goals
      first | (rw [if_pos hc] at hr2; subst hc) | rw [if_neg hc] at hr2
      go_wp2_with fail
      go_region_held3 (fun w' => w'.cell? ⟨wr.heap.size, 1, none⟩ = some (.int .i64 (i : Int))) (first | exact h1 | exact i1 | exact k1 | exact l1) (first | (refine step_append_run rfl (.tmp 146) (.tmp 150) 25 rfl _ _ rfl rfl hr1' ?_) | (refine step_append_run rfl (.tmp 151) (.tmp 156) 25 rfl _ _ rfl rfl hr2 ?_))
      all_goals go_wp2_with fail
      all_goals
        have hS := same_in B b adl ad2 capl cap2 (rem M i) (by have := HL5.out; omega) _ HT5.out.l (own_in HT5.out.s)
        rw [HL5.out] at hS
        have HS := Lib.hid hS
        clear hS
        go_wp2_with fail
        refine HS.out.mono ?_
        rintro e w9 ⟨rfl, hb9⟩
        have HT9 := Lib.hid (two_below HT5.out hb9)
        have HZ9 := Lib.hid (HZ5.out.trans (hb9.mono HZ5.out.size))
        clear hb9 HS
        go_wp2_with fail
        refine ⟨?_, by simp [Wmu, slotAt, intOf]; omega⟩
        unfold WI
        refine ⟨_, _, _, _, _, _, _, _, _, _, _, _, _, _, _, _, _, _, _, _, _, _, _, _, _, _, _, _, _, _, _, _, _, _, _, _, _, _, _, _, _, _, _, _, _, _, _, _, _, _, _, _, _, _, _, _, _, _, _, _, _, _, _, _, _, _, _, _, _, _, _, _, _, _, _, _, _, _, _, _, _, _, _, _, _, _, _, _, _, _, _, _, _, _, _, _, _, _, _, _, _, _, _, _, _, _, _, _, _, _, _, _, _, _, _, _, _, _, _, _, _, _, _, _, _, _, _, _, _, _, _, _, _, _, _, _, _, _, _, _, _, _, _, _, _, _, _, _, _, _, _, _, _, _, _, _, _, _, _, _, _, _, _, _, _, _, _, _, _, _, _, _, _, _, _, _, _, _, _, _, _, _, _, _, _, _, _, _, _, _, _, _, _, _, _, _, _, _, _, _, _, _, _, _, _, ?_, rfl⟩
        exact ⟨k + 1, (rem M i), adl, ad2, capl, cap2, by omega, by rw [HL5.out], by go_num, HT9, by show _ ≤ _; rw [HL5.out]; omega, HZ9⟩


set_option maxRecDepth 1000000 in
set_option maxHeartbeats 8000000 in
theorem case_ins_nil (B b g off n cap : Nat) (w0 : World) (c0 c1 c5 c15 c16 c17 c18 c19 c20 c21 c22 c23 c24 c25 c26 : Value) (u2 u6 u7 u8 u9 u10 u11 u12 u13 u14 u30 u31 u32 u33 u34 u35 u36 u37 u38 u39 u40 u41 u42 u43 u44 u45 u46 u47 u48 u49 u50 u51 u52 u53 u54 u55 u56 u57 u58 u59 u60 u61 u62 u63 u64 u65 u66 u67 u68 u69 u70 u71 u72 u73 u74 u75 u76 u77 u78 u79 u80 u81 u82 u83 u84 u85 u86 u87 u88 u89 u90 u91 u92 u93 u94 u95 u96 u97 u98 u99 u100 u101 u102 u103 u104 u105 u106 u107 u108 u109 u110 u111 u112 u113 u114 u115 u116 u117 u118 u119 u120 u121 u122 u123 u124 u125 u126 u127 u128 u129 u130 u131 u132 u133 u134 u135 u136 u137 u138 u139 u140 u141 u142 u143 u144 u145 u146 u147 u148 u149 u150 u151 u152 u153 u154 u155 u156 u157 u158 u159 u160 u161 u162 u163 u164 u165 u166 u167 u168 u169 u170 u171 u172 u173 u174 u175 u176 u177 u178 u179 u180 u181 u182 u183 u184 u185 u186 u187 u188 u189 u190 u191 u192 u193 u194 u195 u196 u197 u198 u199 u200 u201 u202 u203 u204 u205 u206 u207 u208 u209 u210 u211 u212 u213 u214 u215 u216 u217 u218 u219 u220 u221 u222 : Value) (Q0 : Exit → Act → World → Prop) (a0 : Act) (wr : World) (k m : Nat) (M : List (Int × Int × ByteArray)) (adl adw : Option Addr) (capl capw : Nat) (ok oa vk vn : Int) (vs : ByteArray)
    (HT : Hid (Two B b adl capl adw capw wr M M)) (hm : m ≤ 300 + 2 * k) (hlen : Hid (M.length = m)) (HZ : Hid (Below w0.heap.size w0 wr)) (hB : Hid (B = w0.heap.size)) (hk : k < n) (hn : n ≤ 80)
    (hop : wr.cell? ⟨g, off + k * 5, none⟩ = some (.int .i64 ok) ∧ wr.cell? ⟨g, off + k * 5 + 1, none⟩ = some (.int .i64 oa) ∧ wr.cell? ⟨g, off + k * 5 + 2, none⟩ = some (.int .i64 vk) ∧ wr.cell? ⟨g, off + k * 5 + 3, none⟩ = some (.int .i64 vn) ∧ wr.cell? ⟨g, off + k * 5 + 4, none⟩ = some (.string vs)) (i : Nat) (hok : ok = 3) (hi : oa = (i : Int)) (him : i ≤ m) (hadw : adw = none) :
    Code.wp Try.prog body (Exit.then (fun a' w'' => WI B b g off n cap w0 c0 c1 c5 c15 c16 c17 c18 c19 c20 c21 c22 c23 c24 c25 c26 a' w'' ∧ Wmu n a' w'' < Wmu n ⟨#[c0, c1, u2, .pointer (some ⟨b, 0, none⟩), .slice adw m capw, c5, u6, u7, u8, u9, u10, u11, u12, u13, u14, c15, c16, c17, c18, c19, c20, c21, c22, c23, c24, c25, c26, .slice (some ⟨g, off, none⟩) n cap, .int .i64 (n : Int), .int .i64 (k : Int), u30, u31, u32, u33, u34, u35, u36, u37, u38, u39, u40, u41, u42, u43, u44, u45, u46, u47, u48, u49, u50, u51, u52, u53, u54, u55, u56, u57, u58, u59, u60, u61, u62, u63, u64, u65, u66, u67, u68, u69, u70, u71, u72, u73, u74, u75, u76, u77, u78, u79, u80, u81, u82, u83, u84, u85, u86, u87, u88, u89, u90, u91, u92, u93, u94, u95, u96, u97, u98, u99, u100, u101, u102, u103, u104, u105, u106, u107, u108, u109, u110, u111, u112, u113, u114, u115, u116, u117, u118, u119, u120, u121, u122, u123, u124, u125, u126, u127, u128, u129, u130, u131, u132, u133, u134, u135, u136, u137, u138, u139, u140, u141, u142, u143, u144, u145, u146, u147, u148, u149, u150, u151, u152, u153, u154, u155, u156, u157, u158, u159, u160, u161, u162, u163, u164, u165, u166, u167, u168, u169, u170, u171, u172, u173, u174, u175, u176, u177, u178, u179, u180, u181, u182, u183, u184, u185, u186, u187, u188, u189, u190, u191, u192, u193, u194, u195, u196, u197, u198, u199, u200, u201, u202, u203, u204, u205, u206, u207, u208, u209, u210, u211, u212, u213, u214, u215, u216, u217, u218, u219, u220, u221, u222], []⟩ wr) (QQ Q0 a0)) ⟨#[c0, c1, u2, .pointer (some ⟨b, 0, none⟩), .slice adw m capw, c5, u6, u7, u8, u9, u10, u11, u12, u13, u14, c15, c16, c17, c18, c19, c20, c21, c22, c23, c24, c25, c26, .slice (some ⟨g, off, none⟩) n cap, .int .i64 (n : Int), .int .i64 (k : Int), u30, u31, u32, u33, u34, u35, u36, u37, u38, u39, u40, u41, u42, u43, u44, u45, u46, u47, u48, u49, u50, u51, u52, u53, u54, u55, u56, u57, u58, u59, u60, u61, u62, u63, u64, u65, u66, u67, u68, u69, u70, u71, u72, u73, u74, u75, u76, u77, u78, u79, u80, u81, u82, u83, u84, u85, u86, u87, u88, u89, u90, u91, u92, u93, u94, u95, u96, u97, u98, u99, u100, u101, u102, u103, u104, u105, u106, u107, u108, u109, u110, u111, u112, u113, u114, u115, u116, u117, u118, u119, u120, u121, u122, u123, u124, u125, u126, u127, u128, u129, u130, u131, u132, u133, u134, u135, u136, u137, u138, u139, u140, u141, u142, u143, u144, u145, u146, u147, u148, u149, u150, u151, u152, u153, u154, u155, u156, u157, u158, u159, u160, u161, u162, u163, u164, u165, u166, u167, u168, u169, u170, u171, u172, u173, u174, u175, u176, u177, u178, u179, u180, u181, u182, u183, u184, u185, u186, u187, u188, u189, u190, u191, u192, u193, u194, u195, u196, u197, u198, u199, u200, u201, u202, u203, u204, u205, u206, u207, u208, u209, u210, u211, u212, u213, u214, u215, u216, u217, u218, u219, u220, u221, u222], []⟩ wr := by
  obtain ⟨c0, c1, c2, c3, c4⟩ := hop
  have hk1 : (k : Int) < (n : Int) := by omega
  have hW0 := heap_alloc_new wr (.cells #[.int .i64 ok, .int .i64 oa, .int .i64 vk, .int .i64 vn, .string vs] 32)
  have hE0 : Below wr.heap.size wr (wr.alloc (.cells #[.int .i64 ok, .int .i64 oa, .int .i64 vk, .int .i64 vn, .string vs] 32)) := (Below.refl _ _).alloc (Nat.le_refl _) _
  have hs0 : (wr.alloc (.cells #[.int .i64 ok, .int .i64 oa, .int .i64 vk, .int .i64 vn, .string vs] 32)).heap.size = wr.heap.size + 1 := by simp
  have HT0 := Lib.hid (two_below HT.out hE0)
  have HE0 := Lib.hid hE0
  have HW0 := Lib.hid hW0
  have hbw := lt_of_block HT.out.l.blk
  have hrow := list_row HT.out.l
  have HROW := Lib.hid hrow
  clear hE0 hW0 hrow
  subst hok
  subst hi
  subst hadw
  have hMC : M.length = 0 ∧ capw = 0 := by
    rcases HT.out.s.2 with ⟨hv, e⟩ | ⟨g', c', cur, hv, _⟩
    · simp only [Value.slice.injEq] at hv; exact ⟨e, hv.2.2⟩
    · simp at hv
  have HMC := Lib.hid hMC
  have hic : (i : Int) ≤ (capw : Int) := by have := hlen.out; omega
  have hmc : (m : Int) ≤ (capw : Int) := by have := hlen.out; omega
  have hic2 : i ≤ capw := by omega
  clear hMC
  have hP := linsert_any B b adl capl M vk vn vs i (by have := hlen.out; omega) (by have := hlen.out; omega) _ (by have h1 := HZ.out.size; have h2 := HE0.out.size; have := hB.out; omega) HT0.out.l
  have HP := Lib.hid hP
  have hi0 : (0 : Int) ≤ (i : Int) := by omega
  have him' : (i : Int) ≤ (m : Int) := by omega
  have hib : i ≤ 1000 := by omega
  have hmb : m ≤ 1000 := by omega
  clear hP
  conv => arg 2; whnf
  go_wp2_with fail
  all_goals refine HP.out.mono ?_
  all_goals
    rintro e w1 ⟨rfl, adl', capl', hL, hU, hf⟩
    have hW1 := upd_blk HW0.out hU (by omega) (fun e => by have := HROW.out _ e; omega)
    have hT1 := two_list HT0.out hL hU hf
    have hZ1 := two_low (HZ.out.trans (HE0.out.mono HZ.out.size)) (HZ.out.trans (HE0.out.mono HZ.out.size)).size (Nat.le_of_eq rfl) (by have := HT0.out; rw [hB.out] at this; exact this) hU
    have hBw : B ≤ w1.heap.size := by have := hZ1.size; rw [hB.out]; exact this
    have s1 := (⟨Or.inl (by rw [List.length_eq_zero_iff.1 HMC.out.1]; simp), fun g e => by cases e⟩ : SrcB w1.heap.size none w1 (M.take i))
    have s2 := (⟨Or.inl (by rw [List.length_eq_zero_iff.1 HMC.out.1]; simp), fun g e => by cases e⟩ : SrcB w1.heap.size none w1 (M.drop i))
    have hbx : Below w1.heap.size w1 (w1.drew.alloc (.cells (flat [(vk, vn, vs)]).toArray 30)) := (Below.refl _ _).drew.alloc (Nat.le_refl _) _
    have hbe : Below w1.heap.size w1 (w1.drew.alloc (.cells #[] 30)) := (Below.refl _ _).drew.alloc (Nat.le_refl _) _
    have hbxe : Below w1.heap.size w1 ((w1.drew.alloc (.cells (flat [(vk, vn, vs)]).toArray 30)).alloc (.cells #[] 30)) := hbx.alloc hbx.size _
    have hbex : Below w1.heap.size w1 ((w1.drew.alloc (.cells #[] 30)).alloc (.cells (flat [(vk, vn, vs)]).toArray 30)) := hbe.alloc hbe.size _
    have zx : (w1.drew.alloc (.cells (flat [(vk, vn, vs)]).toArray 30)).heap.size = w1.heap.size + 1 := by show (w1.drew.alloc _).heap.size = w1.drew.heap.size + 1; simp
    have ze : (w1.drew.alloc (.cells #[] 30)).heap.size = w1.heap.size + 1 := by show (w1.drew.alloc _).heap.size = w1.drew.heap.size + 1; simp
    have oA := own_empty (w1.drew.alloc (.cells (flat [(vk, vn, vs)]).toArray 30)) w1.heap.size (by rw [zx]; omega)
    have oB := own_empty w1.drew w1.heap.size (Nat.le_refl _)
    rw [zx] at oA
    have xA : ((w1.drew.alloc (.cells (flat [(vk, vn, vs)]).toArray 30)).alloc (.cells #[] 30)).heap[w1.heap.size]? = some (.cells (flat [(vk, vn, vs)]).toArray 30) := (heap_alloc_old _ _ (by rw [zx]; omega)).trans (heap_alloc_new w1.drew _)
    have xB : ((w1.drew.alloc (.cells #[] 30)).alloc (.cells (flat [(vk, vn, vs)]).toArray 30)).heap[w1.heap.size + 1]? = some (.cells (flat [(vk, vn, vs)]).toArray 30) := by
      have := heap_alloc_new (w1.drew.alloc (.cells #[] 30)) (.cells (flat [(vk, vn, vs)]).toArray 30)
      rw [ze] at this
      exact this
    obtain ⟨da1, ea1, va1, da2, ea2, va2, da3, ea3, va3, ra1, ra2, ra3, ba1, ba2, ba3, oa3⟩ := chain_insA (vk, vn, vs) hlen.out (by omega) hmb hbxe oA xA (by omega) s1 s2 capw (capw - i) (fun _ => HMC.out.2) (fun _ => by have := HMC.out.2; omega)
    obtain ⟨db1, eb1, vb1, db2, eb2, vb2, db3, eb3, vb3, rb1, rb2, rb3, bb1, bb2, bb3, ob3⟩ := chain_insA (vk, vn, vs) hlen.out (by omega) hmb hbex (own_below oB ((Below.refl _ _).alloc (Nat.le_refl _) _)) xB (by show _ ≠ w1.heap.size; omega) s1 s2 capw (capw - i) (fun _ => HMC.out.2) (fun _ => by have := HMC.out.2; omega)
    obtain ⟨dc1, ec1, vc1, dc2, ec2, vc2, dc3, ec3, vc3, rc1, rc2, rc3, bc1, bcx, bc2, bc3, oc3⟩ := chain_insB (vk, vn, vs) hlen.out (by omega) hmb hbe oB s1 s2 capw (capw - i) (fun _ => HMC.out.2) (fun _ => by have := HMC.out.2; omega)
    have ra1' : (Builtin.append_ #[25, 25] 25 #[.slice (some ⟨w1.heap.size + 1, 0, none⟩) 0 0, .slice none i capw]).run Try.prog ((w1.alloc (.cells #[.int .i64 vk, .int .i64 vn, .string vs] 30)).alloc (.cells #[] 30)).drew = .ok (.slice da1 i ea1) va1 := ra1
    have rb1' : (Builtin.append_ #[25, 25] 25 #[.slice (some ⟨w1.heap.size, 0, none⟩) 0 0, .slice none i capw]).run Try.prog ((w1.alloc (.cells #[] 30)).alloc (.cells #[.int .i64 vk, .int .i64 vn, .string vs] 30)).drew = .ok (.slice db1 i eb1) vb1 := rb1
    have rc1' : (Builtin.append_ #[25, 25] 25 #[.slice (some ⟨w1.heap.size, 0, none⟩) 0 0, .slice none i capw]).run Try.prog (w1.alloc (.cells #[] 30)).drew = .ok (.slice dc1 i ec1) vc1 := rc1
    have rc2' : (Builtin.append_ #[25, 25] 25 #[.slice dc1 i ec1, .slice (some ⟨vc1.heap.size, 0, none⟩) 1 1]).run Try.prog (vc1.alloc (.cells #[.int .i64 vk, .int .i64 vn, .string vs] 30)) = .ok (.slice dc2 (i + 1) ec2) vc2 := rc2
    have f0 := four_facts hW1
    have f1 := four_facts (show w1.drew.heap[wr.heap.size]? = _ from hW1)
    have f2 := four_facts (show (w1.alloc (.cells #[.int .i64 vk, .int .i64 vn, .string vs] 30)).drew.heap[wr.heap.size]? = _ from keep hW1 hbx)
    have f3 := four_facts (show (w1.alloc (.cells #[] 30)).drew.heap[wr.heap.size]? = _ from keep hW1 hbe)
    have f4 := four_facts (show ((w1.alloc (.cells #[.int .i64 vk, .int .i64 vn, .string vs] 30)).alloc (.cells #[] 30)).drew.heap[wr.heap.size]? = _ from keep hW1 hbxe)
    have f5 := four_facts (show ((w1.alloc (.cells #[] 30)).alloc (.cells #[.int .i64 vk, .int .i64 vn, .string vs] 30)).drew.heap[wr.heap.size]? = _ from keep hW1 hbex)
    have fa1 := four_facts (keep hW1 ba1)
    have fa2 := four_facts (keep hW1 ba2)
    have fa3 := four_facts (keep hW1 ba3)
    have fb1 := four_facts (keep hW1 bb1)
    have fb2 := four_facts (keep hW1 bb2)
    have fb3 := four_facts (keep hW1 bb3)
    have fc1 := four_facts (keep hW1 bc1)
    have fcx := four_facts (show (vc1.alloc (.cells #[.int .i64 vk, .int .i64 vn, .string vs] 30)).heap[wr.heap.size]? = _ from keep hW1 bcx)
    have fc2 := four_facts (keep hW1 bc2)
    have fc3 := four_facts (keep hW1 bc3)
    have TA := Lib.hid (two_new hT1 ba3 (Nat.le_refl _) hBw oa3)
    have TB := Lib.hid (two_new hT1 bb3 (Nat.le_refl _) hBw ob3)
    have TC := Lib.hid (two_new hT1 bc3 (Nat.le_refl _) hBw oc3)
    have ZA := Lib.hid (hZ1.trans (ba3.mono hZ1.size))
    have ZB := Lib.hid (hZ1.trans (bb3.mono hZ1.size))
    have ZC := Lib.hid (hZ1.trans (bc3.mono hZ1.size))
    have HL2 : Hid ((ins M i (vk, vn, vs)).length = m + 1) := by show _ = _; rw [ins_len M i _ (by have := hlen.out; omega), hlen.out]
    have F0 := Lib.hid f0
    have G1 := Lib.hid f1
    have G2 := Lib.hid f2
    have G3 := Lib.hid f3
    have G4 := Lib.hid f4
    have G5 := Lib.hid f5
    have GA1 := Lib.hid fa1
    have GA2 := Lib.hid fa2
    have GA3 := Lib.hid fa3
    have GB1 := Lib.hid fb1
    have GB2 := Lib.hid fb2
    have GB3 := Lib.hid fb3
    have GC1 := Lib.hid fc1
    have GCX := Lib.hid fcx
    have GC2 := Lib.hid fc2
    have GC3 := Lib.hid fc3
    clear f1 f2 f3 f4 f5 fa1 fa2 fa3 fb1 fb2 fb3 fc1 fcx fc2 fc3 ra1 rb1 rc1 ba1 ba2 ba3 bb1 bb2 bb3 bc1 bcx bc2 bc3 oa3 ob3 oc3 xA xB oA oB zx ze hbx hbe hbxe hbex s1 s2 hL hU hf hW1 hT1 hZ1 hBw
    obtain ⟨x1, x2, x3, x4⟩ := f0
    have RA1 := Lib.hid ra1'
    have RA2 := Lib.hid ra2
    have RA3 := Lib.hid ra3
    have RB1 := Lib.hid rb1'
    have RB2 := Lib.hid rb2
    have RB3 := Lib.hid rb3
    have RC1 := Lib.hid rc1'
    have RC2 := Lib.hid rc2'
    have RC3 := Lib.hid rc3
    clear ra1' ra2 ra3 rb1' rb2 rb3 rc1' rc2 rc2' rc3
    go_wp2_with fail
    go_region_held3 (fun w' => w'.cell? ⟨wr.heap.size, 1, none⟩ = some (.int .i64 (i : Int)) ∧ w'.cell? ⟨wr.heap.size, 2, none⟩ = some (.int .i64 vk) ∧ w'.cell? ⟨wr.heap.size, 3, none⟩ = some (.int .i64 vn) ∧ w'.cell? ⟨wr.heap.size, 4, none⟩ = some (.string vs))
      (with_reducible (first | exact G1.out | exact G2.out | exact G3.out | exact G4.out | exact G5.out | exact GA1.out | exact GA2.out | exact GA3.out | exact GB1.out | exact GB2.out | exact GB3.out | exact GC1.out | exact GCX.out | exact GC2.out | exact GC3.out))
      (first 
        | (refine step_append_run rfl (.tmp 114) (.tmp 118) 25 rfl (.slice (some ⟨w1.heap.size + 1, 0, none⟩) 0 0) (.slice none i capw) rfl rfl (by with_reducible exact RA1.out) ?_)
        | (refine step_append_run rfl (.tmp 114) (.tmp 118) 25 rfl (.slice (some ⟨w1.heap.size, 0, none⟩) 0 0) (.slice none i capw) rfl rfl (by with_reducible exact RB1.out) ?_)
        | (refine step_append_run rfl (.tmp 114) (.tmp 118) 25 rfl (.slice (some ⟨w1.heap.size, 0, none⟩) 0 0) (.slice none i capw) rfl rfl (by with_reducible exact RC1.out) ?_)
        | (refine step_append_run rfl (.tmp 119) (.tmp 122) 25 rfl (.slice da1 i ea1) (.slice (some ⟨w1.heap.size, 0, none⟩) 1 1) rfl rfl (by with_reducible exact RA2.out) ?_)
        | (refine step_append_run rfl (.tmp 119) (.tmp 122) 25 rfl (.slice db1 i eb1) (.slice (some ⟨w1.heap.size + 1, 0, none⟩) 1 1) rfl rfl (by with_reducible exact RB2.out) ?_)
        | (refine step_append_run rfl (.tmp 119) (.tmp 122) 25 rfl (.slice dc1 i ec1) (.slice (some ⟨vc1.heap.size, 0, none⟩) 1 1) rfl rfl (by with_reducible exact RC2.out) ?_)
        | (refine step_append_run rfl (.tmp 123) (.tmp 127) 25 rfl (.slice da2 (i + 1) ea2) (.slice none (m - i) (capw - i)) rfl rfl (by with_reducible exact RA3.out) ?_)
        | (refine step_append_run rfl (.tmp 123) (.tmp 127) 25 rfl (.slice db2 (i + 1) eb2) (.slice none (m - i) (capw - i)) rfl rfl (by with_reducible exact RB3.out) ?_)
        | (refine step_append_run rfl (.tmp 123) (.tmp 127) 25 rfl (.slice dc2 (i + 1) ec2) (.slice none (m - i) (capw - i)) rfl rfl (by with_reducible exact RC3.out) ?_))
    all_goals go_wp2_with fail
    all_goals
      first
      | (have hS := same_in B b adl' da3 capl' ea3 (ins M i (vk, vn, vs)) (by have := HL2.out; omega) _ TA.out.l (own_in TA.out.s)
         rw [HL2.out] at hS
         have HS := Lib.hid hS
         clear hS
         go_wp2_with fail
         with_reducible refine HS.out.mono ?_
         rintro e w9 ⟨rfl, hb9⟩
         have HT9 := Lib.hid (two_below TA.out hb9)
         have HZ9 := Lib.hid (ZA.out.trans (hb9.mono ZA.out.size))
         clear hb9 HS
         go_wp2_with fail
         refine ⟨?_, by simp [Wmu, slotAt, intOf]; omega⟩
         unfold WI
         refine ⟨_, _, _, _, _, _, _, _, _, _, _, _, _, _, _, _, _, _, _, _, _, _, _, _, _, _, _, _, _, _, _, _, _, _, _, _, _, _, _, _, _, _, _, _, _, _, _, _, _, _, _, _, _, _, _, _, _, _, _, _, _, _, _, _, _, _, _, _, _, _, _, _, _, _, _, _, _, _, _, _, _, _, _, _, _, _, _, _, _, _, _, _, _, _, _, _, _, _, _, _, _, _, _, _, _, _, _, _, _, _, _, _, _, _, _, _, _, _, _, _, _, _, _, _, _, _, _, _, _, _, _, _, _, _, _, _, _, _, _, _, _, _, _, _, _, _, _, _, _, _, _, _, _, _, _, _, _, _, _, _, _, _, _, _, _, _, _, _, _, _, _, _, _, _, _, _, _, _, _, _, _, _, _, _, _, _, _, _, _, _, _, _, _, _, _, _, _, _, _, _, _, _, _, _, _, ?_, rfl⟩
         exact ⟨k + 1, (ins M i (vk, vn, vs)), adl', da3, capl', ea3, by omega, by rw [HL2.out], by go_num, HT9, by show _ ≤ _; rw [HL2.out]; omega, HZ9⟩)
      | (have hS := same_in B b adl' db3 capl' eb3 (ins M i (vk, vn, vs)) (by have := HL2.out; omega) _ TB.out.l (own_in TB.out.s)
         rw [HL2.out] at hS
         have HS := Lib.hid hS
         clear hS
         go_wp2_with fail
         with_reducible refine HS.out.mono ?_
         rintro e w9 ⟨rfl, hb9⟩
         have HT9 := Lib.hid (two_below TB.out hb9)
         have HZ9 := Lib.hid (ZB.out.trans (hb9.mono ZB.out.size))
         clear hb9 HS
         go_wp2_with fail
         refine ⟨?_, by simp [Wmu, slotAt, intOf]; omega⟩
         unfold WI
         refine ⟨_, _, _, _, _, _, _, _, _, _, _, _, _, _, _, _, _, _, _, _, _, _, _, _, _, _, _, _, _, _, _, _, _, _, _, _, _, _, _, _, _, _, _, _, _, _, _, _, _, _, _, _, _, _, _, _, _, _, _, _, _, _, _, _, _, _, _, _, _, _, _, _, _, _, _, _, _, _, _, _, _, _, _, _, _, _, _, _, _, _, _, _, _, _, _, _, _, _, _, _, _, _, _, _, _, _, _, _, _, _, _, _, _, _, _, _, _, _, _, _, _, _, _, _, _, _, _, _, _, _, _, _, _, _, _, _, _, _, _, _, _, _, _, _, _, _, _, _, _, _, _, _, _, _, _, _, _, _, _, _, _, _, _, _, _, _, _, _, _, _, _, _, _, _, _, _, _, _, _, _, _, _, _, _, _, _, _, _, _, _, _, _, _, _, _, _, _, _, _, _, _, _, _, _, _, ?_, rfl⟩
         exact ⟨k + 1, (ins M i (vk, vn, vs)), adl', db3, capl', eb3, by omega, by rw [HL2.out], by go_num, HT9, by show _ ≤ _; rw [HL2.out]; omega, HZ9⟩)
      | (have hS := same_in B b adl' dc3 capl' ec3 (ins M i (vk, vn, vs)) (by have := HL2.out; omega) _ TC.out.l (own_in TC.out.s)
         rw [HL2.out] at hS
         have HS := Lib.hid hS
         clear hS
         go_wp2_with fail
         with_reducible refine HS.out.mono ?_
         rintro e w9 ⟨rfl, hb9⟩
         have HT9 := Lib.hid (two_below TC.out hb9)
         have HZ9 := Lib.hid (ZC.out.trans (hb9.mono ZC.out.size))
         clear hb9 HS
         go_wp2_with fail
         refine ⟨?_, by simp [Wmu, slotAt, intOf]; omega⟩
         unfold WI
         refine ⟨_, _, _, _, _, _, _, _, _, _, _, _, _, _, _, _, _, _, _, _, _, _, _, _, _, _, _, _, _, _, _, _, _, _, _, _, _, _, _, _, _, _, _, _, _, _, _, _, _, _, _, _, _, _, _, _, _, _, _, _, _, _, _, _, _, _, _, _, _, _, _, _, _, _, _, _, _, _, _, _, _, _, _, _, _, _, _, _, _, _, _, _, _, _, _, _, _, _, _, _, _, _, _, _, _, _, _, _, _, _, _, _, _, _, _, _, _, _, _, _, _, _, _, _, _, _, _, _, _, _, _, _, _, _, _, _, _, _, _, _, _, _, _, _, _, _, _, _, _, _, _, _, _, _, _, _, _, _, _, _, _, _, _, _, _, _, _, _, _, _, _, _, _, _, _, _, _, _, _, _, _, _, _, _, _, _, _, _, _, _, _, _, _, _, _, _, _, _, _, _, _, _, _, _, _, ?_, rfl⟩
         exact ⟨k + 1, (ins M i (vk, vn, vs)), adl', dc3, capl', ec3, by omega, by rw [HL2.out], by go_num, HT9, by show _ ≤ _; rw [HL2.out]; omega, HZ9⟩)

end Go.Proofs.Ytfngndbpgegnaaa.Li
