/- 'ListPlays': cases of a round. -/
import Derived.Test.YtfngndbpgegnaaaPlay2
set_option linter.unusedVariables false
namespace Go.Proofs.Ytfngndbpgegnaaa.Li
open Go.RowKit Go.ChangeShapes Go.WideShapes Go.ChangeAt Go.Proofs.Ytfngndbpgegnaaa.Va
set_option maxRecDepth 1000000 in
set_option maxHeartbeats 8000000 in
theorem case_clear (B b g off n cap : Nat) (w0 : World) (c0 c1 c5 c15 c16 c17 c18 c19 c20 c21 c22 c23 c24 c25 c26 : Value) (u2 u6 u7 u8 u9 u10 u11 u12 u13 u14 u30 u31 u32 u33 u34 u35 u36 u37 u38 u39 u40 u41 u42 u43 u44 u45 u46 u47 u48 u49 u50 u51 u52 u53 u54 u55 u56 u57 u58 u59 u60 u61 u62 u63 u64 u65 u66 u67 u68 u69 u70 u71 u72 u73 u74 u75 u76 u77 u78 u79 u80 u81 u82 u83 u84 u85 u86 u87 u88 u89 u90 u91 u92 u93 u94 u95 u96 u97 u98 u99 u100 u101 u102 u103 u104 u105 u106 u107 u108 u109 u110 u111 u112 u113 u114 u115 u116 u117 u118 u119 u120 u121 u122 u123 u124 u125 u126 u127 u128 u129 u130 u131 u132 u133 u134 u135 u136 u137 u138 u139 u140 u141 u142 u143 u144 u145 u146 u147 u148 u149 u150 u151 u152 u153 u154 u155 u156 u157 u158 u159 u160 u161 u162 u163 u164 u165 u166 u167 u168 u169 u170 u171 u172 u173 u174 u175 u176 u177 u178 u179 u180 u181 u182 u183 u184 u185 u186 u187 u188 u189 u190 u191 u192 u193 u194 u195 u196 u197 u198 u199 u200 u201 u202 u203 u204 u205 u206 u207 u208 u209 u210 u211 u212 u213 u214 u215 u216 u217 u218 u219 u220 u221 u222 : Value) (Q0 : Exit → Act → World → Prop) (a0 : Act) (wr : World) (k m : Nat) (M : List (Int × Int × ByteArray)) (adl adw : Option Addr) (capl capw : Nat) (ok oa vk vn : Int) (vs : ByteArray)
    (HT : Hid (Two B b adl capl adw capw wr M M)) (hm : m ≤ 300 + 2 * k) (hlen : Hid (M.length = m)) (HZ : Hid (Below w0.heap.size w0 wr)) (hB : Hid (B = w0.heap.size)) (hk : k < n) (hn : n ≤ 80)
    (hop : wr.cell? ⟨g, off + k * 5, none⟩ = some (.int .i64 ok) ∧ wr.cell? ⟨g, off + k * 5 + 1, none⟩ = some (.int .i64 oa) ∧ wr.cell? ⟨g, off + k * 5 + 2, none⟩ = some (.int .i64 vk) ∧ wr.cell? ⟨g, off + k * 5 + 3, none⟩ = some (.int .i64 vn) ∧ wr.cell? ⟨g, off + k * 5 + 4, none⟩ = some (.string vs)) (hok : ok = 7) :
    Code.wp Try.prog body (Exit.then (fun a' w'' => WI B b g off n cap w0 c0 c1 c5 c15 c16 c17 c18 c19 c20 c21 c22 c23 c24 c25 c26 a' w'' ∧ Wmu n a' w'' < Wmu n ⟨#[c0, c1, u2, .pointer (some ⟨b, 0, none⟩), .slice adw m capw, c5, u6, u7, u8, u9, u10, u11, u12, u13, u14, c15, c16, c17, c18, c19, c20, c21, c22, c23, c24, c25, c26, .slice (some ⟨g, off, none⟩) n cap, .int .i64 (n : Int), .int .i64 (k : Int), u30, u31, u32, u33, u34, u35, u36, u37, u38, u39, u40, u41, u42, u43, u44, u45, u46, u47, u48, u49, u50, u51, u52, u53, u54, u55, u56, u57, u58, u59, u60, u61, u62, u63, u64, u65, u66, u67, u68, u69, u70, u71, u72, u73, u74, u75, u76, u77, u78, u79, u80, u81, u82, u83, u84, u85, u86, u87, u88, u89, u90, u91, u92, u93, u94, u95, u96, u97, u98, u99, u100, u101, u102, u103, u104, u105, u106, u107, u108, u109, u110, u111, u112, u113, u114, u115, u116, u117, u118, u119, u120, u121, u122, u123, u124, u125, u126, u127, u128, u129, u130, u131, u132, u133, u134, u135, u136, u137, u138, u139, u140, u141, u142, u143, u144, u145, u146, u147, u148, u149, u150, u151, u152, u153, u154, u155, u156, u157, u158, u159, u160, u161, u162, u163, u164, u165, u166, u167, u168, u169, u170, u171, u172, u173, u174, u175, u176, u177, u178, u179, u180, u181, u182, u183, u184, u185, u186, u187, u188, u189, u190, u191, u192, u193, u194, u195, u196, u197, u198, u199, u200, u201, u202, u203, u204, u205, u206, u207, u208, u209, u210, u211, u212, u213, u214, u215, u216, u217, u218, u219, u220, u221, u222], []⟩ wr) (QQ Q0 a0)) ⟨#[c0, c1, u2, .pointer (some ⟨b, 0, none⟩), .slice adw m capw, c5, u6, u7, u8, u9, u10, u11, u12, u13, u14, c15, c16, c17, c18, c19, c20, c21, c22, c23, c24, c25, c26, .slice (some ⟨g, off, none⟩) n cap, .int .i64 (n : Int), .int .i64 (k : Int), u30, u31, u32, u33, u34, u35, u36, u37, u38, u39, u40, u41, u42, u43, u44, u45, u46, u47, u48, u49, u50, u51, u52, u53, u54, u55, u56, u57, u58, u59, u60, u61, u62, u63, u64, u65, u66, u67, u68, u69, u70, u71, u72, u73, u74, u75, u76, u77, u78, u79, u80, u81, u82, u83, u84, u85, u86, u87, u88, u89, u90, u91, u92, u93, u94, u95, u96, u97, u98, u99, u100, u101, u102, u103, u104, u105, u106, u107, u108, u109, u110, u111, u112, u113, u114, u115, u116, u117, u118, u119, u120, u121, u122, u123, u124, u125, u126, u127, u128, u129, u130, u131, u132, u133, u134, u135, u136, u137, u138, u139, u140, u141, u142, u143, u144, u145, u146, u147, u148, u149, u150, u151, u152, u153, u154, u155, u156, u157, u158, u159, u160, u161, u162, u163, u164, u165, u166, u167, u168, u169, u170, u171, u172, u173, u174, u175, u176, u177, u178, u179, u180, u181, u182, u183, u184, u185, u186, u187, u188, u189, u190, u191, u192, u193, u194, u195, u196, u197, u198, u199, u200, u201, u202, u203, u204, u205, u206, u207, u208, u209, u210, u211, u212, u213, u214, u215, u216, u217, u218, u219, u220, u221, u222], []⟩ wr := by
  obtain ⟨c0, c1, c2, c3, c4⟩ := hop
  have hk1 : (k : Int) < (n : Int) := by omega
  have hW0 := heap_alloc_new wr (.cells #[.int .i64 ok, .int .i64 oa, .int .i64 vk, .int .i64 vn, .string vs] 32)
  have hE0 : Below wr.heap.size wr (wr.alloc (.cells #[.int .i64 ok, .int .i64 oa, .int .i64 vk, .int .i64 vn, .string vs] 32)) := (Below.refl _ _).alloc (Nat.le_refl _) _
  have hs0 : (wr.alloc (.cells #[.int .i64 ok, .int .i64 oa, .int .i64 vk, .int .i64 vn, .string vs] 32)).heap.size = wr.heap.size + 1 := by simp
  have HT0 := Lib.hid (two_below HT.out hE0)
  have HE0 := Lib.hid hE0
  have HW0 := Lib.hid hW0
  have hbw := lt_of_block HT.out.l.blk
  have hrow := list_row HT.out.l
  have HROW := Lib.hid hrow
  clear hE0 hW0 hrow
  subst hok
  have HC := Lib.hid (clear_yes B b adl capl M (by have := hlen.out; omega) _ HT0.out.l)
  have HB := Lib.hid (HZ.out.trans (HE0.out.mono HZ.out.size))
  conv => arg 2; whnf
  go_wp2_with fail
  all_goals refine HC.out.mono ?_
  all_goals
    intro e w1 hh
    have he := hh.1
    subst he
    have hT1 := two_nil (two_same HT0.out hh.2)
    have hZ1 := two_low HB.out HB.out.size (Nat.le_of_eq rfl) (by have := HT0.out; rw [hB.out] at this; exact this) hh.2.2
    have HT1 := Lib.hid hT1
    have HZ1 := Lib.hid hZ1
    have HL1 : Hid (([] : List (Int × Int × ByteArray)).length = 0) := rfl
    clear hT1 hZ1 hh
    have hS := same_in B b adl none capl 0 [] (by have := HL1.out; omega) _ HT1.out.l (own_in HT1.out.s)
    rw [HL1.out] at hS
    have HS := Lib.hid hS
    clear hS
    go_wp2_with fail
    refine HS.out.mono ?_
    rintro e w9 ⟨rfl, hb9⟩
    have HT9 := Lib.hid (two_below HT1.out hb9)
    have HZ9 := Lib.hid (HZ1.out.trans (hb9.mono HZ1.out.size))
    clear hb9 HS
    go_wp2_with fail
    refine ⟨?_, by simp [Wmu, slotAt, intOf]; omega⟩
    unfold WI
    refine ⟨_, _, _, _, _, _, _, _, _, _, _, _, _, _, _, _, _, _, _, _, _, _, _, _, _, _, _, _, _, _, _, _, _, _, _, _, _, _, _, _, _, _, _, _, _, _, _, _, _, _, _, _, _, _, _, _, _, _, _, _, _, _, _, _, _, _, _, _, _, _, _, _, _, _, _, _, _, _, _, _, _, _, _, _, _, _, _, _, _, _, _, _, _, _, _, _, _, _, _, _, _, _, _, _, _, _, _, _, _, _, _, _, _, _, _, _, _, _, _, _, _, _, _, _, _, _, _, _, _, _, _, _, _, _, _, _, _, _, _, _, _, _, _, _, _, _, _, _, _, _, _, _, _, _, _, _, _, _, _, _, _, _, _, _, _, _, _, _, _, _, _, _, _, _, _, _, _, _, _, _, _, _, _, _, _, _, _, _, _, _, _, _, _, _, _, _, _, _, _, _, _, _, _, _, _, ?_, rfl⟩
    exact ⟨k + 1, [], adl, none, capl, 0, by omega, by rw [HL1.out], by go_num, HT9, by show _ ≤ _; rw [HL1.out]; omega, HZ9⟩


set_option maxRecDepth 1000000 in
set_option maxHeartbeats 8000000 in
theorem case_push (B b g off n cap : Nat) (w0 : World) (c0 c1 c5 c15 c16 c17 c18 c19 c20 c21 c22 c23 c24 c25 c26 : Value) (u2 u6 u7 u8 u9 u10 u11 u12 u13 u14 u30 u31 u32 u33 u34 u35 u36 u37 u38 u39 u40 u41 u42 u43 u44 u45 u46 u47 u48 u49 u50 u51 u52 u53 u54 u55 u56 u57 u58 u59 u60 u61 u62 u63 u64 u65 u66 u67 u68 u69 u70 u71 u72 u73 u74 u75 u76 u77 u78 u79 u80 u81 u82 u83 u84 u85 u86 u87 u88 u89 u90 u91 u92 u93 u94 u95 u96 u97 u98 u99 u100 u101 u102 u103 u104 u105 u106 u107 u108 u109 u110 u111 u112 u113 u114 u115 u116 u117 u118 u119 u120 u121 u122 u123 u124 u125 u126 u127 u128 u129 u130 u131 u132 u133 u134 u135 u136 u137 u138 u139 u140 u141 u142 u143 u144 u145 u146 u147 u148 u149 u150 u151 u152 u153 u154 u155 u156 u157 u158 u159 u160 u161 u162 u163 u164 u165 u166 u167 u168 u169 u170 u171 u172 u173 u174 u175 u176 u177 u178 u179 u180 u181 u182 u183 u184 u185 u186 u187 u188 u189 u190 u191 u192 u193 u194 u195 u196 u197 u198 u199 u200 u201 u202 u203 u204 u205 u206 u207 u208 u209 u210 u211 u212 u213 u214 u215 u216 u217 u218 u219 u220 u221 u222 : Value) (Q0 : Exit → Act → World → Prop) (a0 : Act) (wr : World) (k m : Nat) (M : List (Int × Int × ByteArray)) (adl adw : Option Addr) (capl capw : Nat) (ok oa vk vn : Int) (vs : ByteArray)
    (HT : Hid (Two B b adl capl adw capw wr M M)) (hm : m ≤ 300 + 2 * k) (hlen : Hid (M.length = m)) (HZ : Hid (Below w0.heap.size w0 wr)) (hB : Hid (B = w0.heap.size)) (hk : k < n) (hn : n ≤ 80)
    (hop : wr.cell? ⟨g, off + k * 5, none⟩ = some (.int .i64 ok) ∧ wr.cell? ⟨g, off + k * 5 + 1, none⟩ = some (.int .i64 oa) ∧ wr.cell? ⟨g, off + k * 5 + 2, none⟩ = some (.int .i64 vk) ∧ wr.cell? ⟨g, off + k * 5 + 3, none⟩ = some (.int .i64 vn) ∧ wr.cell? ⟨g, off + k * 5 + 4, none⟩ = some (.string vs)) (hok : ok = 0) :
    Code.wp Try.prog body (Exit.then (fun a' w'' => WI B b g off n cap w0 c0 c1 c5 c15 c16 c17 c18 c19 c20 c21 c22 c23 c24 c25 c26 a' w'' ∧ Wmu n a' w'' < Wmu n ⟨#[c0, c1, u2, .pointer (some ⟨b, 0, none⟩), .slice adw m capw, c5, u6, u7, u8, u9, u10, u11, u12, u13, u14, c15, c16, c17, c18, c19, c20, c21, c22, c23, c24, c25, c26, .slice (some ⟨g, off, none⟩) n cap, .int .i64 (n : Int), .int .i64 (k : Int), u30, u31, u32, u33, u34, u35, u36, u37, u38, u39, u40, u41, u42, u43, u44, u45, u46, u47, u48, u49, u50, u51, u52, u53, u54, u55, u56, u57, u58, u59, u60, u61, u62, u63, u64, u65, u66, u67, u68, u69, u70, u71, u72, u73, u74, u75, u76, u77, u78, u79, u80, u81, u82, u83, u84, u85, u86, u87, u88, u89, u90, u91, u92, u93, u94, u95, u96, u97, u98, u99, u100, u101, u102, u103, u104, u105, u106, u107, u108, u109, u110, u111, u112, u113, u114, u115, u116, u117, u118, u119, u120, u121, u122, u123, u124, u125, u126, u127, u128, u129, u130, u131, u132, u133, u134, u135, u136, u137, u138, u139, u140, u141, u142, u143, u144, u145, u146, u147, u148, u149, u150, u151, u152, u153, u154, u155, u156, u157, u158, u159, u160, u161, u162, u163, u164, u165, u166, u167, u168, u169, u170, u171, u172, u173, u174, u175, u176, u177, u178, u179, u180, u181, u182, u183, u184, u185, u186, u187, u188, u189, u190, u191, u192, u193, u194, u195, u196, u197, u198, u199, u200, u201, u202, u203, u204, u205, u206, u207, u208, u209, u210, u211, u212, u213, u214, u215, u216, u217, u218, u219, u220, u221, u222], []⟩ wr) (QQ Q0 a0)) ⟨#[c0, c1, u2, .pointer (some ⟨b, 0, none⟩), .slice adw m capw, c5, u6, u7, u8, u9, u10, u11, u12, u13, u14, c15, c16, c17, c18, c19, c20, c21, c22, c23, c24, c25, c26, .slice (some ⟨g, off, none⟩) n cap, .int .i64 (n : Int), .int .i64 (k : Int), u30, u31, u32, u33, u34, u35, u36, u37, u38, u39, u40, u41, u42, u43, u44, u45, u46, u47, u48, u49, u50, u51, u52, u53, u54, u55, u56, u57, u58, u59, u60, u61, u62, u63, u64, u65, u66, u67, u68, u69, u70, u71, u72, u73, u74, u75, u76, u77, u78, u79, u80, u81, u82, u83, u84, u85, u86, u87, u88, u89, u90, u91, u92, u93, u94, u95, u96, u97, u98, u99, u100, u101, u102, u103, u104, u105, u106, u107, u108, u109, u110, u111, u112, u113, u114, u115, u116, u117, u118, u119, u120, u121, u122, u123, u124, u125, u126, u127, u128, u129, u130, u131, u132, u133, u134, u135, u136, u137, u138, u139, u140, u141, u142, u143, u144, u145, u146, u147, u148, u149, u150, u151, u152, u153, u154, u155, u156, u157, u158, u159, u160, u161, u162, u163, u164, u165, u166, u167, u168, u169, u170, u171, u172, u173, u174, u175, u176, u177, u178, u179, u180, u181, u182, u183, u184, u185, u186, u187, u188, u189, u190, u191, u192, u193, u194, u195, u196, u197, u198, u199, u200, u201, u202, u203, u204, u205, u206, u207, u208, u209, u210, u211, u212, u213, u214, u215, u216, u217, u218, u219, u220, u221, u222], []⟩ wr := by
  obtain ⟨c0, c1, c2, c3, c4⟩ := hop
  have hk1 : (k : Int) < (n : Int) := by omega
  have hW0 := heap_alloc_new wr (.cells #[.int .i64 ok, .int .i64 oa, .int .i64 vk, .int .i64 vn, .string vs] 32)
  have hE0 : Below wr.heap.size wr (wr.alloc (.cells #[.int .i64 ok, .int .i64 oa, .int .i64 vk, .int .i64 vn, .string vs] 32)) := (Below.refl _ _).alloc (Nat.le_refl _) _
  have hs0 : (wr.alloc (.cells #[.int .i64 ok, .int .i64 oa, .int .i64 vk, .int .i64 vn, .string vs] 32)).heap.size = wr.heap.size + 1 := by simp
  have HT0 := Lib.hid (two_below HT.out hE0)
  have HE0 := Lib.hid hE0
  have HW0 := Lib.hid hW0
  have hbw := lt_of_block HT.out.l.blk
  have hrow := list_row HT.out.l
  have HROW := Lib.hid hrow
  clear hE0 hW0 hrow
  subst hok
  obtain ⟨W0, hW0⟩ : ∃ W0, W0 = wr.alloc (.cells #[.int .i64 0, .int .i64 oa, .int .i64 vk, .int .i64 vn, .string vs] 32) := ⟨_, rfl⟩
  rw [← hW0] at HT0 HE0 HW0 hs0
  have hb0 : Below W0.heap.size W0 (W0.alloc (.cells (flat [(vk, vn, vs), (vk, vn, vs)]).toArray 30)) := (Below.refl _ _).alloc (Nat.le_refl _) _
  have hBs : B ≤ (W0.alloc (.cells (flat [(vk, vn, vs), (vk, vn, vs)]).toArray 30)).heap.size := by have h1 := HZ.out.size; have h2 := hb0.size; have := hB.out; omega
  have hP := push_any B b adl ⟨W0.heap.size, 0, none⟩ capl 2 M [(vk, vn, vs), (vk, vn, vs)] (by have := hlen.out; simp; omega) (W0.alloc (.cells (flat [(vk, vn, vs), (vk, vn, vs)]).toArray 30)) hBs (two_below HT0.out hb0).l (lit_src _)
  rw [hs0] at hP
  have HP := Lib.hid hP
  have HX0 := Lib.hid (keep HW0.out hb0)
  have HT0' := Lib.hid (two_below HT0.out hb0)
  have HZ0 := Lib.hid (HZ.out.trans ((HE0.out.trans (hb0.mono HE0.out.size)).mono HZ.out.size))
  clear hb0 hP hBs
  subst hW0
  conv => arg 2; whnf
  go_wp2_with fail
  all_goals refine HP.out.mono ?_
  all_goals
    rintro e w1 ⟨rfl, adl', capl', hL, hU, hf⟩
    have hX := upd_blk HX0.out hU (by omega) (fun e => by have := HROW.out _ e; omega)
    have hT1 := two_list HT0'.out hL hU hf
    have hZ1 := two_low HZ0.out HZ0.out.size (Nat.le_of_eq rfl) (by have := HT0'.out; rw [hB.out] at this; exact this) hU
    have hb1 : Below w1.heap.size w1 (w1.alloc (.cells (flat [(vk, vn, vs), (vk, vn, vs)]).toArray 30)) := (Below.refl _ _).alloc (Nat.le_refl _) _
    have hT1b := two_below hT1 hb1
    have hBs1 : B ≤ (w1.alloc (.cells (flat [(vk, vn, vs), (vk, vn, vs)]).toArray 30)).heap.size := by have h1 := hZ1.size; have h2 := hb1.size; have := hB.out; omega
    obtain ⟨adw', capw', w4, hr, hown, hgr, hfr⟩ := run_push (c := 2) (a := ⟨w1.heap.size, 0, none⟩) (M := [(vk, vn, vs), (vk, vn, vs)]) (by have := hlen.out; simp; omega) hBs1 hT1b.s (lit_src _)
    have hL2 : (M ++ [(vk, vn, vs), (vk, vn, vs)]).length = m + 2 := by rw [List.length_append, hlen.out]; rfl
    rw [hL2, hlen.out] at hr
    have HT2 := Lib.hid (two_grown hT1b hown hgr hfr)
    have HZ2 := Lib.hid (grown_low (hZ1.trans (hb1.mono hZ1.size)) (by rw [← hB.out]; exact hBs1) (by have := hT1b.s; rw [hB.out] at this; exact this) hgr)
    have HL2 := Lib.hid hL2
    obtain ⟨x0, x1, x2, x3, x4⟩ := five_facts hX
    clear hL hU hf hX hT1 hZ1 hb1 hT1b hBs1 hown hgr hfr hL2
    go_wp2_with (at_builtin; refine Lib.wpList_append_run _ rfl _ _ _ _ rfl _ _ rfl rfl _ _ hr ?_)
    clear hr
    have hS := same_in B b adl' adw' capl' capw' (M ++ [(vk, vn, vs), (vk, vn, vs)]) (by have := HL2.out; omega) _ HT2.out.l (own_in HT2.out.s)
    rw [HL2.out] at hS
    have HS := Lib.hid hS
    clear hS
    go_wp2_with fail
    refine HS.out.mono ?_
    rintro e w9 ⟨rfl, hb9⟩
    have HT9 := Lib.hid (two_below HT2.out hb9)
    have HZ9 := Lib.hid (HZ2.out.trans (hb9.mono HZ2.out.size))
    clear hb9 HS
    go_wp2_with fail
    refine ⟨?_, by simp [Wmu, slotAt, intOf]; omega⟩
    unfold WI
    refine ⟨_, _, _, _, _, _, _, _, _, _, _, _, _, _, _, _, _, _, _, _, _, _, _, _, _, _, _, _, _, _, _, _, _, _, _, _, _, _, _, _, _, _, _, _, _, _, _, _, _, _, _, _, _, _, _, _, _, _, _, _, _, _, _, _, _, _, _, _, _, _, _, _, _, _, _, _, _, _, _, _, _, _, _, _, _, _, _, _, _, _, _, _, _, _, _, _, _, _, _, _, _, _, _, _, _, _, _, _, _, _, _, _, _, _, _, _, _, _, _, _, _, _, _, _, _, _, _, _, _, _, _, _, _, _, _, _, _, _, _, _, _, _, _, _, _, _, _, _, _, _, _, _, _, _, _, _, _, _, _, _, _, _, _, _, _, _, _, _, _, _, _, _, _, _, _, _, _, _, _, _, _, _, _, _, _, _, _, _, _, _, _, _, _, _, _, _, _, _, _, _, _, _, _, _, _, ?_, rfl⟩
    exact ⟨k + 1, (M ++ [(vk, vn, vs), (vk, vn, vs)]), adl', adw', capl', capw', by omega, by rw [HL2.out], by go_num, HT9, by show _ ≤ _; rw [HL2.out]; omega, HZ9⟩


set_option maxRecDepth 1000000 in
set_option maxHeartbeats 8000000 in
theorem case_pop0 (B b g off n cap : Nat) (w0 : World) (c0 c1 c5 c15 c16 c17 c18 c19 c20 c21 c22 c23 c24 c25 c26 : Value) (u2 u6 u7 u8 u9 u10 u11 u12 u13 u14 u30 u31 u32 u33 u34 u35 u36 u37 u38 u39 u40 u41 u42 u43 u44 u45 u46 u47 u48 u49 u50 u51 u52 u53 u54 u55 u56 u57 u58 u59 u60 u61 u62 u63 u64 u65 u66 u67 u68 u69 u70 u71 u72 u73 u74 u75 u76 u77 u78 u79 u80 u81 u82 u83 u84 u85 u86 u87 u88 u89 u90 u91 u92 u93 u94 u95 u96 u97 u98 u99 u100 u101 u102 u103 u104 u105 u106 u107 u108 u109 u110 u111 u112 u113 u114 u115 u116 u117 u118 u119 u120 u121 u122 u123 u124 u125 u126 u127 u128 u129 u130 u131 u132 u133 u134 u135 u136 u137 u138 u139 u140 u141 u142 u143 u144 u145 u146 u147 u148 u149 u150 u151 u152 u153 u154 u155 u156 u157 u158 u159 u160 u161 u162 u163 u164 u165 u166 u167 u168 u169 u170 u171 u172 u173 u174 u175 u176 u177 u178 u179 u180 u181 u182 u183 u184 u185 u186 u187 u188 u189 u190 u191 u192 u193 u194 u195 u196 u197 u198 u199 u200 u201 u202 u203 u204 u205 u206 u207 u208 u209 u210 u211 u212 u213 u214 u215 u216 u217 u218 u219 u220 u221 u222 : Value) (Q0 : Exit → Act → World → Prop) (a0 : Act) (wr : World) (k m : Nat) (M : List (Int × Int × ByteArray)) (adl adw : Option Addr) (capl capw : Nat) (ok oa vk vn : Int) (vs : ByteArray)
    (HT : Hid (Two B b adl capl adw capw wr M M)) (hm : m ≤ 300 + 2 * k) (hlen : Hid (M.length = m)) (HZ : Hid (Below w0.heap.size w0 wr)) (hB : Hid (B = w0.heap.size)) (hk : k < n) (hn : n ≤ 80)
    (hop : wr.cell? ⟨g, off + k * 5, none⟩ = some (.int .i64 ok) ∧ wr.cell? ⟨g, off + k * 5 + 1, none⟩ = some (.int .i64 oa) ∧ wr.cell? ⟨g, off + k * 5 + 2, none⟩ = some (.int .i64 vk) ∧ wr.cell? ⟨g, off + k * 5 + 3, none⟩ = some (.int .i64 vn) ∧ wr.cell? ⟨g, off + k * 5 + 4, none⟩ = some (.string vs)) (hok : ok = 1) (hm0 : m = 0) :
    Code.wp Try.prog body (Exit.then (fun a' w'' => WI B b g off n cap w0 c0 c1 c5 c15 c16 c17 c18 c19 c20 c21 c22 c23 c24 c25 c26 a' w'' ∧ Wmu n a' w'' < Wmu n ⟨#[c0, c1, u2, .pointer (some ⟨b, 0, none⟩), .slice adw m capw, c5, u6, u7, u8, u9, u10, u11, u12, u13, u14, c15, c16, c17, c18, c19, c20, c21, c22, c23, c24, c25, c26, .slice (some ⟨g, off, none⟩) n cap, .int .i64 (n : Int), .int .i64 (k : Int), u30, u31, u32, u33, u34, u35, u36, u37, u38, u39, u40, u41, u42, u43, u44, u45, u46, u47, u48, u49, u50, u51, u52, u53, u54, u55, u56, u57, u58, u59, u60, u61, u62, u63, u64, u65, u66, u67, u68, u69, u70, u71, u72, u73, u74, u75, u76, u77, u78, u79, u80, u81, u82, u83, u84, u85, u86, u87, u88, u89, u90, u91, u92, u93, u94, u95, u96, u97, u98, u99, u100, u101, u102, u103, u104, u105, u106, u107, u108, u109, u110, u111, u112, u113, u114, u115, u116, u117, u118, u119, u120, u121, u122, u123, u124, u125, u126, u127, u128, u129, u130, u131, u132, u133, u134, u135, u136, u137, u138, u139, u140, u141, u142, u143, u144, u145, u146, u147, u148, u149, u150, u151, u152, u153, u154, u155, u156, u157, u158, u159, u160, u161, u162, u163, u164, u165, u166, u167, u168, u169, u170, u171, u172, u173, u174, u175, u176, u177, u178, u179, u180, u181, u182, u183, u184, u185, u186, u187, u188, u189, u190, u191, u192, u193, u194, u195, u196, u197, u198, u199, u200, u201, u202, u203, u204, u205, u206, u207, u208, u209, u210, u211, u212, u213, u214, u215, u216, u217, u218, u219, u220, u221, u222], []⟩ wr) (QQ Q0 a0)) ⟨#[c0, c1, u2, .pointer (some ⟨b, 0, none⟩), .slice adw m capw, c5, u6, u7, u8, u9, u10, u11, u12, u13, u14, c15, c16, c17, c18, c19, c20, c21, c22, c23, c24, c25, c26, .slice (some ⟨g, off, none⟩) n cap, .int .i64 (n : Int), .int .i64 (k : Int), u30, u31, u32, u33, u34, u35, u36, u37, u38, u39, u40, u41, u42, u43, u44, u45, u46, u47, u48, u49, u50, u51, u52, u53, u54, u55, u56, u57, u58, u59, u60, u61, u62, u63, u64, u65, u66, u67, u68, u69, u70, u71, u72, u73, u74, u75, u76, u77, u78, u79, u80, u81, u82, u83, u84, u85, u86, u87, u88, u89, u90, u91, u92, u93, u94, u95, u96, u97, u98, u99, u100, u101, u102, u103, u104, u105, u106, u107, u108, u109, u110, u111, u112, u113, u114, u115, u116, u117, u118, u119, u120, u121, u122, u123, u124, u125, u126, u127, u128, u129, u130, u131, u132, u133, u134, u135, u136, u137, u138, u139, u140, u141, u142, u143, u144, u145, u146, u147, u148, u149, u150, u151, u152, u153, u154, u155, u156, u157, u158, u159, u160, u161, u162, u163, u164, u165, u166, u167, u168, u169, u170, u171, u172, u173, u174, u175, u176, u177, u178, u179, u180, u181, u182, u183, u184, u185, u186, u187, u188, u189, u190, u191, u192, u193, u194, u195, u196, u197, u198, u199, u200, u201, u202, u203, u204, u205, u206, u207, u208, u209, u210, u211, u212, u213, u214, u215, u216, u217, u218, u219, u220, u221, u222], []⟩ wr := by
  obtain ⟨c0, c1, c2, c3, c4⟩ := hop
  have hk1 : (k : Int) < (n : Int) := by omega
  have hW0 := heap_alloc_new wr (.cells #[.int .i64 ok, .int .i64 oa, .int .i64 vk, .int .i64 vn, .string vs] 32)
  have hE0 : Below wr.heap.size wr (wr.alloc (.cells #[.int .i64 ok, .int .i64 oa, .int .i64 vk, .int .i64 vn, .string vs] 32)) := (Below.refl _ _).alloc (Nat.le_refl _) _
  have hs0 : (wr.alloc (.cells #[.int .i64 ok, .int .i64 oa, .int .i64 vk, .int .i64 vn, .string vs] 32)).heap.size = wr.heap.size + 1 := by simp
  have HT0 := Lib.hid (two_below HT.out hE0)
  have HE0 := Lib.hid hE0
  have HW0 := Lib.hid hW0
  have hbw := lt_of_block HT.out.l.blk
  have hrow := list_row HT.out.l
  have HROW := Lib.hid hrow
  clear hE0 hW0 hrow
  subst hok
  subst hm0
  obtain rfl : M = [] := List.length_eq_zero_iff.1 hlen.out
  have HP := Lib.hid (pop_no B b adl capl _ (two_below (two_below HT.out HE0.out) ((Below.refl _ _).alloc (Nat.le_refl _) (.cells #[.int .i64 0, .int .i64 0, .string ⟨#[]⟩] 30))).l)
  conv => arg 2; whnf
  go_wp2_with fail
  all_goals refine HP.out.mono ?_
  all_goals
    rintro e w1 ⟨rfl, hb1⟩
    have hq := box1 (w := wr.alloc (.cells #[.int .i64 1, .int .i64 oa, .int .i64 vk, .int .i64 vn, .string vs] 32)) hb1
    have hq0 := hq.1
    rw [hs0] at hq0
    have hE1 := ((HE0.out.trans (hq.2.mono HE0.out.size)).setCell (p := ⟨wr.heap.size + 1, 0, none⟩) (by simp) (.int .i64 0)).setCell (p := ⟨wr.heap.size + 1, 1, none⟩) (by simp) (.int .i64 0) |>.setCell (p := ⟨wr.heap.size + 1, 2, none⟩) (by simp) (.string ⟨#[]⟩)
    obtain ⟨x0, x1, x2, y0, y1, y2⟩ := three_facts hq0
    have HT1 := Lib.hid (two_below HT.out hE1)
    have HZ1 := Lib.hid (HZ.out.trans (hE1.mono HZ.out.size))
    have HL1 : Hid (([] : List (Int × Int × ByteArray)).length = 0) := rfl
    clear hq hq0 hb1 hE1
    go_wp2_with fail
    have hS := same_in B b adl adw capl capw [] (by have := HL1.out; omega) _ HT1.out.l (own_in HT1.out.s)
    rw [HL1.out] at hS
    have HS := Lib.hid hS
    clear hS
    go_wp2_with fail
    refine HS.out.mono ?_
    rintro e w9 ⟨rfl, hb9⟩
    have HT9 := Lib.hid (two_below HT1.out hb9)
    have HZ9 := Lib.hid (HZ1.out.trans (hb9.mono HZ1.out.size))
    clear hb9 HS
    go_wp2_with fail
    refine ⟨?_, by simp [Wmu, slotAt, intOf]; omega⟩
    unfold WI
    refine ⟨_, _, _, _, _, _, _, _, _, _, _, _, _, _, _, _, _, _, _, _, _, _, _, _, _, _, _, _, _, _, _, _, _, _, _, _, _, _, _, _, _, _, _, _, _, _, _, _, _, _, _, _, _, _, _, _, _, _, _, _, _, _, _, _, _, _, _, _, _, _, _, _, _, _, _, _, _, _, _, _, _, _, _, _, _, _, _, _, _, _, _, _, _, _, _, _, _, _, _, _, _, _, _, _, _, _, _, _, _, _, _, _, _, _, _, _, _, _, _, _, _, _, _, _, _, _, _, _, _, _, _, _, _, _, _, _, _, _, _, _, _, _, _, _, _, _, _, _, _, _, _, _, _, _, _, _, _, _, _, _, _, _, _, _, _, _, _, _, _, _, _, _, _, _, _, _, _, _, _, _, _, _, _, _, _, _, _, _, _, _, _, _, _, _, _, _, _, _, _, _, _, _, _, _, _, ?_, rfl⟩
    exact ⟨k + 1, [], adl, adw, capl, capw, by omega, by rw [HL1.out], by go_num, HT9, by show _ ≤ _; rw [HL1.out]; omega, HZ9⟩


set_option maxRecDepth 1000000 in
set_option maxHeartbeats 8000000 in
theorem case_pop1 (B b g off n cap : Nat) (w0 : World) (c0 c1 c5 c15 c16 c17 c18 c19 c20 c21 c22 c23 c24 c25 c26 : Value) (u2 u6 u7 u8 u9 u10 u11 u12 u13 u14 u30 u31 u32 u33 u34 u35 u36 u37 u38 u39 u40 u41 u42 u43 u44 u45 u46 u47 u48 u49 u50 u51 u52 u53 u54 u55 u56 u57 u58 u59 u60 u61 u62 u63 u64 u65 u66 u67 u68 u69 u70 u71 u72 u73 u74 u75 u76 u77 u78 u79 u80 u81 u82 u83 u84 u85 u86 u87 u88 u89 u90 u91 u92 u93 u94 u95 u96 u97 u98 u99 u100 u101 u102 u103 u104 u105 u106 u107 u108 u109 u110 u111 u112 u113 u114 u115 u116 u117 u118 u119 u120 u121 u122 u123 u124 u125 u126 u127 u128 u129 u130 u131 u132 u133 u134 u135 u136 u137 u138 u139 u140 u141 u142 u143 u144 u145 u146 u147 u148 u149 u150 u151 u152 u153 u154 u155 u156 u157 u158 u159 u160 u161 u162 u163 u164 u165 u166 u167 u168 u169 u170 u171 u172 u173 u174 u175 u176 u177 u178 u179 u180 u181 u182 u183 u184 u185 u186 u187 u188 u189 u190 u191 u192 u193 u194 u195 u196 u197 u198 u199 u200 u201 u202 u203 u204 u205 u206 u207 u208 u209 u210 u211 u212 u213 u214 u215 u216 u217 u218 u219 u220 u221 u222 : Value) (Q0 : Exit → Act → World → Prop) (a0 : Act) (wr : World) (k m : Nat) (M : List (Int × Int × ByteArray)) (adl adw : Option Addr) (capl capw : Nat) (ok oa vk vn : Int) (vs : ByteArray)
    (HT : Hid (Two B b adl capl adw capw wr M M)) (hm : m ≤ 300 + 2 * k) (hlen : Hid (M.length = m)) (HZ : Hid (Below w0.heap.size w0 wr)) (hB : Hid (B = w0.heap.size)) (hk : k < n) (hn : n ≤ 80)
    (hop : wr.cell? ⟨g, off + k * 5, none⟩ = some (.int .i64 ok) ∧ wr.cell? ⟨g, off + k * 5 + 1, none⟩ = some (.int .i64 oa) ∧ wr.cell? ⟨g, off + k * 5 + 2, none⟩ = some (.int .i64 vk) ∧ wr.cell? ⟨g, off + k * 5 + 3, none⟩ = some (.int .i64 vn) ∧ wr.cell? ⟨g, off + k * 5 + 4, none⟩ = some (.string vs)) (j : Nat) (hok : ok = 1) (hmj : m = j + 1) :
    Code.wp Try.prog body (Exit.then (fun a' w'' => WI B b g off n cap w0 c0 c1 c5 c15 c16 c17 c18 c19 c20 c21 c22 c23 c24 c25 c26 a' w'' ∧ Wmu n a' w'' < Wmu n ⟨#[c0, c1, u2, .pointer (some ⟨b, 0, none⟩), .slice adw m capw, c5, u6, u7, u8, u9, u10, u11, u12, u13, u14, c15, c16, c17, c18, c19, c20, c21, c22, c23, c24, c25, c26, .slice (some ⟨g, off, none⟩) n cap, .int .i64 (n : Int), .int .i64 (k : Int), u30, u31, u32, u33, u34, u35, u36, u37, u38, u39, u40, u41, u42, u43, u44, u45, u46, u47, u48, u49, u50, u51, u52, u53, u54, u55, u56, u57, u58, u59, u60, u61, u62, u63, u64, u65, u66, u67, u68, u69, u70, u71, u72, u73, u74, u75, u76, u77, u78, u79, u80, u81, u82, u83, u84, u85, u86, u87, u88, u89, u90, u91, u92, u93, u94, u95, u96, u97, u98, u99, u100, u101, u102, u103, u104, u105, u106, u107, u108, u109, u110, u111, u112, u113, u114, u115, u116, u117, u118, u119, u120, u121, u122, u123, u124, u125, u126, u127, u128, u129, u130, u131, u132, u133, u134, u135, u136, u137, u138, u139, u140, u141, u142, u143, u144, u145, u146, u147, u148, u149, u150, u151, u152, u153, u154, u155, u156, u157, u158, u159, u160, u161, u162, u163, u164, u165, u166, u167, u168, u169, u170, u171, u172, u173, u174, u175, u176, u177, u178, u179, u180, u181, u182, u183, u184, u185, u186, u187, u188, u189, u190, u191, u192, u193, u194, u195, u196, u197, u198, u199, u200, u201, u202, u203, u204, u205, u206, u207, u208, u209, u210, u211, u212, u213, u214, u215, u216, u217, u218, u219, u220, u221, u222], []⟩ wr) (QQ Q0 a0)) ⟨#[c0, c1, u2, .pointer (some ⟨b, 0, none⟩), .slice adw m capw, c5, u6, u7, u8, u9, u10, u11, u12, u13, u14, c15, c16, c17, c18, c19, c20, c21, c22, c23, c24, c25, c26, .slice (some ⟨g, off, none⟩) n cap, .int .i64 (n : Int), .int .i64 (k : Int), u30, u31, u32, u33, u34, u35, u36, u37, u38, u39, u40, u41, u42, u43, u44, u45, u46, u47, u48, u49, u50, u51, u52, u53, u54, u55, u56, u57, u58, u59, u60, u61, u62, u63, u64, u65, u66, u67, u68, u69, u70, u71, u72, u73, u74, u75, u76, u77, u78, u79, u80, u81, u82, u83, u84, u85, u86, u87, u88, u89, u90, u91, u92, u93, u94, u95, u96, u97, u98, u99, u100, u101, u102, u103, u104, u105, u106, u107, u108, u109, u110, u111, u112, u113, u114, u115, u116, u117, u118, u119, u120, u121, u122, u123, u124, u125, u126, u127, u128, u129, u130, u131, u132, u133, u134, u135, u136, u137, u138, u139, u140, u141, u142, u143, u144, u145, u146, u147, u148, u149, u150, u151, u152, u153, u154, u155, u156, u157, u158, u159, u160, u161, u162, u163, u164, u165, u166, u167, u168, u169, u170, u171, u172, u173, u174, u175, u176, u177, u178, u179, u180, u181, u182, u183, u184, u185, u186, u187, u188, u189, u190, u191, u192, u193, u194, u195, u196, u197, u198, u199, u200, u201, u202, u203, u204, u205, u206, u207, u208, u209, u210, u211, u212, u213, u214, u215, u216, u217, u218, u219, u220, u221, u222], []⟩ wr := by
  obtain ⟨c0, c1, c2, c3, c4⟩ := hop
  have hk1 : (k : Int) < (n : Int) := by omega
  have hW0 := heap_alloc_new wr (.cells #[.int .i64 ok, .int .i64 oa, .int .i64 vk, .int .i64 vn, .string vs] 32)
  have hE0 : Below wr.heap.size wr (wr.alloc (.cells #[.int .i64 ok, .int .i64 oa, .int .i64 vk, .int .i64 vn, .string vs] 32)) := (Below.refl _ _).alloc (Nat.le_refl _) _
  have hs0 : (wr.alloc (.cells #[.int .i64 ok, .int .i64 oa, .int .i64 vk, .int .i64 vn, .string vs] 32)).heap.size = wr.heap.size + 1 := by simp
  have HT0 := Lib.hid (two_below HT.out hE0)
  have HE0 := Lib.hid hE0
  have HW0 := Lib.hid hW0
  have hbw := lt_of_block HT.out.l.blk
  have hrow := list_row HT.out.l
  have HROW := Lib.hid hrow
  clear hE0 hW0 hrow
  subst hok
  subst hmj
  have hjl : j < M.length := by have := hlen.out; omega
  have hE1 := HE0.out.alloc (by simp) (.cells #[.int .i64 0, .int .i64 0, .string ⟨#[]⟩] 30)
  have hP := pop_any B b adl capl M j hlen.out (by have := hlen.out; omega) _ (two_below HT.out hE1).l
  unfold agg at hP
  have HX : Hid (M[j] = M[j]) := rfl
  have HAT := Lib.hid fun (W : World) (g' : Nat) (h : Own B (some ⟨g', 0, none⟩) capw W M) => own_at h j hjl
  obtain ⟨gw, hgw, _, hgw2⟩ := own_some HT.out.s (by omega)
  subst hgw
  have hcap := own_cap HT.out.s
  rw [hlen.out] at hcap
  generalize M[j] = x at *
  have HP := Lib.hid hP
  have hq : ((wr.alloc (.cells #[.int .i64 1, .int .i64 oa, .int .i64 vk, .int .i64 vn, .string vs] 32)).alloc (.cells #[.int .i64 0, .int .i64 0, .string ⟨#[]⟩] 30)).heap[wr.heap.size + 1]? = some (.cells #[.int .i64 0, .int .i64 0, .string ⟨#[]⟩] 30) := by
    have := heap_alloc_new (wr.alloc (.cells #[.int .i64 1, .int .i64 oa, .int .i64 vk, .int .i64 vn, .string vs] 32)) (.cells #[.int .i64 0, .int .i64 0, .string ⟨#[]⟩] 30)
    rw [hs0] at this
    exact this
  have HQ := Lib.hid hq
  have HE1 := Lib.hid hE1
  have hj0 : (0 : Int) ≤ (j : Int) := by omega
  have hj1 : (j : Int) < ((j + 1 : Nat) : Int) := by omega
  have hj2 : (j : Int) ≤ (capw : Int) := by omega
  have hj3 : j ≤ capw := by omega
  have hjb : j ≤ 1000 := by omega
  clear hP hE1 hq HX hjl hcap
  conv => arg 2; whnf
  go_wp2_with fail
  all_goals refine HP.out.mono ?_
  all_goals
    intro e w1 hh
    have he := hh.1
    subst he
    have hS := hh.2
    have hN1 : ∀ g, adl.map (·.block) = some g → g < wr.heap.size := HROW.out
    have hU := hS.2
    have hq1 := upd_blk HQ.out hU (by omega) (fun e => by have := hN1 _ e; omega)
    obtain ⟨z0, z1, z2, y0, y1, y2⟩ := three_facts hq1
    have hT1 := two_same (two_below HT.out HE1.out) hS
    have hZ1 := two_low (HZ.out.trans (HE1.out.mono HZ.out.size)) (HZ.out.trans (HE1.out.mono HZ.out.size)).size (Nat.le_of_eq rfl) (by have := two_below HT.out HE1.out; rw [hB.out] at this; exact this) hU
    have hN2 : ∀ g, (some (⟨gw, 0, none⟩ : Addr)).map (·.block) = some g → g < wr.heap.size := fun g e => by simp at e; omega
    have hT2 := two_off (two_off (two_off hT1 hbw hN1 hN2 (p := ⟨wr.heap.size + 1, 0, none⟩) (by simp) (.int .i64 x.1)) hbw hN1 hN2 (p := ⟨wr.heap.size + 1, 1, none⟩) (by simp) (.int .i64 x.2.1)) hbw hN1 hN2 (p := ⟨wr.heap.size + 1, 2, none⟩) (by simp) (.string x.2.2)
    have hws : w0.heap.size ≤ wr.heap.size := HZ.out.size
    have hZ2 := ((hZ1.setCell (p := ⟨wr.heap.size + 1, 0, none⟩) (Nat.le_trans hws (Nat.le_succ _)) (.int .i64 x.1)).setCell (p := ⟨wr.heap.size + 1, 1, none⟩) (Nat.le_trans hws (Nat.le_succ _)) (.int .i64 x.2.1)).setCell (p := ⟨wr.heap.size + 1, 2, none⟩) (Nat.le_trans hws (Nat.le_succ _)) (.string x.2.2)
    have hq2 := heap_three hq1 (.int .i64 x.1) (.int .i64 x.2.1) (.string x.2.2)
    generalize hw2 : ((w1.setCell ⟨wr.heap.size + 1, 0, none⟩ (.int .i64 x.1)).setCell ⟨wr.heap.size + 1, 1, none⟩ (.int .i64 x.2.1)).setCell ⟨wr.heap.size + 1, 2, none⟩ (.string x.2.2) = w2 at *
    obtain ⟨d0, d1, d2, _, _, _⟩ := three_facts hq2
    obtain ⟨f0, f1, f2⟩ := HAT.out w2 gw hT2.s
    have HT2 := Lib.hid hT2
    have HZ2 := Lib.hid hZ2
    have HW2 := Lib.hid hw2
    clear hh hS hU hT1 hZ1 hT2 hZ2 hq1 hq2 hN1 hN2 hws hw2
    go_wp2_with fail
    simp only [HW2.out]
    go_quiet (fail)
    go_wp2_with fail
    have hlt : (M.take j).length = j := by rw [List.length_take]; have := hlen.out; omega
    have HT3 := Lib.hid (two_take (two_below HT2.out (below_drewN (n := nq) (Below.refl _ _))) j (by have := hlen.out; omega))
    have HZ3 := Lib.hid (below_drewN (n := nq) HZ2.out)
    have HL3 := Lib.hid hlt
    clear hlt
    have hS := same_in B b adl (some ⟨gw, 0, none⟩) capl capw (M.take j) (by have := HL3.out; omega) _ HT3.out.l (own_in HT3.out.s)
    rw [HL3.out] at hS
    have HS := Lib.hid hS
    clear hS
    go_wp2_with fail
    refine HS.out.mono ?_
    rintro e w9 ⟨rfl, hb9⟩
    have HT9 := Lib.hid (two_below HT3.out hb9)
    have HZ9 := Lib.hid (HZ3.out.trans (hb9.mono HZ3.out.size))
    clear hb9 HS
    go_wp2_with fail
    refine ⟨?_, by simp [Wmu, slotAt, intOf]; omega⟩
    unfold WI
    refine ⟨_, _, _, _, _, _, _, _, _, _, _, _, _, _, _, _, _, _, _, _, _, _, _, _, _, _, _, _, _, _, _, _, _, _, _, _, _, _, _, _, _, _, _, _, _, _, _, _, _, _, _, _, _, _, _, _, _, _, _, _, _, _, _, _, _, _, _, _, _, _, _, _, _, _, _, _, _, _, _, _, _, _, _, _, _, _, _, _, _, _, _, _, _, _, _, _, _, _, _, _, _, _, _, _, _, _, _, _, _, _, _, _, _, _, _, _, _, _, _, _, _, _, _, _, _, _, _, _, _, _, _, _, _, _, _, _, _, _, _, _, _, _, _, _, _, _, _, _, _, _, _, _, _, _, _, _, _, _, _, _, _, _, _, _, _, _, _, _, _, _, _, _, _, _, _, _, _, _, _, _, _, _, _, _, _, _, _, _, _, _, _, _, _, _, _, _, _, _, _, _, _, _, _, _, _, ?_, rfl⟩
    exact ⟨k + 1, (M.take j), adl, (some ⟨gw, 0, none⟩), capl, capw, by omega, by rw [HL3.out], by go_num, HT9, by show _ ≤ _; rw [HL3.out]; omega, HZ9⟩


set_option maxRecDepth 1000000 in
set_option maxHeartbeats 8000000 in
theorem case_end (B b g off n cap : Nat) (w0 : World) (c0 c1 c5 c15 c16 c17 c18 c19 c20 c21 c22 c23 c24 c25 c26 : Value) (u2 u6 u7 u8 u9 u10 u11 u12 u13 u14 u30 u31 u32 u33 u34 u35 u36 u37 u38 u39 u40 u41 u42 u43 u44 u45 u46 u47 u48 u49 u50 u51 u52 u53 u54 u55 u56 u57 u58 u59 u60 u61 u62 u63 u64 u65 u66 u67 u68 u69 u70 u71 u72 u73 u74 u75 u76 u77 u78 u79 u80 u81 u82 u83 u84 u85 u86 u87 u88 u89 u90 u91 u92 u93 u94 u95 u96 u97 u98 u99 u100 u101 u102 u103 u104 u105 u106 u107 u108 u109 u110 u111 u112 u113 u114 u115 u116 u117 u118 u119 u120 u121 u122 u123 u124 u125 u126 u127 u128 u129 u130 u131 u132 u133 u134 u135 u136 u137 u138 u139 u140 u141 u142 u143 u144 u145 u146 u147 u148 u149 u150 u151 u152 u153 u154 u155 u156 u157 u158 u159 u160 u161 u162 u163 u164 u165 u166 u167 u168 u169 u170 u171 u172 u173 u174 u175 u176 u177 u178 u179 u180 u181 u182 u183 u184 u185 u186 u187 u188 u189 u190 u191 u192 u193 u194 u195 u196 u197 u198 u199 u200 u201 u202 u203 u204 u205 u206 u207 u208 u209 u210 u211 u212 u213 u214 u215 u216 u217 u218 u219 u220 u221 u222 : Value) (Q0 : Exit → Act → World → Prop) (a0 : Act) (wr : World) (m : Nat) (M : List (Int × Int × ByteArray)) (adl adw : Option Addr) (capl capw : Nat)
    (HT : Hid (Two B b adl capl adw capw wr M M)) (hm : m ≤ 300 + 2 * n) (hlen : Hid (M.length = m)) (HZ : Hid (Below w0.heap.size w0 wr)) (hn : n ≤ 80) (hex : ∀ a' w'', WI B b g off n cap w0 c0 c1 c5 c15 c16 c17 c18 c19 c20 c21 c22 c23 c24 c25 c26 a' w'' → Q0 (.exit 0) a' w'') :
    Code.wp Try.prog body (Exit.then (fun a' w'' => WI B b g off n cap w0 c0 c1 c5 c15 c16 c17 c18 c19 c20 c21 c22 c23 c24 c25 c26 a' w'' ∧ Wmu n a' w'' < Wmu n ⟨#[c0, c1, u2, .pointer (some ⟨b, 0, none⟩), .slice adw m capw, c5, u6, u7, u8, u9, u10, u11, u12, u13, u14, c15, c16, c17, c18, c19, c20, c21, c22, c23, c24, c25, c26, .slice (some ⟨g, off, none⟩) n cap, .int .i64 (n : Int), .int .i64 (n : Int), u30, u31, u32, u33, u34, u35, u36, u37, u38, u39, u40, u41, u42, u43, u44, u45, u46, u47, u48, u49, u50, u51, u52, u53, u54, u55, u56, u57, u58, u59, u60, u61, u62, u63, u64, u65, u66, u67, u68, u69, u70, u71, u72, u73, u74, u75, u76, u77, u78, u79, u80, u81, u82, u83, u84, u85, u86, u87, u88, u89, u90, u91, u92, u93, u94, u95, u96, u97, u98, u99, u100, u101, u102, u103, u104, u105, u106, u107, u108, u109, u110, u111, u112, u113, u114, u115, u116, u117, u118, u119, u120, u121, u122, u123, u124, u125, u126, u127, u128, u129, u130, u131, u132, u133, u134, u135, u136, u137, u138, u139, u140, u141, u142, u143, u144, u145, u146, u147, u148, u149, u150, u151, u152, u153, u154, u155, u156, u157, u158, u159, u160, u161, u162, u163, u164, u165, u166, u167, u168, u169, u170, u171, u172, u173, u174, u175, u176, u177, u178, u179, u180, u181, u182, u183, u184, u185, u186, u187, u188, u189, u190, u191, u192, u193, u194, u195, u196, u197, u198, u199, u200, u201, u202, u203, u204, u205, u206, u207, u208, u209, u210, u211, u212, u213, u214, u215, u216, u217, u218, u219, u220, u221, u222], []⟩ wr) (QQ Q0 a0)) ⟨#[c0, c1, u2, .pointer (some ⟨b, 0, none⟩), .slice adw m capw, c5, u6, u7, u8, u9, u10, u11, u12, u13, u14, c15, c16, c17, c18, c19, c20, c21, c22, c23, c24, c25, c26, .slice (some ⟨g, off, none⟩) n cap, .int .i64 (n : Int), .int .i64 (n : Int), u30, u31, u32, u33, u34, u35, u36, u37, u38, u39, u40, u41, u42, u43, u44, u45, u46, u47, u48, u49, u50, u51, u52, u53, u54, u55, u56, u57, u58, u59, u60, u61, u62, u63, u64, u65, u66, u67, u68, u69, u70, u71, u72, u73, u74, u75, u76, u77, u78, u79, u80, u81, u82, u83, u84, u85, u86, u87, u88, u89, u90, u91, u92, u93, u94, u95, u96, u97, u98, u99, u100, u101, u102, u103, u104, u105, u106, u107, u108, u109, u110, u111, u112, u113, u114, u115, u116, u117, u118, u119, u120, u121, u122, u123, u124, u125, u126, u127, u128, u129, u130, u131, u132, u133, u134, u135, u136, u137, u138, u139, u140, u141, u142, u143, u144, u145, u146, u147, u148, u149, u150, u151, u152, u153, u154, u155, u156, u157, u158, u159, u160, u161, u162, u163, u164, u165, u166, u167, u168, u169, u170, u171, u172, u173, u174, u175, u176, u177, u178, u179, u180, u181, u182, u183, u184, u185, u186, u187, u188, u189, u190, u191, u192, u193, u194, u195, u196, u197, u198, u199, u200, u201, u202, u203, u204, u205, u206, u207, u208, u209, u210, u211, u212, u213, u214, u215, u216, u217, u218, u219, u220, u221, u222], []⟩ wr := by
  conv => arg 2; whnf
  go_wp2_with fail
  try (refine hex _ _ ?_)
  unfold WI
  refine ⟨_, _, _, _, _, _, _, _, _, _, _, _, _, _, _, _, _, _, _, _, _, _, _, _, _, _, _, _, _, _, _, _, _, _, _, _, _, _, _, _, _, _, _, _, _, _, _, _, _, _, _, _, _, _, _, _, _, _, _, _, _, _, _, _, _, _, _, _, _, _, _, _, _, _, _, _, _, _, _, _, _, _, _, _, _, _, _, _, _, _, _, _, _, _, _, _, _, _, _, _, _, _, _, _, _, _, _, _, _, _, _, _, _, _, _, _, _, _, _, _, _, _, _, _, _, _, _, _, _, _, _, _, _, _, _, _, _, _, _, _, _, _, _, _, _, _, _, _, _, _, _, _, _, _, _, _, _, _, _, _, _, _, _, _, _, _, _, _, _, _, _, _, _, _, _, _, _, _, _, _, _, _, _, _, _, _, _, _, _, _, _, _, _, _, _, _, _, _, _, _, _, _, _, _, _, ?_, rfl⟩
  exact ⟨n, M, adl, adw, capl, capw, Nat.le_refl _, by rw [hlen.out], rfl, HT, by show _ ≤ _; rw [hlen.out]; omega, HZ⟩
end Go.Proofs.Ytfngndbpgegnaaa.Li
