/- 'ListPlays': cases of a round. -/
import Derived.Test.YtfngndbpgegnaaaPlay2
set_option linter.unusedVariables false
namespace Go.Proofs.Ytfngndbpgegnaaa.Li
open Go.RowKit Go.ChangeShapes Go.WideShapes Go.ChangeAt Go.Proofs.Ytfngndbpgegnaaa.Va
set_option maxRecDepth 1000000 in
set_option maxHeartbeats 8000000 in
theorem case_res_big (B b g off n cap : Nat) (w0 : World) (c0 c1 c5 c15 c16 c17 c18 c19 c20 c21 c22 c23 c24 c25 c26 : Value) (u2 u6 u7 u8 u9 u10 u11 u12 u13 u14 u30 u31 u32 u33 u34 u35 u36 u37 u38 u39 u40 u41 u42 u43 u44 u45 u46 u47 u48 u49 u50 u51 u52 u53 u54 u55 u56 u57 u58 u59 u60 u61 u62 u63 u64 u65 u66 u67 u68 u69 u70 u71 u72 u73 u74 u75 u76 u77 u78 u79 u80 u81 u82 u83 u84 u85 u86 u87 u88 u89 u90 u91 u92 u93 u94 u95 u96 u97 u98 u99 u100 u101 u102 u103 u104 u105 u106 u107 u108 u109 u110 u111 u112 u113 u114 u115 u116 u117 u118 u119 u120 u121 u122 u123 u124 u125 u126 u127 u128 u129 u130 u131 u132 u133 u134 u135 u136 u137 u138 u139 u140 u141 u142 u143 u144 u145 u146 u147 u148 u149 u150 u151 u152 u153 u154 u155 u156 u157 u158 u159 u160 u161 u162 u163 u164 u165 u166 u167 u168 u169 u170 u171 u172 u173 u174 u175 u176 u177 u178 u179 u180 u181 u182 u183 u184 u185 u186 u187 u188 u189 u190 u191 u192 u193 u194 u195 u196 u197 u198 u199 u200 u201 u202 u203 u204 u205 u206 u207 u208 u209 u210 u211 u212 u213 u214 u215 u216 u217 u218 u219 u220 u221 u222 : Value) (Q0 : Exit → Act → World → Prop) (a0 : Act) (wr : World) (k m : Nat) (M : List (Int × Int × ByteArray)) (adl adw : Option Addr) (capl capw : Nat) (ok oa vk vn : Int) (vs : ByteArray)
    (HT : Hid (Two B b adl capl adw capw wr M M)) (hm : m ≤ 300 + 2 * k) (hlen : Hid (M.length = m)) (HZ : Hid (Below w0.heap.size w0 wr)) (hB : Hid (B = w0.heap.size)) (hk : k < n) (hn : n ≤ 80)
    (hop : wr.cell? ⟨g, off + k * 5, none⟩ = some (.int .i64 ok) ∧ wr.cell? ⟨g, off + k * 5 + 1, none⟩ = some (.int .i64 oa) ∧ wr.cell? ⟨g, off + k * 5 + 2, none⟩ = some (.int .i64 vk) ∧ wr.cell? ⟨g, off + k * 5 + 3, none⟩ = some (.int .i64 vn) ∧ wr.cell? ⟨g, off + k * 5 + 4, none⟩ = some (.string vs)) (hok : ok = 5) (h1 : 300 < oa) :
    Code.wp Try.prog body (Exit.then (fun a' w'' => WI B b g off n cap w0 c0 c1 c5 c15 c16 c17 c18 c19 c20 c21 c22 c23 c24 c25 c26 a' w'' ∧ Wmu n a' w'' < Wmu n ⟨#[c0, c1, u2, .pointer (some ⟨b, 0, none⟩), .slice adw m capw, c5, u6, u7, u8, u9, u10, u11, u12, u13, u14, c15, c16, c17, c18, c19, c20, c21, c22, c23, c24, c25, c26, .slice (some ⟨g, off, none⟩) n cap, .int .i64 (n : Int), .int .i64 (k : Int), u30, u31, u32, u33, u34, u35, u36, u37, u38, u39, u40, u41, u42, u43, u44, u45, u46, u47, u48, u49, u50, u51, u52, u53, u54, u55, u56, u57, u58, u59, u60, u61, u62, u63, u64, u65, u66, u67, u68, u69, u70, u71, u72, u73, u74, u75, u76, u77, u78, u79, u80, u81, u82, u83, u84, u85, u86, u87, u88, u89, u90, u91, u92, u93, u94, u95, u96, u97, u98, u99, u100, u101, u102, u103, u104, u105, u106, u107, u108, u109, u110, u111, u112, u113, u114, u115, u116, u117, u118, u119, u120, u121, u122, u123, u124, u125, u126, u127, u128, u129, u130, u131, u132, u133, u134, u135, u136, u137, u138, u139, u140, u141, u142, u143, u144, u145, u146, u147, u148, u149, u150, u151, u152, u153, u154, u155, u156, u157, u158, u159, u160, u161, u162, u163, u164, u165, u166, u167, u168, u169, u170, u171, u172, u173, u174, u175, u176, u177, u178, u179, u180, u181, u182, u183, u184, u185, u186, u187, u188, u189, u190, u191, u192, u193, u194, u195, u196, u197, u198, u199, u200, u201, u202, u203, u204, u205, u206, u207, u208, u209, u210, u211, u212, u213, u214, u215, u216, u217, u218, u219, u220, u221, u222], []⟩ wr) (QQ Q0 a0)) ⟨#[c0, c1, u2, .pointer (some ⟨b, 0, none⟩), .slice adw m capw, c5, u6, u7, u8, u9, u10, u11, u12, u13, u14, c15, c16, c17, c18, c19, c20, c21, c22, c23, c24, c25, c26, .slice (some ⟨g, off, none⟩) n cap, .int .i64 (n : Int), .int .i64 (k : Int), u30, u31, u32, u33, u34, u35, u36, u37, u38, u39, u40, u41, u42, u43, u44, u45, u46, u47, u48, u49, u50, u51, u52, u53, u54, u55, u56, u57, u58, u59, u60, u61, u62, u63, u64, u65, u66, u67, u68, u69, u70, u71, u72, u73, u74, u75, u76, u77, u78, u79, u80, u81, u82, u83, u84, u85, u86, u87, u88, u89, u90, u91, u92, u93, u94, u95, u96, u97, u98, u99, u100, u101, u102, u103, u104, u105, u106, u107, u108, u109, u110, u111, u112, u113, u114, u115, u116, u117, u118, u119, u120, u121, u122, u123, u124, u125, u126, u127, u128, u129, u130, u131, u132, u133, u134, u135, u136, u137, u138, u139, u140, u141, u142, u143, u144, u145, u146, u147, u148, u149, u150, u151, u152, u153, u154, u155, u156, u157, u158, u159, u160, u161, u162, u163, u164, u165, u166, u167, u168, u169, u170, u171, u172, u173, u174, u175, u176, u177, u178, u179, u180, u181, u182, u183, u184, u185, u186, u187, u188, u189, u190, u191, u192, u193, u194, u195, u196, u197, u198, u199, u200, u201, u202, u203, u204, u205, u206, u207, u208, u209, u210, u211, u212, u213, u214, u215, u216, u217, u218, u219, u220, u221, u222], []⟩ wr := by
  obtain ⟨c0, c1, c2, c3, c4⟩ := hop
  have hk1 : (k : Int) < (n : Int) := by omega
  have hW0 := heap_alloc_new wr (.cells #[.int .i64 ok, .int .i64 oa, .int .i64 vk, .int .i64 vn, .string vs] 32)
  have hE0 : Below wr.heap.size wr (wr.alloc (.cells #[.int .i64 ok, .int .i64 oa, .int .i64 vk, .int .i64 vn, .string vs] 32)) := (Below.refl _ _).alloc (Nat.le_refl _) _
  have hs0 : (wr.alloc (.cells #[.int .i64 ok, .int .i64 oa, .int .i64 vk, .int .i64 vn, .string vs] 32)).heap.size = wr.heap.size + 1 := by simp
  have HT0 := Lib.hid (two_below HT.out hE0)
  have HE0 := Lib.hid hE0
  have HW0 := Lib.hid hW0
  have hbw := lt_of_block HT.out.l.blk
  have hrow := list_row HT.out.l
  have HROW := Lib.hid hrow
  clear hE0 hW0 hrow
  subst hok
  have HZ0 := Lib.hid (HZ.out.trans (HE0.out.mono HZ.out.size))
  have h0 : 0 ≤ oa := by omega
  by_cases h2 : oa < (m : Int)
  all_goals
    conv => arg 2; whnf
    go_wp2_with fail
    refine ⟨?_, by simp [Wmu, slotAt, intOf]; omega⟩
    unfold WI
    refine ⟨_, _, _, _, _, _, _, _, _, _, _, _, _, _, _, _, _, _, _, _, _, _, _, _, _, _, _, _, _, _, _, _, _, _, _, _, _, _, _, _, _, _, _, _, _, _, _, _, _, _, _, _, _, _, _, _, _, _, _, _, _, _, _, _, _, _, _, _, _, _, _, _, _, _, _, _, _, _, _, _, _, _, _, _, _, _, _, _, _, _, _, _, _, _, _, _, _, _, _, _, _, _, _, _, _, _, _, _, _, _, _, _, _, _, _, _, _, _, _, _, _, _, _, _, _, _, _, _, _, _, _, _, _, _, _, _, _, _, _, _, _, _, _, _, _, _, _, _, _, _, _, _, _, _, _, _, _, _, _, _, _, _, _, _, _, _, _, _, _, _, _, _, _, _, _, _, _, _, _, _, _, _, _, _, _, _, _, _, _, _, _, _, _, _, _, _, _, _, _, _, _, _, _, _, _, ?_, rfl⟩
    exact ⟨k + 1, M, adl, adw, capl, capw, by omega, by rw [hlen.out], by go_num, HT0, by show _ ≤ _; rw [hlen.out]; omega, HZ0⟩


set_option maxRecDepth 1000000 in
set_option maxHeartbeats 8000000 in
theorem case_other (B b g off n cap : Nat) (w0 : World) (c0 c1 c5 c15 c16 c17 c18 c19 c20 c21 c22 c23 c24 c25 c26 : Value) (u2 u6 u7 u8 u9 u10 u11 u12 u13 u14 u30 u31 u32 u33 u34 u35 u36 u37 u38 u39 u40 u41 u42 u43 u44 u45 u46 u47 u48 u49 u50 u51 u52 u53 u54 u55 u56 u57 u58 u59 u60 u61 u62 u63 u64 u65 u66 u67 u68 u69 u70 u71 u72 u73 u74 u75 u76 u77 u78 u79 u80 u81 u82 u83 u84 u85 u86 u87 u88 u89 u90 u91 u92 u93 u94 u95 u96 u97 u98 u99 u100 u101 u102 u103 u104 u105 u106 u107 u108 u109 u110 u111 u112 u113 u114 u115 u116 u117 u118 u119 u120 u121 u122 u123 u124 u125 u126 u127 u128 u129 u130 u131 u132 u133 u134 u135 u136 u137 u138 u139 u140 u141 u142 u143 u144 u145 u146 u147 u148 u149 u150 u151 u152 u153 u154 u155 u156 u157 u158 u159 u160 u161 u162 u163 u164 u165 u166 u167 u168 u169 u170 u171 u172 u173 u174 u175 u176 u177 u178 u179 u180 u181 u182 u183 u184 u185 u186 u187 u188 u189 u190 u191 u192 u193 u194 u195 u196 u197 u198 u199 u200 u201 u202 u203 u204 u205 u206 u207 u208 u209 u210 u211 u212 u213 u214 u215 u216 u217 u218 u219 u220 u221 u222 : Value) (Q0 : Exit → Act → World → Prop) (a0 : Act) (wr : World) (k m : Nat) (M : List (Int × Int × ByteArray)) (adl adw : Option Addr) (capl capw : Nat) (ok oa vk vn : Int) (vs : ByteArray)
    (HT : Hid (Two B b adl capl adw capw wr M M)) (hm : m ≤ 300 + 2 * k) (hlen : Hid (M.length = m)) (HZ : Hid (Below w0.heap.size w0 wr)) (hB : Hid (B = w0.heap.size)) (hk : k < n) (hn : n ≤ 80)
    (hop : wr.cell? ⟨g, off + k * 5, none⟩ = some (.int .i64 ok) ∧ wr.cell? ⟨g, off + k * 5 + 1, none⟩ = some (.int .i64 oa) ∧ wr.cell? ⟨g, off + k * 5 + 2, none⟩ = some (.int .i64 vk) ∧ wr.cell? ⟨g, off + k * 5 + 3, none⟩ = some (.int .i64 vn) ∧ wr.cell? ⟨g, off + k * 5 + 4, none⟩ = some (.string vs)) (hok : ok < 0 ∨ 7 < ok) :
    Code.wp Try.prog body (Exit.then (fun a' w'' => WI B b g off n cap w0 c0 c1 c5 c15 c16 c17 c18 c19 c20 c21 c22 c23 c24 c25 c26 a' w'' ∧ Wmu n a' w'' < Wmu n ⟨#[c0, c1, u2, .pointer (some ⟨b, 0, none⟩), .slice adw m capw, c5, u6, u7, u8, u9, u10, u11, u12, u13, u14, c15, c16, c17, c18, c19, c20, c21, c22, c23, c24, c25, c26, .slice (some ⟨g, off, none⟩) n cap, .int .i64 (n : Int), .int .i64 (k : Int), u30, u31, u32, u33, u34, u35, u36, u37, u38, u39, u40, u41, u42, u43, u44, u45, u46, u47, u48, u49, u50, u51, u52, u53, u54, u55, u56, u57, u58, u59, u60, u61, u62, u63, u64, u65, u66, u67, u68, u69, u70, u71, u72, u73, u74, u75, u76, u77, u78, u79, u80, u81, u82, u83, u84, u85, u86, u87, u88, u89, u90, u91, u92, u93, u94, u95, u96, u97, u98, u99, u100, u101, u102, u103, u104, u105, u106, u107, u108, u109, u110, u111, u112, u113, u114, u115, u116, u117, u118, u119, u120, u121, u122, u123, u124, u125, u126, u127, u128, u129, u130, u131, u132, u133, u134, u135, u136, u137, u138, u139, u140, u141, u142, u143, u144, u145, u146, u147, u148, u149, u150, u151, u152, u153, u154, u155, u156, u157, u158, u159, u160, u161, u162, u163, u164, u165, u166, u167, u168, u169, u170, u171, u172, u173, u174, u175, u176, u177, u178, u179, u180, u181, u182, u183, u184, u185, u186, u187, u188, u189, u190, u191, u192, u193, u194, u195, u196, u197, u198, u199, u200, u201, u202, u203, u204, u205, u206, u207, u208, u209, u210, u211, u212, u213, u214, u215, u216, u217, u218, u219, u220, u221, u222], []⟩ wr) (QQ Q0 a0)) ⟨#[c0, c1, u2, .pointer (some ⟨b, 0, none⟩), .slice adw m capw, c5, u6, u7, u8, u9, u10, u11, u12, u13, u14, c15, c16, c17, c18, c19, c20, c21, c22, c23, c24, c25, c26, .slice (some ⟨g, off, none⟩) n cap, .int .i64 (n : Int), .int .i64 (k : Int), u30, u31, u32, u33, u34, u35, u36, u37, u38, u39, u40, u41, u42, u43, u44, u45, u46, u47, u48, u49, u50, u51, u52, u53, u54, u55, u56, u57, u58, u59, u60, u61, u62, u63, u64, u65, u66, u67, u68, u69, u70, u71, u72, u73, u74, u75, u76, u77, u78, u79, u80, u81, u82, u83, u84, u85, u86, u87, u88, u89, u90, u91, u92, u93, u94, u95, u96, u97, u98, u99, u100, u101, u102, u103, u104, u105, u106, u107, u108, u109, u110, u111, u112, u113, u114, u115, u116, u117, u118, u119, u120, u121, u122, u123, u124, u125, u126, u127, u128, u129, u130, u131, u132, u133, u134, u135, u136, u137, u138, u139, u140, u141, u142, u143, u144, u145, u146, u147, u148, u149, u150, u151, u152, u153, u154, u155, u156, u157, u158, u159, u160, u161, u162, u163, u164, u165, u166, u167, u168, u169, u170, u171, u172, u173, u174, u175, u176, u177, u178, u179, u180, u181, u182, u183, u184, u185, u186, u187, u188, u189, u190, u191, u192, u193, u194, u195, u196, u197, u198, u199, u200, u201, u202, u203, u204, u205, u206, u207, u208, u209, u210, u211, u212, u213, u214, u215, u216, u217, u218, u219, u220, u221, u222], []⟩ wr := by
  obtain ⟨c0, c1, c2, c3, c4⟩ := hop
  have hk1 : (k : Int) < (n : Int) := by omega
  have hW0 := heap_alloc_new wr (.cells #[.int .i64 ok, .int .i64 oa, .int .i64 vk, .int .i64 vn, .string vs] 32)
  have hE0 : Below wr.heap.size wr (wr.alloc (.cells #[.int .i64 ok, .int .i64 oa, .int .i64 vk, .int .i64 vn, .string vs] 32)) := (Below.refl _ _).alloc (Nat.le_refl _) _
  have hs0 : (wr.alloc (.cells #[.int .i64 ok, .int .i64 oa, .int .i64 vk, .int .i64 vn, .string vs] 32)).heap.size = wr.heap.size + 1 := by simp
  have HT0 := Lib.hid (two_below HT.out hE0)
  have HE0 := Lib.hid hE0
  have HW0 := Lib.hid hW0
  have hbw := lt_of_block HT.out.l.blk
  have hrow := list_row HT.out.l
  have HROW := Lib.hid hrow
  clear hE0 hW0 hrow
  have q0 : (ok == 0) = false := by rw [beq_eq_false_iff_ne]; omega
  have q1 : (ok == 1) = false := by rw [beq_eq_false_iff_ne]; omega
  have q2 : (ok == 2) = false := by rw [beq_eq_false_iff_ne]; omega
  have q3 : (ok == 3) = false := by rw [beq_eq_false_iff_ne]; omega
  have q4 : (ok == 4) = false := by rw [beq_eq_false_iff_ne]; omega
  have q5 : (ok == 5) = false := by rw [beq_eq_false_iff_ne]; omega
  have q6 : (ok == 6) = false := by rw [beq_eq_false_iff_ne]; omega
  have q7 : (ok == 7) = false := by rw [beq_eq_false_iff_ne]; omega
  have HZ0 := Lib.hid (HZ.out.trans (HE0.out.mono HZ.out.size))
  clear hok
  conv => arg 2; whnf
  go_wp2_with fail
  all_goals
    have hS := same_in B b adl adw capl capw M (by have := hlen.out; omega) _ HT0.out.l (own_in HT0.out.s)
    rw [hlen.out] at hS
    have HS := Lib.hid hS
    clear hS
    go_wp2_with fail
    refine HS.out.mono ?_
    rintro e w9 ⟨rfl, hb9⟩
    have HT9 := Lib.hid (two_below HT0.out hb9)
    have HZ9 := Lib.hid (HZ0.out.trans (hb9.mono HZ0.out.size))
    clear hb9 HS
    go_wp2_with fail
    refine ⟨?_, by simp [Wmu, slotAt, intOf]; omega⟩
    unfold WI
    refine ⟨_, _, _, _, _, _, _, _, _, _, _, _, _, _, _, _, _, _, _, _, _, _, _, _, _, _, _, _, _, _, _, _, _, _, _, _, _, _, _, _, _, _, _, _, _, _, _, _, _, _, _, _, _, _, _, _, _, _, _, _, _, _, _, _, _, _, _, _, _, _, _, _, _, _, _, _, _, _, _, _, _, _, _, _, _, _, _, _, _, _, _, _, _, _, _, _, _, _, _, _, _, _, _, _, _, _, _, _, _, _, _, _, _, _, _, _, _, _, _, _, _, _, _, _, _, _, _, _, _, _, _, _, _, _, _, _, _, _, _, _, _, _, _, _, _, _, _, _, _, _, _, _, _, _, _, _, _, _, _, _, _, _, _, _, _, _, _, _, _, _, _, _, _, _, _, _, _, _, _, _, _, _, _, _, _, _, _, _, _, _, _, _, _, _, _, _, _, _, _, _, _, _, _, _, _, ?_, rfl⟩
    exact ⟨k + 1, M, adl, adw, capl, capw, by omega, by rw [hlen.out], by go_num, HT9, by show _ ≤ _; rw [hlen.out]; omega, HZ9⟩


set_option maxRecDepth 1000000 in
set_option maxHeartbeats 8000000 in
theorem case_res_down (B b g off n cap : Nat) (w0 : World) (c0 c1 c5 c15 c16 c17 c18 c19 c20 c21 c22 c23 c24 c25 c26 : Value) (u2 u6 u7 u8 u9 u10 u11 u12 u13 u14 u30 u31 u32 u33 u34 u35 u36 u37 u38 u39 u40 u41 u42 u43 u44 u45 u46 u47 u48 u49 u50 u51 u52 u53 u54 u55 u56 u57 u58 u59 u60 u61 u62 u63 u64 u65 u66 u67 u68 u69 u70 u71 u72 u73 u74 u75 u76 u77 u78 u79 u80 u81 u82 u83 u84 u85 u86 u87 u88 u89 u90 u91 u92 u93 u94 u95 u96 u97 u98 u99 u100 u101 u102 u103 u104 u105 u106 u107 u108 u109 u110 u111 u112 u113 u114 u115 u116 u117 u118 u119 u120 u121 u122 u123 u124 u125 u126 u127 u128 u129 u130 u131 u132 u133 u134 u135 u136 u137 u138 u139 u140 u141 u142 u143 u144 u145 u146 u147 u148 u149 u150 u151 u152 u153 u154 u155 u156 u157 u158 u159 u160 u161 u162 u163 u164 u165 u166 u167 u168 u169 u170 u171 u172 u173 u174 u175 u176 u177 u178 u179 u180 u181 u182 u183 u184 u185 u186 u187 u188 u189 u190 u191 u192 u193 u194 u195 u196 u197 u198 u199 u200 u201 u202 u203 u204 u205 u206 u207 u208 u209 u210 u211 u212 u213 u214 u215 u216 u217 u218 u219 u220 u221 u222 : Value) (Q0 : Exit → Act → World → Prop) (a0 : Act) (wr : World) (k m : Nat) (M : List (Int × Int × ByteArray)) (adl adw : Option Addr) (capl capw : Nat) (ok oa vk vn : Int) (vs : ByteArray)
    (HT : Hid (Two B b adl capl adw capw wr M M)) (hm : m ≤ 300 + 2 * k) (hlen : Hid (M.length = m)) (HZ : Hid (Below w0.heap.size w0 wr)) (hB : Hid (B = w0.heap.size)) (hk : k < n) (hn : n ≤ 80)
    (hop : wr.cell? ⟨g, off + k * 5, none⟩ = some (.int .i64 ok) ∧ wr.cell? ⟨g, off + k * 5 + 1, none⟩ = some (.int .i64 oa) ∧ wr.cell? ⟨g, off + k * 5 + 2, none⟩ = some (.int .i64 vk) ∧ wr.cell? ⟨g, off + k * 5 + 3, none⟩ = some (.int .i64 vn) ∧ wr.cell? ⟨g, off + k * 5 + 4, none⟩ = some (.string vs)) (i : Nat) (hok : ok = 5) (hi : oa = (i : Int)) (him : i ≤ m) (hi3 : i ≤ 300) :
    Code.wp Try.prog body (Exit.then (fun a' w'' => WI B b g off n cap w0 c0 c1 c5 c15 c16 c17 c18 c19 c20 c21 c22 c23 c24 c25 c26 a' w'' ∧ Wmu n a' w'' < Wmu n ⟨#[c0, c1, u2, .pointer (some ⟨b, 0, none⟩), .slice adw m capw, c5, u6, u7, u8, u9, u10, u11, u12, u13, u14, c15, c16, c17, c18, c19, c20, c21, c22, c23, c24, c25, c26, .slice (some ⟨g, off, none⟩) n cap, .int .i64 (n : Int), .int .i64 (k : Int), u30, u31, u32, u33, u34, u35, u36, u37, u38, u39, u40, u41, u42, u43, u44, u45, u46, u47, u48, u49, u50, u51, u52, u53, u54, u55, u56, u57, u58, u59, u60, u61, u62, u63, u64, u65, u66, u67, u68, u69, u70, u71, u72, u73, u74, u75, u76, u77, u78, u79, u80, u81, u82, u83, u84, u85, u86, u87, u88, u89, u90, u91, u92, u93, u94, u95, u96, u97, u98, u99, u100, u101, u102, u103, u104, u105, u106, u107, u108, u109, u110, u111, u112, u113, u114, u115, u116, u117, u118, u119, u120, u121, u122, u123, u124, u125, u126, u127, u128, u129, u130, u131, u132, u133, u134, u135, u136, u137, u138, u139, u140, u141, u142, u143, u144, u145, u146, u147, u148, u149, u150, u151, u152, u153, u154, u155, u156, u157, u158, u159, u160, u161, u162, u163, u164, u165, u166, u167, u168, u169, u170, u171, u172, u173, u174, u175, u176, u177, u178, u179, u180, u181, u182, u183, u184, u185, u186, u187, u188, u189, u190, u191, u192, u193, u194, u195, u196, u197, u198, u199, u200, u201, u202, u203, u204, u205, u206, u207, u208, u209, u210, u211, u212, u213, u214, u215, u216, u217, u218, u219, u220, u221, u222], []⟩ wr) (QQ Q0 a0)) ⟨#[c0, c1, u2, .pointer (some ⟨b, 0, none⟩), .slice adw m capw, c5, u6, u7, u8, u9, u10, u11, u12, u13, u14, c15, c16, c17, c18, c19, c20, c21, c22, c23, c24, c25, c26, .slice (some ⟨g, off, none⟩) n cap, .int .i64 (n : Int), .int .i64 (k : Int), u30, u31, u32, u33, u34, u35, u36, u37, u38, u39, u40, u41, u42, u43, u44, u45, u46, u47, u48, u49, u50, u51, u52, u53, u54, u55, u56, u57, u58, u59, u60, u61, u62, u63, u64, u65, u66, u67, u68, u69, u70, u71, u72, u73, u74, u75, u76, u77, u78, u79, u80, u81, u82, u83, u84, u85, u86, u87, u88, u89, u90, u91, u92, u93, u94, u95, u96, u97, u98, u99, u100, u101, u102, u103, u104, u105, u106, u107, u108, u109, u110, u111, u112, u113, u114, u115, u116, u117, u118, u119, u120, u121, u122, u123, u124, u125, u126, u127, u128, u129, u130, u131, u132, u133, u134, u135, u136, u137, u138, u139, u140, u141, u142, u143, u144, u145, u146, u147, u148, u149, u150, u151, u152, u153, u154, u155, u156, u157, u158, u159, u160, u161, u162, u163, u164, u165, u166, u167, u168, u169, u170, u171, u172, u173, u174, u175, u176, u177, u178, u179, u180, u181, u182, u183, u184, u185, u186, u187, u188, u189, u190, u191, u192, u193, u194, u195, u196, u197, u198, u199, u200, u201, u202, u203, u204, u205, u206, u207, u208, u209, u210, u211, u212, u213, u214, u215, u216, u217, u218, u219, u220, u221, u222], []⟩ wr := by
  obtain ⟨c0, c1, c2, c3, c4⟩ := hop
  have hk1 : (k : Int) < (n : Int) := by omega
  have hW0 := heap_alloc_new wr (.cells #[.int .i64 ok, .int .i64 oa, .int .i64 vk, .int .i64 vn, .string vs] 32)
  have hE0 : Below wr.heap.size wr (wr.alloc (.cells #[.int .i64 ok, .int .i64 oa, .int .i64 vk, .int .i64 vn, .string vs] 32)) := (Below.refl _ _).alloc (Nat.le_refl _) _
  have hs0 : (wr.alloc (.cells #[.int .i64 ok, .int .i64 oa, .int .i64 vk, .int .i64 vn, .string vs] 32)).heap.size = wr.heap.size + 1 := by simp
  have HT0 := Lib.hid (two_below HT.out hE0)
  have HE0 := Lib.hid hE0
  have HW0 := Lib.hid hW0
  have hbw := lt_of_block HT.out.l.blk
  have hrow := list_row HT.out.l
  have HROW := Lib.hid hrow
  clear hE0 hW0 hrow
  subst hok
  subst hi
  have hP := resize_down B b adl capl M vk vn vs i (by have := hlen.out; omega) (by have := hlen.out; omega) _ HT0.out.l
  have HP := Lib.hid hP
  have hcap := own_cap HT.out.s
  rw [hlen.out] at hcap
  have hi0 : (0 : Int) ≤ (i : Int) := by omega
  have hib : ¬ (300 : Int) < (i : Int) := by omega
  have hic : (i : Int) ≤ (capw : Int) := by omega
  have hlt2 : ¬ (m : Int) < (i : Int) := by omega
  have hic2 : i ≤ capw := by omega
  clear hP
  by_cases h2 : (i : Int) < (m : Int)
  all_goals
    conv => arg 2; whnf
    go_wp2_with fail
    all_goals refine HP.out.mono ?_
    all_goals
      intro e w1 hh
      have he := hh.1
      subst he
      have hS := hh.2
      have hW1 := upd_blk HW0.out hS.2 (by omega) (fun e => by have := HROW.out _ e; omega)
      have hT1 := two_same HT0.out hS
      have hZ1 := two_low (HZ.out.trans (HE0.out.mono HZ.out.size)) (HZ.out.trans (HE0.out.mono HZ.out.size)).size (Nat.le_of_eq rfl) (by have := HT0.out; rw [hB.out] at this; exact this) hS.2
      have HT1 := Lib.hid hT1
      have HZ1 := Lib.hid hZ1
      obtain ⟨x0, x1, x2, x3, x4⟩ := five_facts hW1
      clear hh hS hW1 hT1 hZ1
      go_wp2_with fail
      refine wp_loop_rounds 1 ?_
      rw [rounds_succ]
      have HT2 := Lib.hid (two_take HT1.out i (by have := hlen.out; omega))
      have HL2 : Hid ((M.take i).length = i) := by show _ = _; rw [List.length_take]; have := hlen.out; omega
      go_wp2_with fail
      have hS := same_in B b adl adw capl capw (M.take i) (by have := HL2.out; omega) _ HT2.out.l (own_in HT2.out.s)
      rw [HL2.out] at hS
      have HS := Lib.hid hS
      clear hS
      go_wp2_with fail
      refine HS.out.mono ?_
      rintro e w9 ⟨rfl, hb9⟩
      have HT9 := Lib.hid (two_below HT2.out hb9)
      have HZ9 := Lib.hid (HZ1.out.trans (hb9.mono HZ1.out.size))
      clear hb9 HS
      go_wp2_with fail
      refine ⟨?_, by simp [Wmu, slotAt, intOf]; omega⟩
      unfold WI
      refine ⟨_, _, _, _, _, _, _, _, _, _, _, _, _, _, _, _, _, _, _, _, _, _, _, _, _, _, _, _, _, _, _, _, _, _, _, _, _, _, _, _, _, _, _, _, _, _, _, _, _, _, _, _, _, _, _, _, _, _, _, _, _, _, _, _, _, _, _, _, _, _, _, _, _, _, _, _, _, _, _, _, _, _, _, _, _, _, _, _, _, _, _, _, _, _, _, _, _, _, _, _, _, _, _, _, _, _, _, _, _, _, _, _, _, _, _, _, _, _, _, _, _, _, _, _, _, _, _, _, _, _, _, _, _, _, _, _, _, _, _, _, _, _, _, _, _, _, _, _, _, _, _, _, _, _, _, _, _, _, _, _, _, _, _, _, _, _, _, _, _, _, _, _, _, _, _, _, _, _, _, _, _, _, _, _, _, _, _, _, _, _, _, _, _, _, _, _, _, _, _, _, _, _, _, _, _, ?_, rfl⟩
      exact ⟨k + 1, (M.take i), adl, adw, capl, capw, by omega, by rw [HL2.out], by go_num, HT9, by show _ ≤ _; rw [HL2.out]; omega, HZ9⟩


set_option maxRecDepth 1000000 in
set_option maxHeartbeats 8000000 in
theorem case_res_up (B b g off n cap : Nat) (w0 : World) (c0 c1 c5 c15 c16 c17 c18 c19 c20 c21 c22 c23 c24 c25 c26 : Value) (u2 u6 u7 u8 u9 u10 u11 u12 u13 u14 u30 u31 u32 u33 u34 u35 u36 u37 u38 u39 u40 u41 u42 u43 u44 u45 u46 u47 u48 u49 u50 u51 u52 u53 u54 u55 u56 u57 u58 u59 u60 u61 u62 u63 u64 u65 u66 u67 u68 u69 u70 u71 u72 u73 u74 u75 u76 u77 u78 u79 u80 u81 u82 u83 u84 u85 u86 u87 u88 u89 u90 u91 u92 u93 u94 u95 u96 u97 u98 u99 u100 u101 u102 u103 u104 u105 u106 u107 u108 u109 u110 u111 u112 u113 u114 u115 u116 u117 u118 u119 u120 u121 u122 u123 u124 u125 u126 u127 u128 u129 u130 u131 u132 u133 u134 u135 u136 u137 u138 u139 u140 u141 u142 u143 u144 u145 u146 u147 u148 u149 u150 u151 u152 u153 u154 u155 u156 u157 u158 u159 u160 u161 u162 u163 u164 u165 u166 u167 u168 u169 u170 u171 u172 u173 u174 u175 u176 u177 u178 u179 u180 u181 u182 u183 u184 u185 u186 u187 u188 u189 u190 u191 u192 u193 u194 u195 u196 u197 u198 u199 u200 u201 u202 u203 u204 u205 u206 u207 u208 u209 u210 u211 u212 u213 u214 u215 u216 u217 u218 u219 u220 u221 u222 : Value) (Q0 : Exit → Act → World → Prop) (a0 : Act) (wr : World) (k m : Nat) (M : List (Int × Int × ByteArray)) (adl adw : Option Addr) (capl capw : Nat) (ok oa vk vn : Int) (vs : ByteArray)
    (HT : Hid (Two B b adl capl adw capw wr M M)) (hm : m ≤ 300 + 2 * k) (hlen : Hid (M.length = m)) (HZ : Hid (Below w0.heap.size w0 wr)) (hB : Hid (B = w0.heap.size)) (hk : k < n) (hn : n ≤ 80)
    (hop : wr.cell? ⟨g, off + k * 5, none⟩ = some (.int .i64 ok) ∧ wr.cell? ⟨g, off + k * 5 + 1, none⟩ = some (.int .i64 oa) ∧ wr.cell? ⟨g, off + k * 5 + 2, none⟩ = some (.int .i64 vk) ∧ wr.cell? ⟨g, off + k * 5 + 3, none⟩ = some (.int .i64 vn) ∧ wr.cell? ⟨g, off + k * 5 + 4, none⟩ = some (.string vs)) (i : Nat) (hok : ok = 5) (hi : oa = (i : Int)) (him : m < i) (hi3 : i ≤ 300) :
    Code.wp Try.prog body (Exit.then (fun a' w'' => WI B b g off n cap w0 c0 c1 c5 c15 c16 c17 c18 c19 c20 c21 c22 c23 c24 c25 c26 a' w'' ∧ Wmu n a' w'' < Wmu n ⟨#[c0, c1, u2, .pointer (some ⟨b, 0, none⟩), .slice adw m capw, c5, u6, u7, u8, u9, u10, u11, u12, u13, u14, c15, c16, c17, c18, c19, c20, c21, c22, c23, c24, c25, c26, .slice (some ⟨g, off, none⟩) n cap, .int .i64 (n : Int), .int .i64 (k : Int), u30, u31, u32, u33, u34, u35, u36, u37, u38, u39, u40, u41, u42, u43, u44, u45, u46, u47, u48, u49, u50, u51, u52, u53, u54, u55, u56, u57, u58, u59, u60, u61, u62, u63, u64, u65, u66, u67, u68, u69, u70, u71, u72, u73, u74, u75, u76, u77, u78, u79, u80, u81, u82, u83, u84, u85, u86, u87, u88, u89, u90, u91, u92, u93, u94, u95, u96, u97, u98, u99, u100, u101, u102, u103, u104, u105, u106, u107, u108, u109, u110, u111, u112, u113, u114, u115, u116, u117, u118, u119, u120, u121, u122, u123, u124, u125, u126, u127, u128, u129, u130, u131, u132, u133, u134, u135, u136, u137, u138, u139, u140, u141, u142, u143, u144, u145, u146, u147, u148, u149, u150, u151, u152, u153, u154, u155, u156, u157, u158, u159, u160, u161, u162, u163, u164, u165, u166, u167, u168, u169, u170, u171, u172, u173, u174, u175, u176, u177, u178, u179, u180, u181, u182, u183, u184, u185, u186, u187, u188, u189, u190, u191, u192, u193, u194, u195, u196, u197, u198, u199, u200, u201, u202, u203, u204, u205, u206, u207, u208, u209, u210, u211, u212, u213, u214, u215, u216, u217, u218, u219, u220, u221, u222], []⟩ wr) (QQ Q0 a0)) ⟨#[c0, c1, u2, .pointer (some ⟨b, 0, none⟩), .slice adw m capw, c5, u6, u7, u8, u9, u10, u11, u12, u13, u14, c15, c16, c17, c18, c19, c20, c21, c22, c23, c24, c25, c26, .slice (some ⟨g, off, none⟩) n cap, .int .i64 (n : Int), .int .i64 (k : Int), u30, u31, u32, u33, u34, u35, u36, u37, u38, u39, u40, u41, u42, u43, u44, u45, u46, u47, u48, u49, u50, u51, u52, u53, u54, u55, u56, u57, u58, u59, u60, u61, u62, u63, u64, u65, u66, u67, u68, u69, u70, u71, u72, u73, u74, u75, u76, u77, u78, u79, u80, u81, u82, u83, u84, u85, u86, u87, u88, u89, u90, u91, u92, u93, u94, u95, u96, u97, u98, u99, u100, u101, u102, u103, u104, u105, u106, u107, u108, u109, u110, u111, u112, u113, u114, u115, u116, u117, u118, u119, u120, u121, u122, u123, u124, u125, u126, u127, u128, u129, u130, u131, u132, u133, u134, u135, u136, u137, u138, u139, u140, u141, u142, u143, u144, u145, u146, u147, u148, u149, u150, u151, u152, u153, u154, u155, u156, u157, u158, u159, u160, u161, u162, u163, u164, u165, u166, u167, u168, u169, u170, u171, u172, u173, u174, u175, u176, u177, u178, u179, u180, u181, u182, u183, u184, u185, u186, u187, u188, u189, u190, u191, u192, u193, u194, u195, u196, u197, u198, u199, u200, u201, u202, u203, u204, u205, u206, u207, u208, u209, u210, u211, u212, u213, u214, u215, u216, u217, u218, u219, u220, u221, u222], []⟩ wr := by
  obtain ⟨c0, c1, c2, c3, c4⟩ := hop
  have hk1 : (k : Int) < (n : Int) := by omega
  have hW0 := heap_alloc_new wr (.cells #[.int .i64 ok, .int .i64 oa, .int .i64 vk, .int .i64 vn, .string vs] 32)
  have hE0 : Below wr.heap.size wr (wr.alloc (.cells #[.int .i64 ok, .int .i64 oa, .int .i64 vk, .int .i64 vn, .string vs] 32)) := (Below.refl _ _).alloc (Nat.le_refl _) _
  have hs0 : (wr.alloc (.cells #[.int .i64 ok, .int .i64 oa, .int .i64 vk, .int .i64 vn, .string vs] 32)).heap.size = wr.heap.size + 1 := by simp
  have HT0 := Lib.hid (two_below HT.out hE0)
  have HE0 := Lib.hid hE0
  have HW0 := Lib.hid hW0
  have hbw := lt_of_block HT.out.l.blk
  have hrow := list_row HT.out.l
  have HROW := Lib.hid hrow
  clear hE0 hW0 hrow
  subst hok
  subst hi
  have hP := resize_up B b adl capl M vk vn vs i (by omega) (by have := hlen.out; omega) _ (by have h1 := HZ.out.size; have h2 := HE0.out.size; have := hB.out; omega) HT0.out.l
  rw [hlen.out] at hP
  have HP := Lib.hid hP
  have hi0 : (0 : Int) ≤ (i : Int) := by omega
  have hib : ¬ (300 : Int) < (i : Int) := by omega
  have hlt2 : ¬ (i : Int) < (m : Int) := by omega
  clear hP
  conv => arg 2; whnf
  go_wp2_with fail
  all_goals refine HP.out.mono ?_
  all_goals
    rintro e w1 ⟨rfl, adl', capl', hL, hU, hf⟩
    have hW1 := upd_blk HW0.out hU (by omega) (fun e => by have := HROW.out _ e; omega)
    have hT1 := two_list HT0.out hL hU hf
    have hZ1 := two_low (HZ.out.trans (HE0.out.mono HZ.out.size)) (HZ.out.trans (HE0.out.mono HZ.out.size)).size (Nat.le_of_eq rfl) (by have := HT0.out; rw [hB.out] at this; exact this) hU
    have HT1 := Lib.hid hT1
    have HZ1 := Lib.hid hZ1
    obtain ⟨x0, x1, x2, x3, x4⟩ := five_facts hW1
    have HW1 := Lib.hid hW1
    clear hL hU hf hW1 hT1 hZ1
    go_wp2_with fail
    generalize hp : wr.heap.size = p at *
    have HPP := Lib.hid hp
    clear hp x0 x1 x2 x3 x4
    go_loopw [4] (fun s wr' => ∃ (q : Nat) (ad : Option Addr) (c : Nat), m ≤ q ∧ q ≤ i ∧ s = .slice ad q c ∧ Hid (Two B b adl' capl' ad c wr' (M ++ List.replicate (i - m) (vk, vn, vs)) (M ++ List.replicate (q - m) (vk, vn, vs))) ∧ Hid (Below w0.heap.size w0 wr') ∧ Hid (wr'.heap[p]? = some (.cells #[.int .i64 5, .int .i64 (i : Int), .int .i64 vk, .int .i64 vn, .string vs] 32))) (fun s _ => i - lenS s)
    case atStart => exact ⟨m, adw, capw, Nat.le_refl _, by omega, rfl, by show Two _ _ _ _ _ _ _ _ _; rw [Nat.sub_self, List.replicate_zero, List.append_nil]; exact HT1.out, HZ1, HW1⟩
    case round =>
      obtain ⟨q, ad, c, hq1, hq2, rfl, HTr, HZr, HWr⟩ := hrel
      obtain ⟨x0, x1, x2, x3, x4⟩ := five_facts HWr.out
      have hlq : (M ++ List.replicate (q - m) (vk, vn, vs)).length = q := by rw [List.length_append, List.length_replicate, hlen.out]; omega
      by_cases hqi : q < i
      · have hE : Below wr.heap.size wr (wr.alloc (.cells (flat [(vk, vn, vs)]).toArray 30)) := (Below.refl _ _).alloc (Nat.le_refl _) _
        have hTE := two_below HTr.out hE
        have hBE : B ≤ (wr.alloc (.cells (flat [(vk, vn, vs)]).toArray 30)).heap.size := by have h1 := HZr.out.size; have h2 := hE.size; have := hB.out; omega
        obtain ⟨ad2, cap2, w2, hr, hown, hgr, hfr⟩ := run_push (c := 1) (a := ⟨wr.heap.size, 0, none⟩) (M := [(vk, vn, vs)]) (by rw [hlq]; simp; omega) hBE hTE.s (lit_src _)
        have hl2 : (M ++ List.replicate (q - m) (vk, vn, vs) ++ [(vk, vn, vs)]).length = q + 1 := by rw [List.length_append, hlq]; rfl
        rw [hl2, hlq] at hr
        have HT2 := Lib.hid (two_grown hTE hown hgr hfr)
        rw [← replicate_step q m hq1] at HT2
        have HZ2 := Lib.hid (grown_low (HZr.out.trans (hE.mono HZr.out.size)) (by rw [← hB.out]; exact hBE) (by have := hTE.s; rw [hB.out] at this; exact this) hgr)
        have HW2 := Lib.hid (grown_blk (keep HWr.out hE) hgr (fun e => by
          have h1 := own_low hTE.s p e
          have h2 := HPP.out
          obtain ⟨cur, hc⟩ := own_block hTE.s p e
          have hk := keep HWr.out hE
          rw [hk] at hc
          simp at hc))
        have hqi' : (q : Int) < (i : Int) := by omega
        clear hE hTE hBE hown hgr hfr hl2 hlq
        go_wp2_with (at_builtin; refine Lib.wpList_append_run _ rfl _ _ _ _ rfl _ _ rfl rfl _ _ hr ?_)
        go_roundw
        case rel => exact ⟨q + 1, ad2, cap2, by omega, by omega, rfl, HT2, HZ2, HW2⟩
        case measure => simp [lenS]; omega
      · obtain rfl : q = i := by omega
        have hcap := own_cap HTr.out.s
        rw [hlq] at hcap
        have hic : (q : Int) ≤ (c : Int) := by omega
        have hic2 : q ≤ c := by omega
        have hnl : ¬ (q : Int) < (q : Int) := by omega
        have HL2 := Lib.hid hlq
        clear hlq hcap
        go_wp2_with fail
        have hS := same_in B b adl' ad capl' c (M ++ List.replicate (q - m) (vk, vn, vs)) (by have := HL2.out; omega) _ HTr.out.l (own_in HTr.out.s)
        rw [HL2.out] at hS
        have HS := Lib.hid hS
        clear hS
        go_wp2_with fail
        refine HS.out.mono ?_
        rintro e w9 ⟨rfl, hb9⟩
        have HT9 := Lib.hid (two_below HTr.out hb9)
        have HZ9 := Lib.hid (HZr.out.trans (hb9.mono HZr.out.size))
        clear hb9 HS
        go_wp2_with fail
        refine ⟨?_, by simp [Wmu, slotAt, intOf]; omega⟩
        unfold WI
        refine ⟨_, _, _, _, _, _, _, _, _, _, _, _, _, _, _, _, _, _, _, _, _, _, _, _, _, _, _, _, _, _, _, _, _, _, _, _, _, _, _, _, _, _, _, _, _, _, _, _, _, _, _, _, _, _, _, _, _, _, _, _, _, _, _, _, _, _, _, _, _, _, _, _, _, _, _, _, _, _, _, _, _, _, _, _, _, _, _, _, _, _, _, _, _, _, _, _, _, _, _, _, _, _, _, _, _, _, _, _, _, _, _, _, _, _, _, _, _, _, _, _, _, _, _, _, _, _, _, _, _, _, _, _, _, _, _, _, _, _, _, _, _, _, _, _, _, _, _, _, _, _, _, _, _, _, _, _, _, _, _, _, _, _, _, _, _, _, _, _, _, _, _, _, _, _, _, _, _, _, _, _, _, _, _, _, _, _, _, _, _, _, _, _, _, _, _, _, _, _, _, _, _, _, _, _, _, ?_, rfl⟩
        exact ⟨k + 1, (M ++ List.replicate (q - m) (vk, vn, vs)), adl', ad, capl', c, by omega, by rw [HL2.out], by go_num, HT9, by show _ ≤ _; rw [HL2.out]; omega, HZ9⟩


set_option maxRecDepth 1000000 in
set_option maxHeartbeats 8000000 in
theorem case_rev (B b g off n cap : Nat) (w0 : World) (c0 c1 c5 c15 c16 c17 c18 c19 c20 c21 c22 c23 c24 c25 c26 : Value) (u2 u6 u7 u8 u9 u10 u11 u12 u13 u14 u30 u31 u32 u33 u34 u35 u36 u37 u38 u39 u40 u41 u42 u43 u44 u45 u46 u47 u48 u49 u50 u51 u52 u53 u54 u55 u56 u57 u58 u59 u60 u61 u62 u63 u64 u65 u66 u67 u68 u69 u70 u71 u72 u73 u74 u75 u76 u77 u78 u79 u80 u81 u82 u83 u84 u85 u86 u87 u88 u89 u90 u91 u92 u93 u94 u95 u96 u97 u98 u99 u100 u101 u102 u103 u104 u105 u106 u107 u108 u109 u110 u111 u112 u113 u114 u115 u116 u117 u118 u119 u120 u121 u122 u123 u124 u125 u126 u127 u128 u129 u130 u131 u132 u133 u134 u135 u136 u137 u138 u139 u140 u141 u142 u143 u144 u145 u146 u147 u148 u149 u150 u151 u152 u153 u154 u155 u156 u157 u158 u159 u160 u161 u162 u163 u164 u165 u166 u167 u168 u169 u170 u171 u172 u173 u174 u175 u176 u177 u178 u179 u180 u181 u182 u183 u184 u185 u186 u187 u188 u189 u190 u191 u192 u193 u194 u195 u196 u197 u198 u199 u200 u201 u202 u203 u204 u205 u206 u207 u208 u209 u210 u211 u212 u213 u214 u215 u216 u217 u218 u219 u220 u221 u222 : Value) (Q0 : Exit → Act → World → Prop) (a0 : Act) (wr : World) (k m : Nat) (M : List (Int × Int × ByteArray)) (adl adw : Option Addr) (capl capw : Nat) (ok oa vk vn : Int) (vs : ByteArray)
    (HT : Hid (Two B b adl capl adw capw wr M M)) (hm : m ≤ 300 + 2 * k) (hlen : Hid (M.length = m)) (HZ : Hid (Below w0.heap.size w0 wr)) (hB : Hid (B = w0.heap.size)) (hk : k < n) (hn : n ≤ 80)
    (hop : wr.cell? ⟨g, off + k * 5, none⟩ = some (.int .i64 ok) ∧ wr.cell? ⟨g, off + k * 5 + 1, none⟩ = some (.int .i64 oa) ∧ wr.cell? ⟨g, off + k * 5 + 2, none⟩ = some (.int .i64 vk) ∧ wr.cell? ⟨g, off + k * 5 + 3, none⟩ = some (.int .i64 vn) ∧ wr.cell? ⟨g, off + k * 5 + 4, none⟩ = some (.string vs)) (hok : ok = 6) :
    Code.wp Try.prog body (Exit.then (fun a' w'' => WI B b g off n cap w0 c0 c1 c5 c15 c16 c17 c18 c19 c20 c21 c22 c23 c24 c25 c26 a' w'' ∧ Wmu n a' w'' < Wmu n ⟨#[c0, c1, u2, .pointer (some ⟨b, 0, none⟩), .slice adw m capw, c5, u6, u7, u8, u9, u10, u11, u12, u13, u14, c15, c16, c17, c18, c19, c20, c21, c22, c23, c24, c25, c26, .slice (some ⟨g, off, none⟩) n cap, .int .i64 (n : Int), .int .i64 (k : Int), u30, u31, u32, u33, u34, u35, u36, u37, u38, u39, u40, u41, u42, u43, u44, u45, u46, u47, u48, u49, u50, u51, u52, u53, u54, u55, u56, u57, u58, u59, u60, u61, u62, u63, u64, u65, u66, u67, u68, u69, u70, u71, u72, u73, u74, u75, u76, u77, u78, u79, u80, u81, u82, u83, u84, u85, u86, u87, u88, u89, u90, u91, u92, u93, u94, u95, u96, u97, u98, u99, u100, u101, u102, u103, u104, u105, u106, u107, u108, u109, u110, u111, u112, u113, u114, u115, u116, u117, u118, u119, u120, u121, u122, u123, u124, u125, u126, u127, u128, u129, u130, u131, u132, u133, u134, u135, u136, u137, u138, u139, u140, u141, u142, u143, u144, u145, u146, u147, u148, u149, u150, u151, u152, u153, u154, u155, u156, u157, u158, u159, u160, u161, u162, u163, u164, u165, u166, u167, u168, u169, u170, u171, u172, u173, u174, u175, u176, u177, u178, u179, u180, u181, u182, u183, u184, u185, u186, u187, u188, u189, u190, u191, u192, u193, u194, u195, u196, u197, u198, u199, u200, u201, u202, u203, u204, u205, u206, u207, u208, u209, u210, u211, u212, u213, u214, u215, u216, u217, u218, u219, u220, u221, u222], []⟩ wr) (QQ Q0 a0)) ⟨#[c0, c1, u2, .pointer (some ⟨b, 0, none⟩), .slice adw m capw, c5, u6, u7, u8, u9, u10, u11, u12, u13, u14, c15, c16, c17, c18, c19, c20, c21, c22, c23, c24, c25, c26, .slice (some ⟨g, off, none⟩) n cap, .int .i64 (n : Int), .int .i64 (k : Int), u30, u31, u32, u33, u34, u35, u36, u37, u38, u39, u40, u41, u42, u43, u44, u45, u46, u47, u48, u49, u50, u51, u52, u53, u54, u55, u56, u57, u58, u59, u60, u61, u62, u63, u64, u65, u66, u67, u68, u69, u70, u71, u72, u73, u74, u75, u76, u77, u78, u79, u80, u81, u82, u83, u84, u85, u86, u87, u88, u89, u90, u91, u92, u93, u94, u95, u96, u97, u98, u99, u100, u101, u102, u103, u104, u105, u106, u107, u108, u109, u110, u111, u112, u113, u114, u115, u116, u117, u118, u119, u120, u121, u122, u123, u124, u125, u126, u127, u128, u129, u130, u131, u132, u133, u134, u135, u136, u137, u138, u139, u140, u141, u142, u143, u144, u145, u146, u147, u148, u149, u150, u151, u152, u153, u154, u155, u156, u157, u158, u159, u160, u161, u162, u163, u164, u165, u166, u167, u168, u169, u170, u171, u172, u173, u174, u175, u176, u177, u178, u179, u180, u181, u182, u183, u184, u185, u186, u187, u188, u189, u190, u191, u192, u193, u194, u195, u196, u197, u198, u199, u200, u201, u202, u203, u204, u205, u206, u207, u208, u209, u210, u211, u212, u213, u214, u215, u216, u217, u218, u219, u220, u221, u222], []⟩ wr := by
  obtain ⟨c0, c1, c2, c3, c4⟩ := hop
  have hk1 : (k : Int) < (n : Int) := by omega
  have hW0 := heap_alloc_new wr (.cells #[.int .i64 ok, .int .i64 oa, .int .i64 vk, .int .i64 vn, .string vs] 32)
  have hE0 : Below wr.heap.size wr (wr.alloc (.cells #[.int .i64 ok, .int .i64 oa, .int .i64 vk, .int .i64 vn, .string vs] 32)) := (Below.refl _ _).alloc (Nat.le_refl _) _
  have hs0 : (wr.alloc (.cells #[.int .i64 ok, .int .i64 oa, .int .i64 vk, .int .i64 vn, .string vs] 32)).heap.size = wr.heap.size + 1 := by simp
  have HT0 := Lib.hid (two_below HT.out hE0)
  have HE0 := Lib.hid hE0
  have HW0 := Lib.hid hW0
  have hbw := lt_of_block HT.out.l.blk
  have hrow := list_row HT.out.l
  have HROW := Lib.hid hrow
  clear hE0 hW0 hrow
  subst hok
  have hP := reverse_yes B b adl capl M (by have := hlen.out; omega) _ HT0.out.l
  have HP := Lib.hid hP
  have hmb : m ≤ 1000 := by omega
  clear hP
  conv => arg 2; whnf
  go_wp2_with fail
  all_goals refine HP.out.mono ?_
  all_goals
    intro e w1 hh
    have he := hh.1
    subst he
    have hS := hh.2
    have hW1 := upd_blk HW0.out hS.2 (by omega) (fun e => by have := HROW.out _ e; omega)
    have hT1 := two_same HT0.out hS
    have hZ1 := two_low (HZ.out.trans (HE0.out.mono HZ.out.size)) (HZ.out.trans (HE0.out.mono HZ.out.size)).size (Nat.le_of_eq rfl) (by have := HT0.out; rw [hB.out] at this; exact this) hS.2
    have HT1 := Lib.hid hT1
    have HZ1 := Lib.hid hZ1
    clear hh hS hW1 hT1 hZ1
    go_wp2_with fail
    have HOE := Lib.hid (own_empty w1 w1.heap.size (Nat.le_refl _))
    have HBE : Hid (Below w1.heap.size w1 (w1.alloc (.cells #[] 30))) := (Below.refl _ _).alloc (Nat.le_refl _) _
    go_loopw [13, 14] (fun s t wr' => ∃ (q : Nat) (z : Int) (ad : Option Addr) (c : Nat), (q : Int) + z + 1 = (m : Int) ∧ -1 ≤ z ∧ s = .slice ad q c ∧ t = .int .i64 z ∧ Hid (Own w1.heap.size ad c wr' (M.reverse.take q)) ∧ Hid (Below w1.heap.size w1 wr')) (fun _ t _ => (intOf t + 1).toNat)
    case atStart => exact ⟨0, (m : Int) - 1, some ⟨w1.heap.size, 0, none⟩, 0, by omega, by omega, rfl, by go_num, HOE, HBE⟩
    case round =>
      obtain ⟨q, z, ad, c, hqz, hz, rfl, rfl, HO, HBr⟩ := hrel
      have hqb : q ≤ 1000 := by omega
      have hzb : z ≤ 1000 := by omega
      by_cases hz0 : 0 ≤ z
      · obtain ⟨j, rfl⟩ : ∃ j : Nat, z = (j : Int) := ⟨z.toNat, by omega⟩
        have hjl : j < M.length := by have := hlen.out; omega
        have hqj : q + j + 1 = M.length := by have := hlen.out; omega
        have HS1 := Lib.hid (reverse_step hjl hqj)
        have hTr := two_below HT1.out HBr.out
        obtain ⟨gw, hgw, _, _⟩ := own_some hTr.s (by omega)
        subst hgw
        obtain ⟨y0, y1, y2⟩ := own_at hTr.s j hjl
        have hlq : (M.reverse.take q).length = q := by rw [List.length_take, List.length_reverse]; omega
        generalize M[j] = x at *
        have hE : Below wr.heap.size wr (wr.alloc (.cells (flat [(x.1, x.2.1, x.2.2)]).toArray 30)) := (Below.refl _ _).alloc (Nat.le_refl _) _
        have hbE := HBr.out.trans (hE.mono HBr.out.size)
        obtain ⟨ad2, cap2, w2, hr, hown, hgr, hfr⟩ := run_push (c := 1) (a := ⟨wr.heap.size, 0, none⟩) (M := [(x.1, x.2.1, x.2.2)]) (by rw [hlq]; simp; omega) hbE.size (own_below HO.out hE) (lit_src _)
        have hl2 : (M.reverse.take q ++ [(x.1, x.2.1, x.2.2)]).length = q + 1 := by rw [List.length_append, hlq]; rfl
        rw [hl2, hlq] at hr
        rw [← HS1.out] at hown
        have HO2 := Lib.hid hown
        have hlow := own_low HO.out
        have HB2 := Lib.hid (hbE.grown hgr hbE.size (fun k e => hlow k e))
        have hz1 : (j : Int) < (m : Int) := by omega
        have hz2 : (0 : Int) ≤ (j : Int) := by omega
        have HQZ := Lib.hid hqz
        clear hE hbE hown hgr hfr hl2 hlq hTr hjl hqj hlow hqz
        go_wp2_with (at_builtin; refine Lib.wpList_append_run _ rfl _ _ _ _ rfl _ _ rfl rfl _ _ hr ?_)
        go_roundw
        case rel => exact ⟨q + 1, (j : Int) - 1, ad2, cap2, by have := HQZ.out; omega, by omega, rfl, rfl, HO2, HB2⟩
        case measure => simp [intOf] <;> omega
      · have hz1 : z = -1 := by omega
        have hqm : q = m := by omega
        subst hz1
        subst hqm
        have hO := HO.out
        rw [List.take_of_length_le (by rw [List.length_reverse]; have := hlen.out; omega)] at hO
        have HT2 := Lib.hid (two_new HT1.out HBr.out (Nat.le_refl _) (by have := HZ1.out.size; rw [hB.out]; exact this) hO)
        have HZ2 := Lib.hid (HZ1.out.trans (HBr.out.mono HZ1.out.size))
        have HL2 : Hid (M.reverse.length = q) := by show _ = _; rw [List.length_reverse]; exact hlen.out
        clear hO hqz hz
        go_wp2_with fail
        have hS := same_in B b adl ad capl c M.reverse (by have := HL2.out; omega) _ HT2.out.l (own_in HT2.out.s)
        rw [HL2.out] at hS
        have HS := Lib.hid hS
        clear hS
        go_wp2_with fail
        refine HS.out.mono ?_
        rintro e w9 ⟨rfl, hb9⟩
        have HT9 := Lib.hid (two_below HT2.out hb9)
        have HZ9 := Lib.hid (HZ2.out.trans (hb9.mono HZ2.out.size))
        clear hb9 HS
        go_wp2_with fail
        refine ⟨?_, by simp [Wmu, slotAt, intOf]; omega⟩
        unfold WI
        refine ⟨_, _, _, _, _, _, _, _, _, _, _, _, _, _, _, _, _, _, _, _, _, _, _, _, _, _, _, _, _, _, _, _, _, _, _, _, _, _, _, _, _, _, _, _, _, _, _, _, _, _, _, _, _, _, _, _, _, _, _, _, _, _, _, _, _, _, _, _, _, _, _, _, _, _, _, _, _, _, _, _, _, _, _, _, _, _, _, _, _, _, _, _, _, _, _, _, _, _, _, _, _, _, _, _, _, _, _, _, _, _, _, _, _, _, _, _, _, _, _, _, _, _, _, _, _, _, _, _, _, _, _, _, _, _, _, _, _, _, _, _, _, _, _, _, _, _, _, _, _, _, _, _, _, _, _, _, _, _, _, _, _, _, _, _, _, _, _, _, _, _, _, _, _, _, _, _, _, _, _, _, _, _, _, _, _, _, _, _, _, _, _, _, _, _, _, _, _, _, _, _, _, _, _, _, _, ?_, rfl⟩
        exact ⟨k + 1, M.reverse, adl, ad, capl, c, by omega, by rw [HL2.out], by go_num, HT9, by show _ ≤ _; rw [HL2.out]; omega, HZ9⟩

end Go.Proofs.Ytfngndbpgegnaaa.Li
