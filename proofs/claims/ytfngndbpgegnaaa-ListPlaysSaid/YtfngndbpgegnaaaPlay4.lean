/- 'ListPlays': cases of a round. -/
import Derived.Test.YtfngndbpgegnaaaPlay2
set_option linter.unusedVariables false
namespace Go.Proofs.Ytfngndbpgegnaaa.Li
open Go.RowKit Go.ChangeShapes Go.WideShapes Go.ChangeAt Go.Proofs.Ytfngndbpgegnaaa.Va
set_option maxRecDepth 1000000 in
set_option maxHeartbeats 8000000 in
theorem case_set_no1 (B b g off n cap : Nat) (w0 : World) (c0 c1 c5 c15 c16 c17 c18 c19 c20 c21 c22 c23 c24 c25 c26 : Value) (u2 u6 u7 u8 u9 u10 u11 u12 u13 u14 u30 u31 u32 u33 u34 u35 u36 u37 u38 u39 u40 u41 u42 u43 u44 u45 u46 u47 u48 u49 u50 u51 u52 u53 u54 u55 u56 u57 u58 u59 u60 u61 u62 u63 u64 u65 u66 u67 u68 u69 u70 u71 u72 u73 u74 u75 u76 u77 u78 u79 u80 u81 u82 u83 u84 u85 u86 u87 u88 u89 u90 u91 u92 u93 u94 u95 u96 u97 u98 u99 u100 u101 u102 u103 u104 u105 u106 u107 u108 u109 u110 u111 u112 u113 u114 u115 u116 u117 u118 u119 u120 u121 u122 u123 u124 u125 u126 u127 u128 u129 u130 u131 u132 u133 u134 u135 u136 u137 u138 u139 u140 u141 u142 u143 u144 u145 u146 u147 u148 u149 u150 u151 u152 u153 u154 u155 u156 u157 u158 u159 u160 u161 u162 u163 u164 u165 u166 u167 u168 u169 u170 u171 u172 u173 u174 u175 u176 u177 u178 u179 u180 u181 u182 u183 u184 u185 u186 u187 u188 u189 u190 u191 u192 u193 u194 u195 u196 u197 u198 u199 u200 u201 u202 u203 u204 u205 u206 u207 u208 u209 u210 u211 u212 u213 u214 u215 u216 u217 u218 u219 u220 u221 u222 : Value) (Q0 : Exit → Act → World → Prop) (a0 : Act) (wr : World) (k m : Nat) (M : List (Int × Int × ByteArray)) (adl adw : Option Addr) (capl capw : Nat) (ok oa vk vn : Int) (vs : ByteArray)
    (HT : Hid (Two B b adl capl adw capw wr M M)) (hm : m ≤ 300 + 2 * k) (hlen : Hid (M.length = m)) (HZ : Hid (Below w0.heap.size w0 wr)) (hB : Hid (B = w0.heap.size)) (hk : k < n) (hn : n ≤ 80)
    (hop : wr.cell? ⟨g, off + k * 5, none⟩ = some (.int .i64 ok) ∧ wr.cell? ⟨g, off + k * 5 + 1, none⟩ = some (.int .i64 oa) ∧ wr.cell? ⟨g, off + k * 5 + 2, none⟩ = some (.int .i64 vk) ∧ wr.cell? ⟨g, off + k * 5 + 3, none⟩ = some (.int .i64 vn) ∧ wr.cell? ⟨g, off + k * 5 + 4, none⟩ = some (.string vs)) (hok : ok = 2) (h1 : oa < 0) :
    Code.wp Try.prog body (Exit.then (fun a' w'' => WI B b g off n cap w0 c0 c1 c5 c15 c16 c17 c18 c19 c20 c21 c22 c23 c24 c25 c26 a' w'' ∧ Wmu n a' w'' < Wmu n ⟨#[c0, c1, u2, .pointer (some ⟨b, 0, none⟩), .slice adw m capw, c5, u6, u7, u8, u9, u10, u11, u12, u13, u14, c15, c16, c17, c18, c19, c20, c21, c22, c23, c24, c25, c26, .slice (some ⟨g, off, none⟩) n cap, .int .i64 (n : Int), .int .i64 (k : Int), u30, u31, u32, u33, u34, u35, u36, u37, u38, u39, u40, u41, u42, u43, u44, u45, u46, u47, u48, u49, u50, u51, u52, u53, u54, u55, u56, u57, u58, u59, u60, u61, u62, u63, u64, u65, u66, u67, u68, u69, u70, u71, u72, u73, u74, u75, u76, u77, u78, u79, u80, u81, u82, u83, u84, u85, u86, u87, u88, u89, u90, u91, u92, u93, u94, u95, u96, u97, u98, u99, u100, u101, u102, u103, u104, u105, u106, u107, u108, u109, u110, u111, u112, u113, u114, u115, u116, u117, u118, u119, u120, u121, u122, u123, u124, u125, u126, u127, u128, u129, u130, u131, u132, u133, u134, u135, u136, u137, u138, u139, u140, u141, u142, u143, u144, u145, u146, u147, u148, u149, u150, u151, u152, u153, u154, u155, u156, u157, u158, u159, u160, u161, u162, u163, u164, u165, u166, u167, u168, u169, u170, u171, u172, u173, u174, u175, u176, u177, u178, u179, u180, u181, u182, u183, u184, u185, u186, u187, u188, u189, u190, u191, u192, u193, u194, u195, u196, u197, u198, u199, u200, u201, u202, u203, u204, u205, u206, u207, u208, u209, u210, u211, u212, u213, u214, u215, u216, u217, u218, u219, u220, u221, u222], []⟩ wr) (QQ Q0 a0)) ⟨#[c0, c1, u2, .pointer (some ⟨b, 0, none⟩), .slice adw m capw, c5, u6, u7, u8, u9, u10, u11, u12, u13, u14, c15, c16, c17, c18, c19, c20, c21, c22, c23, c24, c25, c26, .slice (some ⟨g, off, none⟩) n cap, .int .i64 (n : Int), .int .i64 (k : Int), u30, u31, u32, u33, u34, u35, u36, u37, u38, u39, u40, u41, u42, u43, u44, u45, u46, u47, u48, u49, u50, u51, u52, u53, u54, u55, u56, u57, u58, u59, u60, u61, u62, u63, u64, u65, u66, u67, u68, u69, u70, u71, u72, u73, u74, u75, u76, u77, u78, u79, u80, u81, u82, u83, u84, u85, u86, u87, u88, u89, u90, u91, u92, u93, u94, u95, u96, u97, u98, u99, u100, u101, u102, u103, u104, u105, u106, u107, u108, u109, u110, u111, u112, u113, u114, u115, u116, u117, u118, u119, u120, u121, u122, u123, u124, u125, u126, u127, u128, u129, u130, u131, u132, u133, u134, u135, u136, u137, u138, u139, u140, u141, u142, u143, u144, u145, u146, u147, u148, u149, u150, u151, u152, u153, u154, u155, u156, u157, u158, u159, u160, u161, u162, u163, u164, u165, u166, u167, u168, u169, u170, u171, u172, u173, u174, u175, u176, u177, u178, u179, u180, u181, u182, u183, u184, u185, u186, u187, u188, u189, u190, u191, u192, u193, u194, u195, u196, u197, u198, u199, u200, u201, u202, u203, u204, u205, u206, u207, u208, u209, u210, u211, u212, u213, u214, u215, u216, u217, u218, u219, u220, u221, u222], []⟩ wr := by
  obtain ⟨c0, c1, c2, c3, c4⟩ := hop
  have hk1 : (k : Int) < (n : Int) := by omega
  have hW0 := heap_alloc_new wr (.cells #[.int .i64 ok, .int .i64 oa, .int .i64 vk, .int .i64 vn, .string vs] 32)
  have hE0 : Below wr.heap.size wr (wr.alloc (.cells #[.int .i64 ok, .int .i64 oa, .int .i64 vk, .int .i64 vn, .string vs] 32)) := (Below.refl _ _).alloc (Nat.le_refl _) _
  have hs0 : (wr.alloc (.cells #[.int .i64 ok, .int .i64 oa, .int .i64 vk, .int .i64 vn, .string vs] 32)).heap.size = wr.heap.size + 1 := by simp
  have HT0 := Lib.hid (two_below HT.out hE0)
  have HE0 := Lib.hid hE0
  have HW0 := Lib.hid hW0
  have hbw := lt_of_block HT.out.l.blk
  have hrow := list_row HT.out.l
  have HROW := Lib.hid hrow
  clear hE0 hW0 hrow
  subst hok
  have HP := Lib.hid (set_no B b adl capl M vk vn vs oa (by left; exact h1) _ HT0.out.l)
  conv => arg 2; whnf
  go_wp2_with fail
  all_goals refine HP.out.mono ?_
  all_goals
    rintro e w1 ⟨rfl, hb1⟩
    have HT1 := Lib.hid (two_below HT0.out hb1)
    have HZ1 := Lib.hid ((HZ.out.trans (HE0.out.mono HZ.out.size)).trans (hb1.mono (HZ.out.trans (HE0.out.mono HZ.out.size)).size))
    have hW1 := keep HW0.out hb1
    obtain ⟨x0, x1, x2, x3, x4⟩ := five_facts hW1
    clear hb1 hW1
    go_wp2_with fail
    have hS := same_in B b adl adw capl capw M (by have := hlen.out; omega) _ HT1.out.l (own_in HT1.out.s)
    rw [hlen.out] at hS
    have HS := Lib.hid hS
    clear hS
    go_wp2_with fail
    refine HS.out.mono ?_
    rintro e w9 ⟨rfl, hb9⟩
    have HT9 := Lib.hid (two_below HT1.out hb9)
    have HZ9 := Lib.hid (HZ1.out.trans (hb9.mono HZ1.out.size))
    clear hb9 HS
    go_wp2_with fail
    refine ⟨?_, by simp [Wmu, slotAt, intOf]; omega⟩
    unfold WI
    refine ⟨_, _, _, _, _, _, _, _, _, _, _, _, _, _, _, _, _, _, _, _, _, _, _, _, _, _, _, _, _, _, _, _, _, _, _, _, _, _, _, _, _, _, _, _, _, _, _, _, _, _, _, _, _, _, _, _, _, _, _, _, _, _, _, _, _, _, _, _, _, _, _, _, _, _, _, _, _, _, _, _, _, _, _, _, _, _, _, _, _, _, _, _, _, _, _, _, _, _, _, _, _, _, _, _, _, _, _, _, _, _, _, _, _, _, _, _, _, _, _, _, _, _, _, _, _, _, _, _, _, _, _, _, _, _, _, _, _, _, _, _, _, _, _, _, _, _, _, _, _, _, _, _, _, _, _, _, _, _, _, _, _, _, _, _, _, _, _, _, _, _, _, _, _, _, _, _, _, _, _, _, _, _, _, _, _, _, _, _, _, _, _, _, _, _, _, _, _, _, _, _, _, _, _, _, _, ?_, rfl⟩
    exact ⟨k + 1, M, adl, adw, capl, capw, by omega, by rw [hlen.out], by go_num, HT9, by show _ ≤ _; rw [hlen.out]; omega, HZ9⟩


set_option maxRecDepth 1000000 in
set_option maxHeartbeats 8000000 in
theorem case_set_no2 (B b g off n cap : Nat) (w0 : World) (c0 c1 c5 c15 c16 c17 c18 c19 c20 c21 c22 c23 c24 c25 c26 : Value) (u2 u6 u7 u8 u9 u10 u11 u12 u13 u14 u30 u31 u32 u33 u34 u35 u36 u37 u38 u39 u40 u41 u42 u43 u44 u45 u46 u47 u48 u49 u50 u51 u52 u53 u54 u55 u56 u57 u58 u59 u60 u61 u62 u63 u64 u65 u66 u67 u68 u69 u70 u71 u72 u73 u74 u75 u76 u77 u78 u79 u80 u81 u82 u83 u84 u85 u86 u87 u88 u89 u90 u91 u92 u93 u94 u95 u96 u97 u98 u99 u100 u101 u102 u103 u104 u105 u106 u107 u108 u109 u110 u111 u112 u113 u114 u115 u116 u117 u118 u119 u120 u121 u122 u123 u124 u125 u126 u127 u128 u129 u130 u131 u132 u133 u134 u135 u136 u137 u138 u139 u140 u141 u142 u143 u144 u145 u146 u147 u148 u149 u150 u151 u152 u153 u154 u155 u156 u157 u158 u159 u160 u161 u162 u163 u164 u165 u166 u167 u168 u169 u170 u171 u172 u173 u174 u175 u176 u177 u178 u179 u180 u181 u182 u183 u184 u185 u186 u187 u188 u189 u190 u191 u192 u193 u194 u195 u196 u197 u198 u199 u200 u201 u202 u203 u204 u205 u206 u207 u208 u209 u210 u211 u212 u213 u214 u215 u216 u217 u218 u219 u220 u221 u222 : Value) (Q0 : Exit → Act → World → Prop) (a0 : Act) (wr : World) (k m : Nat) (M : List (Int × Int × ByteArray)) (adl adw : Option Addr) (capl capw : Nat) (ok oa vk vn : Int) (vs : ByteArray)
    (HT : Hid (Two B b adl capl adw capw wr M M)) (hm : m ≤ 300 + 2 * k) (hlen : Hid (M.length = m)) (HZ : Hid (Below w0.heap.size w0 wr)) (hB : Hid (B = w0.heap.size)) (hk : k < n) (hn : n ≤ 80)
    (hop : wr.cell? ⟨g, off + k * 5, none⟩ = some (.int .i64 ok) ∧ wr.cell? ⟨g, off + k * 5 + 1, none⟩ = some (.int .i64 oa) ∧ wr.cell? ⟨g, off + k * 5 + 2, none⟩ = some (.int .i64 vk) ∧ wr.cell? ⟨g, off + k * 5 + 3, none⟩ = some (.int .i64 vn) ∧ wr.cell? ⟨g, off + k * 5 + 4, none⟩ = some (.string vs)) (hok : ok = 2) (h1 : 0 ≤ oa) (h2 : ¬ oa < (m : Int)) :
    Code.wp Try.prog body (Exit.then (fun a' w'' => WI B b g off n cap w0 c0 c1 c5 c15 c16 c17 c18 c19 c20 c21 c22 c23 c24 c25 c26 a' w'' ∧ Wmu n a' w'' < Wmu n ⟨#[c0, c1, u2, .pointer (some ⟨b, 0, none⟩), .slice adw m capw, c5, u6, u7, u8, u9, u10, u11, u12, u13, u14, c15, c16, c17, c18, c19, c20, c21, c22, c23, c24, c25, c26, .slice (some ⟨g, off, none⟩) n cap, .int .i64 (n : Int), .int .i64 (k : Int), u30, u31, u32, u33, u34, u35, u36, u37, u38, u39, u40, u41, u42, u43, u44, u45, u46, u47, u48, u49, u50, u51, u52, u53, u54, u55, u56, u57, u58, u59, u60, u61, u62, u63, u64, u65, u66, u67, u68, u69, u70, u71, u72, u73, u74, u75, u76, u77, u78, u79, u80, u81, u82, u83, u84, u85, u86, u87, u88, u89, u90, u91, u92, u93, u94, u95, u96, u97, u98, u99, u100, u101, u102, u103, u104, u105, u106, u107, u108, u109, u110, u111, u112, u113, u114, u115, u116, u117, u118, u119, u120, u121, u122, u123, u124, u125, u126, u127, u128, u129, u130, u131, u132, u133, u134, u135, u136, u137, u138, u139, u140, u141, u142, u143, u144, u145, u146, u147, u148, u149, u150, u151, u152, u153, u154, u155, u156, u157, u158, u159, u160, u161, u162, u163, u164, u165, u166, u167, u168, u169, u170, u171, u172, u173, u174, u175, u176, u177, u178, u179, u180, u181, u182, u183, u184, u185, u186, u187, u188, u189, u190, u191, u192, u193, u194, u195, u196, u197, u198, u199, u200, u201, u202, u203, u204, u205, u206, u207, u208, u209, u210, u211, u212, u213, u214, u215, u216, u217, u218, u219, u220, u221, u222], []⟩ wr) (QQ Q0 a0)) ⟨#[c0, c1, u2, .pointer (some ⟨b, 0, none⟩), .slice adw m capw, c5, u6, u7, u8, u9, u10, u11, u12, u13, u14, c15, c16, c17, c18, c19, c20, c21, c22, c23, c24, c25, c26, .slice (some ⟨g, off, none⟩) n cap, .int .i64 (n : Int), .int .i64 (k : Int), u30, u31, u32, u33, u34, u35, u36, u37, u38, u39, u40, u41, u42, u43, u44, u45, u46, u47, u48, u49, u50, u51, u52, u53, u54, u55, u56, u57, u58, u59, u60, u61, u62, u63, u64, u65, u66, u67, u68, u69, u70, u71, u72, u73, u74, u75, u76, u77, u78, u79, u80, u81, u82, u83, u84, u85, u86, u87, u88, u89, u90, u91, u92, u93, u94, u95, u96, u97, u98, u99, u100, u101, u102, u103, u104, u105, u106, u107, u108, u109, u110, u111, u112, u113, u114, u115, u116, u117, u118, u119, u120, u121, u122, u123, u124, u125, u126, u127, u128, u129, u130, u131, u132, u133, u134, u135, u136, u137, u138, u139, u140, u141, u142, u143, u144, u145, u146, u147, u148, u149, u150, u151, u152, u153, u154, u155, u156, u157, u158, u159, u160, u161, u162, u163, u164, u165, u166, u167, u168, u169, u170, u171, u172, u173, u174, u175, u176, u177, u178, u179, u180, u181, u182, u183, u184, u185, u186, u187, u188, u189, u190, u191, u192, u193, u194, u195, u196, u197, u198, u199, u200, u201, u202, u203, u204, u205, u206, u207, u208, u209, u210, u211, u212, u213, u214, u215, u216, u217, u218, u219, u220, u221, u222], []⟩ wr := by
  obtain ⟨c0, c1, c2, c3, c4⟩ := hop
  have hk1 : (k : Int) < (n : Int) := by omega
  have hW0 := heap_alloc_new wr (.cells #[.int .i64 ok, .int .i64 oa, .int .i64 vk, .int .i64 vn, .string vs] 32)
  have hE0 : Below wr.heap.size wr (wr.alloc (.cells #[.int .i64 ok, .int .i64 oa, .int .i64 vk, .int .i64 vn, .string vs] 32)) := (Below.refl _ _).alloc (Nat.le_refl _) _
  have hs0 : (wr.alloc (.cells #[.int .i64 ok, .int .i64 oa, .int .i64 vk, .int .i64 vn, .string vs] 32)).heap.size = wr.heap.size + 1 := by simp
  have HT0 := Lib.hid (two_below HT.out hE0)
  have HE0 := Lib.hid hE0
  have HW0 := Lib.hid hW0
  have hbw := lt_of_block HT.out.l.blk
  have hrow := list_row HT.out.l
  have HROW := Lib.hid hrow
  clear hE0 hW0 hrow
  subst hok
  have HP := Lib.hid (set_no B b adl capl M vk vn vs oa (by right; have := hlen.out; omega) _ HT0.out.l)
  conv => arg 2; whnf
  go_wp2_with fail
  all_goals refine HP.out.mono ?_
  all_goals
    rintro e w1 ⟨rfl, hb1⟩
    have HT1 := Lib.hid (two_below HT0.out hb1)
    have HZ1 := Lib.hid ((HZ.out.trans (HE0.out.mono HZ.out.size)).trans (hb1.mono (HZ.out.trans (HE0.out.mono HZ.out.size)).size))
    have hW1 := keep HW0.out hb1
    obtain ⟨x0, x1, x2, x3, x4⟩ := five_facts hW1
    clear hb1 hW1
    go_wp2_with fail
    have hS := same_in B b adl adw capl capw M (by have := hlen.out; omega) _ HT1.out.l (own_in HT1.out.s)
    rw [hlen.out] at hS
    have HS := Lib.hid hS
    clear hS
    go_wp2_with fail
    refine HS.out.mono ?_
    rintro e w9 ⟨rfl, hb9⟩
    have HT9 := Lib.hid (two_below HT1.out hb9)
    have HZ9 := Lib.hid (HZ1.out.trans (hb9.mono HZ1.out.size))
    clear hb9 HS
    go_wp2_with fail
    refine ⟨?_, by simp [Wmu, slotAt, intOf]; omega⟩
    unfold WI
    refine ⟨_, _, _, _, _, _, _, _, _, _, _, _, _, _, _, _, _, _, _, _, _, _, _, _, _, _, _, _, _, _, _, _, _, _, _, _, _, _, _, _, _, _, _, _, _, _, _, _, _, _, _, _, _, _, _, _, _, _, _, _, _, _, _, _, _, _, _, _, _, _, _, _, _, _, _, _, _, _, _, _, _, _, _, _, _, _, _, _, _, _, _, _, _, _, _, _, _, _, _, _, _, _, _, _, _, _, _, _, _, _, _, _, _, _, _, _, _, _, _, _, _, _, _, _, _, _, _, _, _, _, _, _, _, _, _, _, _, _, _, _, _, _, _, _, _, _, _, _, _, _, _, _, _, _, _, _, _, _, _, _, _, _, _, _, _, _, _, _, _, _, _, _, _, _, _, _, _, _, _, _, _, _, _, _, _, _, _, _, _, _, _, _, _, _, _, _, _, _, _, _, _, _, _, _, _, ?_, rfl⟩
    exact ⟨k + 1, M, adl, adw, capl, capw, by omega, by rw [hlen.out], by go_num, HT9, by show _ ≤ _; rw [hlen.out]; omega, HZ9⟩


set_option maxRecDepth 1000000 in
set_option maxHeartbeats 8000000 in
theorem case_ins_no1 (B b g off n cap : Nat) (w0 : World) (c0 c1 c5 c15 c16 c17 c18 c19 c20 c21 c22 c23 c24 c25 c26 : Value) (u2 u6 u7 u8 u9 u10 u11 u12 u13 u14 u30 u31 u32 u33 u34 u35 u36 u37 u38 u39 u40 u41 u42 u43 u44 u45 u46 u47 u48 u49 u50 u51 u52 u53 u54 u55 u56 u57 u58 u59 u60 u61 u62 u63 u64 u65 u66 u67 u68 u69 u70 u71 u72 u73 u74 u75 u76 u77 u78 u79 u80 u81 u82 u83 u84 u85 u86 u87 u88 u89 u90 u91 u92 u93 u94 u95 u96 u97 u98 u99 u100 u101 u102 u103 u104 u105 u106 u107 u108 u109 u110 u111 u112 u113 u114 u115 u116 u117 u118 u119 u120 u121 u122 u123 u124 u125 u126 u127 u128 u129 u130 u131 u132 u133 u134 u135 u136 u137 u138 u139 u140 u141 u142 u143 u144 u145 u146 u147 u148 u149 u150 u151 u152 u153 u154 u155 u156 u157 u158 u159 u160 u161 u162 u163 u164 u165 u166 u167 u168 u169 u170 u171 u172 u173 u174 u175 u176 u177 u178 u179 u180 u181 u182 u183 u184 u185 u186 u187 u188 u189 u190 u191 u192 u193 u194 u195 u196 u197 u198 u199 u200 u201 u202 u203 u204 u205 u206 u207 u208 u209 u210 u211 u212 u213 u214 u215 u216 u217 u218 u219 u220 u221 u222 : Value) (Q0 : Exit → Act → World → Prop) (a0 : Act) (wr : World) (k m : Nat) (M : List (Int × Int × ByteArray)) (adl adw : Option Addr) (capl capw : Nat) (ok oa vk vn : Int) (vs : ByteArray)
    (HT : Hid (Two B b adl capl adw capw wr M M)) (hm : m ≤ 300 + 2 * k) (hlen : Hid (M.length = m)) (HZ : Hid (Below w0.heap.size w0 wr)) (hB : Hid (B = w0.heap.size)) (hk : k < n) (hn : n ≤ 80)
    (hop : wr.cell? ⟨g, off + k * 5, none⟩ = some (.int .i64 ok) ∧ wr.cell? ⟨g, off + k * 5 + 1, none⟩ = some (.int .i64 oa) ∧ wr.cell? ⟨g, off + k * 5 + 2, none⟩ = some (.int .i64 vk) ∧ wr.cell? ⟨g, off + k * 5 + 3, none⟩ = some (.int .i64 vn) ∧ wr.cell? ⟨g, off + k * 5 + 4, none⟩ = some (.string vs)) (hok : ok = 3) (h1 : oa < 0) :
    Code.wp Try.prog body (Exit.then (fun a' w'' => WI B b g off n cap w0 c0 c1 c5 c15 c16 c17 c18 c19 c20 c21 c22 c23 c24 c25 c26 a' w'' ∧ Wmu n a' w'' < Wmu n ⟨#[c0, c1, u2, .pointer (some ⟨b, 0, none⟩), .slice adw m capw, c5, u6, u7, u8, u9, u10, u11, u12, u13, u14, c15, c16, c17, c18, c19, c20, c21, c22, c23, c24, c25, c26, .slice (some ⟨g, off, none⟩) n cap, .int .i64 (n : Int), .int .i64 (k : Int), u30, u31, u32, u33, u34, u35, u36, u37, u38, u39, u40, u41, u42, u43, u44, u45, u46, u47, u48, u49, u50, u51, u52, u53, u54, u55, u56, u57, u58, u59, u60, u61, u62, u63, u64, u65, u66, u67, u68, u69, u70, u71, u72, u73, u74, u75, u76, u77, u78, u79, u80, u81, u82, u83, u84, u85, u86, u87, u88, u89, u90, u91, u92, u93, u94, u95, u96, u97, u98, u99, u100, u101, u102, u103, u104, u105, u106, u107, u108, u109, u110, u111, u112, u113, u114, u115, u116, u117, u118, u119, u120, u121, u122, u123, u124, u125, u126, u127, u128, u129, u130, u131, u132, u133, u134, u135, u136, u137, u138, u139, u140, u141, u142, u143, u144, u145, u146, u147, u148, u149, u150, u151, u152, u153, u154, u155, u156, u157, u158, u159, u160, u161, u162, u163, u164, u165, u166, u167, u168, u169, u170, u171, u172, u173, u174, u175, u176, u177, u178, u179, u180, u181, u182, u183, u184, u185, u186, u187, u188, u189, u190, u191, u192, u193, u194, u195, u196, u197, u198, u199, u200, u201, u202, u203, u204, u205, u206, u207, u208, u209, u210, u211, u212, u213, u214, u215, u216, u217, u218, u219, u220, u221, u222], []⟩ wr) (QQ Q0 a0)) ⟨#[c0, c1, u2, .pointer (some ⟨b, 0, none⟩), .slice adw m capw, c5, u6, u7, u8, u9, u10, u11, u12, u13, u14, c15, c16, c17, c18, c19, c20, c21, c22, c23, c24, c25, c26, .slice (some ⟨g, off, none⟩) n cap, .int .i64 (n : Int), .int .i64 (k : Int), u30, u31, u32, u33, u34, u35, u36, u37, u38, u39, u40, u41, u42, u43, u44, u45, u46, u47, u48, u49, u50, u51, u52, u53, u54, u55, u56, u57, u58, u59, u60, u61, u62, u63, u64, u65, u66, u67, u68, u69, u70, u71, u72, u73, u74, u75, u76, u77, u78, u79, u80, u81, u82, u83, u84, u85, u86, u87, u88, u89, u90, u91, u92, u93, u94, u95, u96, u97, u98, u99, u100, u101, u102, u103, u104, u105, u106, u107, u108, u109, u110, u111, u112, u113, u114, u115, u116, u117, u118, u119, u120, u121, u122, u123, u124, u125, u126, u127, u128, u129, u130, u131, u132, u133, u134, u135, u136, u137, u138, u139, u140, u141, u142, u143, u144, u145, u146, u147, u148, u149, u150, u151, u152, u153, u154, u155, u156, u157, u158, u159, u160, u161, u162, u163, u164, u165, u166, u167, u168, u169, u170, u171, u172, u173, u174, u175, u176, u177, u178, u179, u180, u181, u182, u183, u184, u185, u186, u187, u188, u189, u190, u191, u192, u193, u194, u195, u196, u197, u198, u199, u200, u201, u202, u203, u204, u205, u206, u207, u208, u209, u210, u211, u212, u213, u214, u215, u216, u217, u218, u219, u220, u221, u222], []⟩ wr := by
  obtain ⟨c0, c1, c2, c3, c4⟩ := hop
  have hk1 : (k : Int) < (n : Int) := by omega
  have hW0 := heap_alloc_new wr (.cells #[.int .i64 ok, .int .i64 oa, .int .i64 vk, .int .i64 vn, .string vs] 32)
  have hE0 : Below wr.heap.size wr (wr.alloc (.cells #[.int .i64 ok, .int .i64 oa, .int .i64 vk, .int .i64 vn, .string vs] 32)) := (Below.refl _ _).alloc (Nat.le_refl _) _
  have hs0 : (wr.alloc (.cells #[.int .i64 ok, .int .i64 oa, .int .i64 vk, .int .i64 vn, .string vs] 32)).heap.size = wr.heap.size + 1 := by simp
  have HT0 := Lib.hid (two_below HT.out hE0)
  have HE0 := Lib.hid hE0
  have HW0 := Lib.hid hW0
  have hbw := lt_of_block HT.out.l.blk
  have hrow := list_row HT.out.l
  have HROW := Lib.hid hrow
  clear hE0 hW0 hrow
  subst hok
  have HP := Lib.hid (insert_out B b adl capl M vk vn vs oa (by left; exact h1) _ HT0.out.l)
  conv => arg 2; whnf
  go_wp2_with fail
  all_goals refine HP.out.mono ?_
  all_goals
    rintro e w1 ⟨rfl, hb1⟩
    have HT1 := Lib.hid (two_below HT0.out hb1)
    have HZ1 := Lib.hid ((HZ.out.trans (HE0.out.mono HZ.out.size)).trans (hb1.mono (HZ.out.trans (HE0.out.mono HZ.out.size)).size))
    have hW1 := keep HW0.out hb1
    obtain ⟨x0, x1, x2, x3, x4⟩ := five_facts hW1
    clear hb1 hW1
    go_wp2_with fail
    have hS := same_in B b adl adw capl capw M (by have := hlen.out; omega) _ HT1.out.l (own_in HT1.out.s)
    rw [hlen.out] at hS
    have HS := Lib.hid hS
    clear hS
    go_wp2_with fail
    refine HS.out.mono ?_
    rintro e w9 ⟨rfl, hb9⟩
    have HT9 := Lib.hid (two_below HT1.out hb9)
    have HZ9 := Lib.hid (HZ1.out.trans (hb9.mono HZ1.out.size))
    clear hb9 HS
    go_wp2_with fail
    refine ⟨?_, by simp [Wmu, slotAt, intOf]; omega⟩
    unfold WI
    refine ⟨_, _, _, _, _, _, _, _, _, _, _, _, _, _, _, _, _, _, _, _, _, _, _, _, _, _, _, _, _, _, _, _, _, _, _, _, _, _, _, _, _, _, _, _, _, _, _, _, _, _, _, _, _, _, _, _, _, _, _, _, _, _, _, _, _, _, _, _, _, _, _, _, _, _, _, _, _, _, _, _, _, _, _, _, _, _, _, _, _, _, _, _, _, _, _, _, _, _, _, _, _, _, _, _, _, _, _, _, _, _, _, _, _, _, _, _, _, _, _, _, _, _, _, _, _, _, _, _, _, _, _, _, _, _, _, _, _, _, _, _, _, _, _, _, _, _, _, _, _, _, _, _, _, _, _, _, _, _, _, _, _, _, _, _, _, _, _, _, _, _, _, _, _, _, _, _, _, _, _, _, _, _, _, _, _, _, _, _, _, _, _, _, _, _, _, _, _, _, _, _, _, _, _, _, _, ?_, rfl⟩
    exact ⟨k + 1, M, adl, adw, capl, capw, by omega, by rw [hlen.out], by go_num, HT9, by show _ ≤ _; rw [hlen.out]; omega, HZ9⟩


set_option maxRecDepth 1000000 in
set_option maxHeartbeats 8000000 in
theorem case_ins_no2 (B b g off n cap : Nat) (w0 : World) (c0 c1 c5 c15 c16 c17 c18 c19 c20 c21 c22 c23 c24 c25 c26 : Value) (u2 u6 u7 u8 u9 u10 u11 u12 u13 u14 u30 u31 u32 u33 u34 u35 u36 u37 u38 u39 u40 u41 u42 u43 u44 u45 u46 u47 u48 u49 u50 u51 u52 u53 u54 u55 u56 u57 u58 u59 u60 u61 u62 u63 u64 u65 u66 u67 u68 u69 u70 u71 u72 u73 u74 u75 u76 u77 u78 u79 u80 u81 u82 u83 u84 u85 u86 u87 u88 u89 u90 u91 u92 u93 u94 u95 u96 u97 u98 u99 u100 u101 u102 u103 u104 u105 u106 u107 u108 u109 u110 u111 u112 u113 u114 u115 u116 u117 u118 u119 u120 u121 u122 u123 u124 u125 u126 u127 u128 u129 u130 u131 u132 u133 u134 u135 u136 u137 u138 u139 u140 u141 u142 u143 u144 u145 u146 u147 u148 u149 u150 u151 u152 u153 u154 u155 u156 u157 u158 u159 u160 u161 u162 u163 u164 u165 u166 u167 u168 u169 u170 u171 u172 u173 u174 u175 u176 u177 u178 u179 u180 u181 u182 u183 u184 u185 u186 u187 u188 u189 u190 u191 u192 u193 u194 u195 u196 u197 u198 u199 u200 u201 u202 u203 u204 u205 u206 u207 u208 u209 u210 u211 u212 u213 u214 u215 u216 u217 u218 u219 u220 u221 u222 : Value) (Q0 : Exit → Act → World → Prop) (a0 : Act) (wr : World) (k m : Nat) (M : List (Int × Int × ByteArray)) (adl adw : Option Addr) (capl capw : Nat) (ok oa vk vn : Int) (vs : ByteArray)
    (HT : Hid (Two B b adl capl adw capw wr M M)) (hm : m ≤ 300 + 2 * k) (hlen : Hid (M.length = m)) (HZ : Hid (Below w0.heap.size w0 wr)) (hB : Hid (B = w0.heap.size)) (hk : k < n) (hn : n ≤ 80)
    (hop : wr.cell? ⟨g, off + k * 5, none⟩ = some (.int .i64 ok) ∧ wr.cell? ⟨g, off + k * 5 + 1, none⟩ = some (.int .i64 oa) ∧ wr.cell? ⟨g, off + k * 5 + 2, none⟩ = some (.int .i64 vk) ∧ wr.cell? ⟨g, off + k * 5 + 3, none⟩ = some (.int .i64 vn) ∧ wr.cell? ⟨g, off + k * 5 + 4, none⟩ = some (.string vs)) (hok : ok = 3) (h1 : 0 ≤ oa) (h2 : ¬ oa ≤ (m : Int)) :
    Code.wp Try.prog body (Exit.then (fun a' w'' => WI B b g off n cap w0 c0 c1 c5 c15 c16 c17 c18 c19 c20 c21 c22 c23 c24 c25 c26 a' w'' ∧ Wmu n a' w'' < Wmu n ⟨#[c0, c1, u2, .pointer (some ⟨b, 0, none⟩), .slice adw m capw, c5, u6, u7, u8, u9, u10, u11, u12, u13, u14, c15, c16, c17, c18, c19, c20, c21, c22, c23, c24, c25, c26, .slice (some ⟨g, off, none⟩) n cap, .int .i64 (n : Int), .int .i64 (k : Int), u30, u31, u32, u33, u34, u35, u36, u37, u38, u39, u40, u41, u42, u43, u44, u45, u46, u47, u48, u49, u50, u51, u52, u53, u54, u55, u56, u57, u58, u59, u60, u61, u62, u63, u64, u65, u66, u67, u68, u69, u70, u71, u72, u73, u74, u75, u76, u77, u78, u79, u80, u81, u82, u83, u84, u85, u86, u87, u88, u89, u90, u91, u92, u93, u94, u95, u96, u97, u98, u99, u100, u101, u102, u103, u104, u105, u106, u107, u108, u109, u110, u111, u112, u113, u114, u115, u116, u117, u118, u119, u120, u121, u122, u123, u124, u125, u126, u127, u128, u129, u130, u131, u132, u133, u134, u135, u136, u137, u138, u139, u140, u141, u142, u143, u144, u145, u146, u147, u148, u149, u150, u151, u152, u153, u154, u155, u156, u157, u158, u159, u160, u161, u162, u163, u164, u165, u166, u167, u168, u169, u170, u171, u172, u173, u174, u175, u176, u177, u178, u179, u180, u181, u182, u183, u184, u185, u186, u187, u188, u189, u190, u191, u192, u193, u194, u195, u196, u197, u198, u199, u200, u201, u202, u203, u204, u205, u206, u207, u208, u209, u210, u211, u212, u213, u214, u215, u216, u217, u218, u219, u220, u221, u222], []⟩ wr) (QQ Q0 a0)) ⟨#[c0, c1, u2, .pointer (some ⟨b, 0, none⟩), .slice adw m capw, c5, u6, u7, u8, u9, u10, u11, u12, u13, u14, c15, c16, c17, c18, c19, c20, c21, c22, c23, c24, c25, c26, .slice (some ⟨g, off, none⟩) n cap, .int .i64 (n : Int), .int .i64 (k : Int), u30, u31, u32, u33, u34, u35, u36, u37, u38, u39, u40, u41, u42, u43, u44, u45, u46, u47, u48, u49, u50, u51, u52, u53, u54, u55, u56, u57, u58, u59, u60, u61, u62, u63, u64, u65, u66, u67, u68, u69, u70, u71, u72, u73, u74, u75, u76, u77, u78, u79, u80, u81, u82, u83, u84, u85, u86, u87, u88, u89, u90, u91, u92, u93, u94, u95, u96, u97, u98, u99, u100, u101, u102, u103, u104, u105, u106, u107, u108, u109, u110, u111, u112, u113, u114, u115, u116, u117, u118, u119, u120, u121, u122, u123, u124, u125, u126, u127, u128, u129, u130, u131, u132, u133, u134, u135, u136, u137, u138, u139, u140, u141, u142, u143, u144, u145, u146, u147, u148, u149, u150, u151, u152, u153, u154, u155, u156, u157, u158, u159, u160, u161, u162, u163, u164, u165, u166, u167, u168, u169, u170, u171, u172, u173, u174, u175, u176, u177, u178, u179, u180, u181, u182, u183, u184, u185, u186, u187, u188, u189, u190, u191, u192, u193, u194, u195, u196, u197, u198, u199, u200, u201, u202, u203, u204, u205, u206, u207, u208, u209, u210, u211, u212, u213, u214, u215, u216, u217, u218, u219, u220, u221, u222], []⟩ wr := by
  obtain ⟨c0, c1, c2, c3, c4⟩ := hop
  have hk1 : (k : Int) < (n : Int) := by omega
  have hW0 := heap_alloc_new wr (.cells #[.int .i64 ok, .int .i64 oa, .int .i64 vk, .int .i64 vn, .string vs] 32)
  have hE0 : Below wr.heap.size wr (wr.alloc (.cells #[.int .i64 ok, .int .i64 oa, .int .i64 vk, .int .i64 vn, .string vs] 32)) := (Below.refl _ _).alloc (Nat.le_refl _) _
  have hs0 : (wr.alloc (.cells #[.int .i64 ok, .int .i64 oa, .int .i64 vk, .int .i64 vn, .string vs] 32)).heap.size = wr.heap.size + 1 := by simp
  have HT0 := Lib.hid (two_below HT.out hE0)
  have HE0 := Lib.hid hE0
  have HW0 := Lib.hid hW0
  have hbw := lt_of_block HT.out.l.blk
  have hrow := list_row HT.out.l
  have HROW := Lib.hid hrow
  clear hE0 hW0 hrow
  subst hok
  have HP := Lib.hid (insert_out B b adl capl M vk vn vs oa (by right; have := hlen.out; omega) _ HT0.out.l)
  conv => arg 2; whnf
  go_wp2_with fail
  all_goals refine HP.out.mono ?_
  all_goals
    rintro e w1 ⟨rfl, hb1⟩
    have HT1 := Lib.hid (two_below HT0.out hb1)
    have HZ1 := Lib.hid ((HZ.out.trans (HE0.out.mono HZ.out.size)).trans (hb1.mono (HZ.out.trans (HE0.out.mono HZ.out.size)).size))
    have hW1 := keep HW0.out hb1
    obtain ⟨x0, x1, x2, x3, x4⟩ := five_facts hW1
    clear hb1 hW1
    go_wp2_with fail
    have hS := same_in B b adl adw capl capw M (by have := hlen.out; omega) _ HT1.out.l (own_in HT1.out.s)
    rw [hlen.out] at hS
    have HS := Lib.hid hS
    clear hS
    go_wp2_with fail
    refine HS.out.mono ?_
    rintro e w9 ⟨rfl, hb9⟩
    have HT9 := Lib.hid (two_below HT1.out hb9)
    have HZ9 := Lib.hid (HZ1.out.trans (hb9.mono HZ1.out.size))
    clear hb9 HS
    go_wp2_with fail
    refine ⟨?_, by simp [Wmu, slotAt, intOf]; omega⟩
    unfold WI
    refine ⟨_, _, _, _, _, _, _, _, _, _, _, _, _, _, _, _, _, _, _, _, _, _, _, _, _, _, _, _, _, _, _, _, _, _, _, _, _, _, _, _, _, _, _, _, _, _, _, _, _, _, _, _, _, _, _, _, _, _, _, _, _, _, _, _, _, _, _, _, _, _, _, _, _, _, _, _, _, _, _, _, _, _, _, _, _, _, _, _, _, _, _, _, _, _, _, _, _, _, _, _, _, _, _, _, _, _, _, _, _, _, _, _, _, _, _, _, _, _, _, _, _, _, _, _, _, _, _, _, _, _, _, _, _, _, _, _, _, _, _, _, _, _, _, _, _, _, _, _, _, _, _, _, _, _, _, _, _, _, _, _, _, _, _, _, _, _, _, _, _, _, _, _, _, _, _, _, _, _, _, _, _, _, _, _, _, _, _, _, _, _, _, _, _, _, _, _, _, _, _, _, _, _, _, _, _, ?_, rfl⟩
    exact ⟨k + 1, M, adl, adw, capl, capw, by omega, by rw [hlen.out], by go_num, HT9, by show _ ≤ _; rw [hlen.out]; omega, HZ9⟩


set_option maxRecDepth 1000000 in
set_option maxHeartbeats 8000000 in
theorem case_res_neg (B b g off n cap : Nat) (w0 : World) (c0 c1 c5 c15 c16 c17 c18 c19 c20 c21 c22 c23 c24 c25 c26 : Value) (u2 u6 u7 u8 u9 u10 u11 u12 u13 u14 u30 u31 u32 u33 u34 u35 u36 u37 u38 u39 u40 u41 u42 u43 u44 u45 u46 u47 u48 u49 u50 u51 u52 u53 u54 u55 u56 u57 u58 u59 u60 u61 u62 u63 u64 u65 u66 u67 u68 u69 u70 u71 u72 u73 u74 u75 u76 u77 u78 u79 u80 u81 u82 u83 u84 u85 u86 u87 u88 u89 u90 u91 u92 u93 u94 u95 u96 u97 u98 u99 u100 u101 u102 u103 u104 u105 u106 u107 u108 u109 u110 u111 u112 u113 u114 u115 u116 u117 u118 u119 u120 u121 u122 u123 u124 u125 u126 u127 u128 u129 u130 u131 u132 u133 u134 u135 u136 u137 u138 u139 u140 u141 u142 u143 u144 u145 u146 u147 u148 u149 u150 u151 u152 u153 u154 u155 u156 u157 u158 u159 u160 u161 u162 u163 u164 u165 u166 u167 u168 u169 u170 u171 u172 u173 u174 u175 u176 u177 u178 u179 u180 u181 u182 u183 u184 u185 u186 u187 u188 u189 u190 u191 u192 u193 u194 u195 u196 u197 u198 u199 u200 u201 u202 u203 u204 u205 u206 u207 u208 u209 u210 u211 u212 u213 u214 u215 u216 u217 u218 u219 u220 u221 u222 : Value) (Q0 : Exit → Act → World → Prop) (a0 : Act) (wr : World) (k m : Nat) (M : List (Int × Int × ByteArray)) (adl adw : Option Addr) (capl capw : Nat) (ok oa vk vn : Int) (vs : ByteArray)
    (HT : Hid (Two B b adl capl adw capw wr M M)) (hm : m ≤ 300 + 2 * k) (hlen : Hid (M.length = m)) (HZ : Hid (Below w0.heap.size w0 wr)) (hB : Hid (B = w0.heap.size)) (hk : k < n) (hn : n ≤ 80)
    (hop : wr.cell? ⟨g, off + k * 5, none⟩ = some (.int .i64 ok) ∧ wr.cell? ⟨g, off + k * 5 + 1, none⟩ = some (.int .i64 oa) ∧ wr.cell? ⟨g, off + k * 5 + 2, none⟩ = some (.int .i64 vk) ∧ wr.cell? ⟨g, off + k * 5 + 3, none⟩ = some (.int .i64 vn) ∧ wr.cell? ⟨g, off + k * 5 + 4, none⟩ = some (.string vs)) (hok : ok = 5) (h1 : oa < 0) :
    Code.wp Try.prog body (Exit.then (fun a' w'' => WI B b g off n cap w0 c0 c1 c5 c15 c16 c17 c18 c19 c20 c21 c22 c23 c24 c25 c26 a' w'' ∧ Wmu n a' w'' < Wmu n ⟨#[c0, c1, u2, .pointer (some ⟨b, 0, none⟩), .slice adw m capw, c5, u6, u7, u8, u9, u10, u11, u12, u13, u14, c15, c16, c17, c18, c19, c20, c21, c22, c23, c24, c25, c26, .slice (some ⟨g, off, none⟩) n cap, .int .i64 (n : Int), .int .i64 (k : Int), u30, u31, u32, u33, u34, u35, u36, u37, u38, u39, u40, u41, u42, u43, u44, u45, u46, u47, u48, u49, u50, u51, u52, u53, u54, u55, u56, u57, u58, u59, u60, u61, u62, u63, u64, u65, u66, u67, u68, u69, u70, u71, u72, u73, u74, u75, u76, u77, u78, u79, u80, u81, u82, u83, u84, u85, u86, u87, u88, u89, u90, u91, u92, u93, u94, u95, u96, u97, u98, u99, u100, u101, u102, u103, u104, u105, u106, u107, u108, u109, u110, u111, u112, u113, u114, u115, u116, u117, u118, u119, u120, u121, u122, u123, u124, u125, u126, u127, u128, u129, u130, u131, u132, u133, u134, u135, u136, u137, u138, u139, u140, u141, u142, u143, u144, u145, u146, u147, u148, u149, u150, u151, u152, u153, u154, u155, u156, u157, u158, u159, u160, u161, u162, u163, u164, u165, u166, u167, u168, u169, u170, u171, u172, u173, u174, u175, u176, u177, u178, u179, u180, u181, u182, u183, u184, u185, u186, u187, u188, u189, u190, u191, u192, u193, u194, u195, u196, u197, u198, u199, u200, u201, u202, u203, u204, u205, u206, u207, u208, u209, u210, u211, u212, u213, u214, u215, u216, u217, u218, u219, u220, u221, u222], []⟩ wr) (QQ Q0 a0)) ⟨#[c0, c1, u2, .pointer (some ⟨b, 0, none⟩), .slice adw m capw, c5, u6, u7, u8, u9, u10, u11, u12, u13, u14, c15, c16, c17, c18, c19, c20, c21, c22, c23, c24, c25, c26, .slice (some ⟨g, off, none⟩) n cap, .int .i64 (n : Int), .int .i64 (k : Int), u30, u31, u32, u33, u34, u35, u36, u37, u38, u39, u40, u41, u42, u43, u44, u45, u46, u47, u48, u49, u50, u51, u52, u53, u54, u55, u56, u57, u58, u59, u60, u61, u62, u63, u64, u65, u66, u67, u68, u69, u70, u71, u72, u73, u74, u75, u76, u77, u78, u79, u80, u81, u82, u83, u84, u85, u86, u87, u88, u89, u90, u91, u92, u93, u94, u95, u96, u97, u98, u99, u100, u101, u102, u103, u104, u105, u106, u107, u108, u109, u110, u111, u112, u113, u114, u115, u116, u117, u118, u119, u120, u121, u122, u123, u124, u125, u126, u127, u128, u129, u130, u131, u132, u133, u134, u135, u136, u137, u138, u139, u140, u141, u142, u143, u144, u145, u146, u147, u148, u149, u150, u151, u152, u153, u154, u155, u156, u157, u158, u159, u160, u161, u162, u163, u164, u165, u166, u167, u168, u169, u170, u171, u172, u173, u174, u175, u176, u177, u178, u179, u180, u181, u182, u183, u184, u185, u186, u187, u188, u189, u190, u191, u192, u193, u194, u195, u196, u197, u198, u199, u200, u201, u202, u203, u204, u205, u206, u207, u208, u209, u210, u211, u212, u213, u214, u215, u216, u217, u218, u219, u220, u221, u222], []⟩ wr := by
  obtain ⟨c0, c1, c2, c3, c4⟩ := hop
  have hk1 : (k : Int) < (n : Int) := by omega
  have hW0 := heap_alloc_new wr (.cells #[.int .i64 ok, .int .i64 oa, .int .i64 vk, .int .i64 vn, .string vs] 32)
  have hE0 : Below wr.heap.size wr (wr.alloc (.cells #[.int .i64 ok, .int .i64 oa, .int .i64 vk, .int .i64 vn, .string vs] 32)) := (Below.refl _ _).alloc (Nat.le_refl _) _
  have hs0 : (wr.alloc (.cells #[.int .i64 ok, .int .i64 oa, .int .i64 vk, .int .i64 vn, .string vs] 32)).heap.size = wr.heap.size + 1 := by simp
  have HT0 := Lib.hid (two_below HT.out hE0)
  have HE0 := Lib.hid hE0
  have HW0 := Lib.hid hW0
  have hbw := lt_of_block HT.out.l.blk
  have hrow := list_row HT.out.l
  have HROW := Lib.hid hrow
  clear hE0 hW0 hrow
  subst hok
  have HP := Lib.hid (resize_neg (some ⟨b, 0, none⟩) vk vn vs oa h1 (wr.alloc (.cells #[.int .i64 5, .int .i64 oa, .int .i64 vk, .int .i64 vn, .string vs] 32)))
  conv => arg 2; whnf
  go_wp2_with fail
  all_goals refine HP.out.mono ?_
  all_goals
    rintro e w1 ⟨rfl, hb1⟩
    have HT1 := Lib.hid (two_below HT0.out hb1)
    have HZ1 := Lib.hid ((HZ.out.trans (HE0.out.mono HZ.out.size)).trans (hb1.mono (HZ.out.trans (HE0.out.mono HZ.out.size)).size))
    have hW1 := keep HW0.out hb1
    obtain ⟨x0, x1, x2, x3, x4⟩ := five_facts hW1
    clear hb1 hW1
    go_wp2_with fail
    have hS := same_in B b adl adw capl capw M (by have := hlen.out; omega) _ HT1.out.l (own_in HT1.out.s)
    rw [hlen.out] at hS
    have HS := Lib.hid hS
    clear hS
    go_wp2_with fail
    refine HS.out.mono ?_
    rintro e w9 ⟨rfl, hb9⟩
    have HT9 := Lib.hid (two_below HT1.out hb9)
    have HZ9 := Lib.hid (HZ1.out.trans (hb9.mono HZ1.out.size))
    clear hb9 HS
    go_wp2_with fail
    refine ⟨?_, by simp [Wmu, slotAt, intOf]; omega⟩
    unfold WI
    refine ⟨_, _, _, _, _, _, _, _, _, _, _, _, _, _, _, _, _, _, _, _, _, _, _, _, _, _, _, _, _, _, _, _, _, _, _, _, _, _, _, _, _, _, _, _, _, _, _, _, _, _, _, _, _, _, _, _, _, _, _, _, _, _, _, _, _, _, _, _, _, _, _, _, _, _, _, _, _, _, _, _, _, _, _, _, _, _, _, _, _, _, _, _, _, _, _, _, _, _, _, _, _, _, _, _, _, _, _, _, _, _, _, _, _, _, _, _, _, _, _, _, _, _, _, _, _, _, _, _, _, _, _, _, _, _, _, _, _, _, _, _, _, _, _, _, _, _, _, _, _, _, _, _, _, _, _, _, _, _, _, _, _, _, _, _, _, _, _, _, _, _, _, _, _, _, _, _, _, _, _, _, _, _, _, _, _, _, _, _, _, _, _, _, _, _, _, _, _, _, _, _, _, _, _, _, _, ?_, rfl⟩
    exact ⟨k + 1, M, adl, adw, capl, capw, by omega, by rw [hlen.out], by go_num, HT9, by show _ ≤ _; rw [hlen.out]; omega, HZ9⟩


set_option maxRecDepth 1000000 in
set_option maxHeartbeats 8000000 in
theorem case_set_yes (B b g off n cap : Nat) (w0 : World) (c0 c1 c5 c15 c16 c17 c18 c19 c20 c21 c22 c23 c24 c25 c26 : Value) (u2 u6 u7 u8 u9 u10 u11 u12 u13 u14 u30 u31 u32 u33 u34 u35 u36 u37 u38 u39 u40 u41 u42 u43 u44 u45 u46 u47 u48 u49 u50 u51 u52 u53 u54 u55 u56 u57 u58 u59 u60 u61 u62 u63 u64 u65 u66 u67 u68 u69 u70 u71 u72 u73 u74 u75 u76 u77 u78 u79 u80 u81 u82 u83 u84 u85 u86 u87 u88 u89 u90 u91 u92 u93 u94 u95 u96 u97 u98 u99 u100 u101 u102 u103 u104 u105 u106 u107 u108 u109 u110 u111 u112 u113 u114 u115 u116 u117 u118 u119 u120 u121 u122 u123 u124 u125 u126 u127 u128 u129 u130 u131 u132 u133 u134 u135 u136 u137 u138 u139 u140 u141 u142 u143 u144 u145 u146 u147 u148 u149 u150 u151 u152 u153 u154 u155 u156 u157 u158 u159 u160 u161 u162 u163 u164 u165 u166 u167 u168 u169 u170 u171 u172 u173 u174 u175 u176 u177 u178 u179 u180 u181 u182 u183 u184 u185 u186 u187 u188 u189 u190 u191 u192 u193 u194 u195 u196 u197 u198 u199 u200 u201 u202 u203 u204 u205 u206 u207 u208 u209 u210 u211 u212 u213 u214 u215 u216 u217 u218 u219 u220 u221 u222 : Value) (Q0 : Exit → Act → World → Prop) (a0 : Act) (wr : World) (k m : Nat) (M : List (Int × Int × ByteArray)) (adl adw : Option Addr) (capl capw : Nat) (ok oa vk vn : Int) (vs : ByteArray)
    (HT : Hid (Two B b adl capl adw capw wr M M)) (hm : m ≤ 300 + 2 * k) (hlen : Hid (M.length = m)) (HZ : Hid (Below w0.heap.size w0 wr)) (hB : Hid (B = w0.heap.size)) (hk : k < n) (hn : n ≤ 80)
    (hop : wr.cell? ⟨g, off + k * 5, none⟩ = some (.int .i64 ok) ∧ wr.cell? ⟨g, off + k * 5 + 1, none⟩ = some (.int .i64 oa) ∧ wr.cell? ⟨g, off + k * 5 + 2, none⟩ = some (.int .i64 vk) ∧ wr.cell? ⟨g, off + k * 5 + 3, none⟩ = some (.int .i64 vn) ∧ wr.cell? ⟨g, off + k * 5 + 4, none⟩ = some (.string vs)) (i : Nat) (hok : ok = 2) (hi : oa = (i : Int)) (him : i < m) :
    Code.wp Try.prog body (Exit.then (fun a' w'' => WI B b g off n cap w0 c0 c1 c5 c15 c16 c17 c18 c19 c20 c21 c22 c23 c24 c25 c26 a' w'' ∧ Wmu n a' w'' < Wmu n ⟨#[c0, c1, u2, .pointer (some ⟨b, 0, none⟩), .slice adw m capw, c5, u6, u7, u8, u9, u10, u11, u12, u13, u14, c15, c16, c17, c18, c19, c20, c21, c22, c23, c24, c25, c26, .slice (some ⟨g, off, none⟩) n cap, .int .i64 (n : Int), .int .i64 (k : Int), u30, u31, u32, u33, u34, u35, u36, u37, u38, u39, u40, u41, u42, u43, u44, u45, u46, u47, u48, u49, u50, u51, u52, u53, u54, u55, u56, u57, u58, u59, u60, u61, u62, u63, u64, u65, u66, u67, u68, u69, u70, u71, u72, u73, u74, u75, u76, u77, u78, u79, u80, u81, u82, u83, u84, u85, u86, u87, u88, u89, u90, u91, u92, u93, u94, u95, u96, u97, u98, u99, u100, u101, u102, u103, u104, u105, u106, u107, u108, u109, u110, u111, u112, u113, u114, u115, u116, u117, u118, u119, u120, u121, u122, u123, u124, u125, u126, u127, u128, u129, u130, u131, u132, u133, u134, u135, u136, u137, u138, u139, u140, u141, u142, u143, u144, u145, u146, u147, u148, u149, u150, u151, u152, u153, u154, u155, u156, u157, u158, u159, u160, u161, u162, u163, u164, u165, u166, u167, u168, u169, u170, u171, u172, u173, u174, u175, u176, u177, u178, u179, u180, u181, u182, u183, u184, u185, u186, u187, u188, u189, u190, u191, u192, u193, u194, u195, u196, u197, u198, u199, u200, u201, u202, u203, u204, u205, u206, u207, u208, u209, u210, u211, u212, u213, u214, u215, u216, u217, u218, u219, u220, u221, u222], []⟩ wr) (QQ Q0 a0)) ⟨#[c0, c1, u2, .pointer (some ⟨b, 0, none⟩), .slice adw m capw, c5, u6, u7, u8, u9, u10, u11, u12, u13, u14, c15, c16, c17, c18, c19, c20, c21, c22, c23, c24, c25, c26, .slice (some ⟨g, off, none⟩) n cap, .int .i64 (n : Int), .int .i64 (k : Int), u30, u31, u32, u33, u34, u35, u36, u37, u38, u39, u40, u41, u42, u43, u44, u45, u46, u47, u48, u49, u50, u51, u52, u53, u54, u55, u56, u57, u58, u59, u60, u61, u62, u63, u64, u65, u66, u67, u68, u69, u70, u71, u72, u73, u74, u75, u76, u77, u78, u79, u80, u81, u82, u83, u84, u85, u86, u87, u88, u89, u90, u91, u92, u93, u94, u95, u96, u97, u98, u99, u100, u101, u102, u103, u104, u105, u106, u107, u108, u109, u110, u111, u112, u113, u114, u115, u116, u117, u118, u119, u120, u121, u122, u123, u124, u125, u126, u127, u128, u129, u130, u131, u132, u133, u134, u135, u136, u137, u138, u139, u140, u141, u142, u143, u144, u145, u146, u147, u148, u149, u150, u151, u152, u153, u154, u155, u156, u157, u158, u159, u160, u161, u162, u163, u164, u165, u166, u167, u168, u169, u170, u171, u172, u173, u174, u175, u176, u177, u178, u179, u180, u181, u182, u183, u184, u185, u186, u187, u188, u189, u190, u191, u192, u193, u194, u195, u196, u197, u198, u199, u200, u201, u202, u203, u204, u205, u206, u207, u208, u209, u210, u211, u212, u213, u214, u215, u216, u217, u218, u219, u220, u221, u222], []⟩ wr := by
  obtain ⟨c0, c1, c2, c3, c4⟩ := hop
  have hk1 : (k : Int) < (n : Int) := by omega
  have hW0 := heap_alloc_new wr (.cells #[.int .i64 ok, .int .i64 oa, .int .i64 vk, .int .i64 vn, .string vs] 32)
  have hE0 : Below wr.heap.size wr (wr.alloc (.cells #[.int .i64 ok, .int .i64 oa, .int .i64 vk, .int .i64 vn, .string vs] 32)) := (Below.refl _ _).alloc (Nat.le_refl _) _
  have hs0 : (wr.alloc (.cells #[.int .i64 ok, .int .i64 oa, .int .i64 vk, .int .i64 vn, .string vs] 32)).heap.size = wr.heap.size + 1 := by simp
  have HT0 := Lib.hid (two_below HT.out hE0)
  have HE0 := Lib.hid hE0
  have HW0 := Lib.hid hW0
  have hbw := lt_of_block HT.out.l.blk
  have hrow := list_row HT.out.l
  have HROW := Lib.hid hrow
  clear hE0 hW0 hrow
  subst hok
  subst hi
  have hlm := hlen.out
  have hP := set_yes B b adl capl M vk vn vs i (by omega) (by omega) _ HT0.out.l
  obtain ⟨gw, hgw, _, hgw2⟩ := own_some HT.out.s (by omega)
  subst hgw
  have HP := Lib.hid hP
  have hi0 : (0 : Int) ≤ (i : Int) := by omega
  have hi1 : (i : Int) < (m : Int) := by omega
  have hix : i < M.length := by omega
  have HLM := Lib.hid hlm
  clear hP hlm
  conv => arg 2; whnf
  go_wp2_with fail
  all_goals refine HP.out.mono ?_
  all_goals
    intro e w1 hh
    have he := hh.1
    subst he
    have hS := hh.2
    have hW1 := upd_blk HW0.out hS.2 (by omega) (fun e => by have := HROW.out _ e; omega)
    obtain ⟨x0, x1, x2, x3, x4⟩ := five_facts hW1
    have hT1 := two_same HT0.out hS
    have hZ1 := two_low (HZ.out.trans (HE0.out.mono HZ.out.size)) (HZ.out.trans (HE0.out.mono HZ.out.size)).size (Nat.le_of_eq rfl) (by have := HT0.out; rw [hB.out] at this; exact this) hS.2
    have hT2 := two_set hT1 i (vk, vn, vs)
    have fz : ∀ j, w1.frozen? ⟨gw, j, none⟩ = false := World.ownsRow.frozenAt hT1.s
    obtain ⟨y0, y1, y2⟩ := own_at hT1.s i hix
    have hz2 : w0.heap.size ≤ gw := by have := own_low hT1.s gw rfl; rw [hB.out] at this; exact this
    have hZ2 := ((hZ1.setCell (p := ⟨gw, i * 3, none⟩) hz2 (.int .i64 vk)).setCell (p := ⟨gw, i * 3 + 1, none⟩) hz2 (.int .i64 vn)).setCell (p := ⟨gw, i * 3 + 2, none⟩) hz2 (.string vs)
    have HT2 := Lib.hid hT2
    have HZ2 := Lib.hid hZ2
    have HL2 : Hid ((M.set i (vk, vn, vs)).length = m) := by show _ = _; rw [List.length_set]; exact HLM.out
    generalize M[i] = q at *
    clear hh hS hW1 hT1 hZ1 hT2 hZ2 hz2
    go_wp2_with fail
    have hS := same_in B b adl (some ⟨gw, 0, none⟩) capl capw (M.set i (vk, vn, vs)) (by have := HL2.out; omega) _ HT2.out.l (own_in HT2.out.s)
    rw [HL2.out] at hS
    have HS := Lib.hid hS
    clear hS
    go_wp2_with fail
    refine HS.out.mono ?_
    rintro e w9 ⟨rfl, hb9⟩
    have HT9 := Lib.hid (two_below HT2.out hb9)
    have HZ9 := Lib.hid (HZ2.out.trans (hb9.mono HZ2.out.size))
    clear hb9 HS
    go_wp2_with fail
    refine ⟨?_, by simp [Wmu, slotAt, intOf]; omega⟩
    unfold WI
    refine ⟨_, _, _, _, _, _, _, _, _, _, _, _, _, _, _, _, _, _, _, _, _, _, _, _, _, _, _, _, _, _, _, _, _, _, _, _, _, _, _, _, _, _, _, _, _, _, _, _, _, _, _, _, _, _, _, _, _, _, _, _, _, _, _, _, _, _, _, _, _, _, _, _, _, _, _, _, _, _, _, _, _, _, _, _, _, _, _, _, _, _, _, _, _, _, _, _, _, _, _, _, _, _, _, _, _, _, _, _, _, _, _, _, _, _, _, _, _, _, _, _, _, _, _, _, _, _, _, _, _, _, _, _, _, _, _, _, _, _, _, _, _, _, _, _, _, _, _, _, _, _, _, _, _, _, _, _, _, _, _, _, _, _, _, _, _, _, _, _, _, _, _, _, _, _, _, _, _, _, _, _, _, _, _, _, _, _, _, _, _, _, _, _, _, _, _, _, _, _, _, _, _, _, _, _, _, ?_, rfl⟩
    exact ⟨k + 1, (M.set i (vk, vn, vs)), adl, (some ⟨gw, 0, none⟩), capl, capw, by omega, by rw [HL2.out], by go_num, HT9, by show _ ≤ _; rw [HL2.out]; omega, HZ9⟩


set_option maxRecDepth 1000000 in
set_option maxHeartbeats 8000000 in
theorem case_rem_no (B b g off n cap : Nat) (w0 : World) (c0 c1 c5 c15 c16 c17 c18 c19 c20 c21 c22 c23 c24 c25 c26 : Value) (u2 u6 u7 u8 u9 u10 u11 u12 u13 u14 u30 u31 u32 u33 u34 u35 u36 u37 u38 u39 u40 u41 u42 u43 u44 u45 u46 u47 u48 u49 u50 u51 u52 u53 u54 u55 u56 u57 u58 u59 u60 u61 u62 u63 u64 u65 u66 u67 u68 u69 u70 u71 u72 u73 u74 u75 u76 u77 u78 u79 u80 u81 u82 u83 u84 u85 u86 u87 u88 u89 u90 u91 u92 u93 u94 u95 u96 u97 u98 u99 u100 u101 u102 u103 u104 u105 u106 u107 u108 u109 u110 u111 u112 u113 u114 u115 u116 u117 u118 u119 u120 u121 u122 u123 u124 u125 u126 u127 u128 u129 u130 u131 u132 u133 u134 u135 u136 u137 u138 u139 u140 u141 u142 u143 u144 u145 u146 u147 u148 u149 u150 u151 u152 u153 u154 u155 u156 u157 u158 u159 u160 u161 u162 u163 u164 u165 u166 u167 u168 u169 u170 u171 u172 u173 u174 u175 u176 u177 u178 u179 u180 u181 u182 u183 u184 u185 u186 u187 u188 u189 u190 u191 u192 u193 u194 u195 u196 u197 u198 u199 u200 u201 u202 u203 u204 u205 u206 u207 u208 u209 u210 u211 u212 u213 u214 u215 u216 u217 u218 u219 u220 u221 u222 : Value) (Q0 : Exit → Act → World → Prop) (a0 : Act) (wr : World) (k m : Nat) (M : List (Int × Int × ByteArray)) (adl adw : Option Addr) (capl capw : Nat) (ok oa vk vn : Int) (vs : ByteArray)
    (HT : Hid (Two B b adl capl adw capw wr M M)) (hm : m ≤ 300 + 2 * k) (hlen : Hid (M.length = m)) (HZ : Hid (Below w0.heap.size w0 wr)) (hB : Hid (B = w0.heap.size)) (hk : k < n) (hn : n ≤ 80)
    (hop : wr.cell? ⟨g, off + k * 5, none⟩ = some (.int .i64 ok) ∧ wr.cell? ⟨g, off + k * 5 + 1, none⟩ = some (.int .i64 oa) ∧ wr.cell? ⟨g, off + k * 5 + 2, none⟩ = some (.int .i64 vk) ∧ wr.cell? ⟨g, off + k * 5 + 3, none⟩ = some (.int .i64 vn) ∧ wr.cell? ⟨g, off + k * 5 + 4, none⟩ = some (.string vs)) (hok : ok = 4) (h1 : oa < 0 ∨ (m : Int) ≤ oa) :
    Code.wp Try.prog body (Exit.then (fun a' w'' => WI B b g off n cap w0 c0 c1 c5 c15 c16 c17 c18 c19 c20 c21 c22 c23 c24 c25 c26 a' w'' ∧ Wmu n a' w'' < Wmu n ⟨#[c0, c1, u2, .pointer (some ⟨b, 0, none⟩), .slice adw m capw, c5, u6, u7, u8, u9, u10, u11, u12, u13, u14, c15, c16, c17, c18, c19, c20, c21, c22, c23, c24, c25, c26, .slice (some ⟨g, off, none⟩) n cap, .int .i64 (n : Int), .int .i64 (k : Int), u30, u31, u32, u33, u34, u35, u36, u37, u38, u39, u40, u41, u42, u43, u44, u45, u46, u47, u48, u49, u50, u51, u52, u53, u54, u55, u56, u57, u58, u59, u60, u61, u62, u63, u64, u65, u66, u67, u68, u69, u70, u71, u72, u73, u74, u75, u76, u77, u78, u79, u80, u81, u82, u83, u84, u85, u86, u87, u88, u89, u90, u91, u92, u93, u94, u95, u96, u97, u98, u99, u100, u101, u102, u103, u104, u105, u106, u107, u108, u109, u110, u111, u112, u113, u114, u115, u116, u117, u118, u119, u120, u121, u122, u123, u124, u125, u126, u127, u128, u129, u130, u131, u132, u133, u134, u135, u136, u137, u138, u139, u140, u141, u142, u143, u144, u145, u146, u147, u148, u149, u150, u151, u152, u153, u154, u155, u156, u157, u158, u159, u160, u161, u162, u163, u164, u165, u166, u167, u168, u169, u170, u171, u172, u173, u174, u175, u176, u177, u178, u179, u180, u181, u182, u183, u184, u185, u186, u187, u188, u189, u190, u191, u192, u193, u194, u195, u196, u197, u198, u199, u200, u201, u202, u203, u204, u205, u206, u207, u208, u209, u210, u211, u212, u213, u214, u215, u216, u217, u218, u219, u220, u221, u222], []⟩ wr) (QQ Q0 a0)) ⟨#[c0, c1, u2, .pointer (some ⟨b, 0, none⟩), .slice adw m capw, c5, u6, u7, u8, u9, u10, u11, u12, u13, u14, c15, c16, c17, c18, c19, c20, c21, c22, c23, c24, c25, c26, .slice (some ⟨g, off, none⟩) n cap, .int .i64 (n : Int), .int .i64 (k : Int), u30, u31, u32, u33, u34, u35, u36, u37, u38, u39, u40, u41, u42, u43, u44, u45, u46, u47, u48, u49, u50, u51, u52, u53, u54, u55, u56, u57, u58, u59, u60, u61, u62, u63, u64, u65, u66, u67, u68, u69, u70, u71, u72, u73, u74, u75, u76, u77, u78, u79, u80, u81, u82, u83, u84, u85, u86, u87, u88, u89, u90, u91, u92, u93, u94, u95, u96, u97, u98, u99, u100, u101, u102, u103, u104, u105, u106, u107, u108, u109, u110, u111, u112, u113, u114, u115, u116, u117, u118, u119, u120, u121, u122, u123, u124, u125, u126, u127, u128, u129, u130, u131, u132, u133, u134, u135, u136, u137, u138, u139, u140, u141, u142, u143, u144, u145, u146, u147, u148, u149, u150, u151, u152, u153, u154, u155, u156, u157, u158, u159, u160, u161, u162, u163, u164, u165, u166, u167, u168, u169, u170, u171, u172, u173, u174, u175, u176, u177, u178, u179, u180, u181, u182, u183, u184, u185, u186, u187, u188, u189, u190, u191, u192, u193, u194, u195, u196, u197, u198, u199, u200, u201, u202, u203, u204, u205, u206, u207, u208, u209, u210, u211, u212, u213, u214, u215, u216, u217, u218, u219, u220, u221, u222], []⟩ wr := by
  obtain ⟨c0, c1, c2, c3, c4⟩ := hop
  have hk1 : (k : Int) < (n : Int) := by omega
  have hW0 := heap_alloc_new wr (.cells #[.int .i64 ok, .int .i64 oa, .int .i64 vk, .int .i64 vn, .string vs] 32)
  have hE0 : Below wr.heap.size wr (wr.alloc (.cells #[.int .i64 ok, .int .i64 oa, .int .i64 vk, .int .i64 vn, .string vs] 32)) := (Below.refl _ _).alloc (Nat.le_refl _) _
  have hs0 : (wr.alloc (.cells #[.int .i64 ok, .int .i64 oa, .int .i64 vk, .int .i64 vn, .string vs] 32)).heap.size = wr.heap.size + 1 := by simp
  have HT0 := Lib.hid (two_below HT.out hE0)
  have HE0 := Lib.hid hE0
  have HW0 := Lib.hid hW0
  have hbw := lt_of_block HT.out.l.blk
  have hrow := list_row HT.out.l
  have HROW := Lib.hid hrow
  clear hE0 hW0 hrow
  subst hok
  have hP := remove_no B b adl capl M oa (by have := hlen.out; omega) _ (two_below (two_below HT.out HE0.out) ((Below.refl _ _).alloc (Nat.le_refl _) (.cells #[.int .i64 0, .int .i64 0, .string ⟨#[]⟩] 30))).l
  have HP := Lib.hid hP
  have hoa : oa < 0 ∨ (0 ≤ oa ∧ ¬ oa < (m : Int)) := by omega
  clear hP h1
  rcases hoa with h1 | ⟨h1, h2⟩
  all_goals
    conv => arg 2; whnf
    go_wp2_with fail
    refine HP.out.mono ?_
    rintro e w1 ⟨rfl, hb1⟩
    have hq := box1 (w := wr.alloc (.cells #[.int .i64 4, .int .i64 oa, .int .i64 vk, .int .i64 vn, .string vs] 32)) hb1
    have hq0 := hq.1
    rw [hs0] at hq0
    have hE1 := ((HE0.out.trans (hq.2.mono HE0.out.size)).setCell (p := ⟨wr.heap.size + 1, 0, none⟩) (by simp) (.int .i64 0)).setCell (p := ⟨wr.heap.size + 1, 1, none⟩) (by simp) (.int .i64 0) |>.setCell (p := ⟨wr.heap.size + 1, 2, none⟩) (by simp) (.string ⟨#[]⟩)
    obtain ⟨x0, x1, x2, y0, y1, y2⟩ := three_facts hq0
    have hq3 := heap_three hq0 (.int .i64 0) (.int .i64 0) (.string ⟨#[]⟩)
    have HT1 := Lib.hid (two_below HT.out hE1)
    have HZ1 := Lib.hid (HZ.out.trans (hE1.mono HZ.out.size))
    obtain ⟨q0, q1, q2, _, _, _⟩ := three_facts hq3
    clear hq hq0 hb1 hE1 hq3
    go_wp2_with fail
    have hS := same_in B b adl adw capl capw M (by have := hlen.out; omega) _ HT1.out.l (own_in HT1.out.s)
    rw [hlen.out] at hS
    have HS := Lib.hid hS
    clear hS
    go_wp2_with fail
    refine HS.out.mono ?_
    rintro e w9 ⟨rfl, hb9⟩
    have HT9 := Lib.hid (two_below HT1.out hb9)
    have HZ9 := Lib.hid (HZ1.out.trans (hb9.mono HZ1.out.size))
    clear hb9 HS
    go_wp2_with fail
    refine ⟨?_, by simp [Wmu, slotAt, intOf]; omega⟩
    unfold WI
    refine ⟨_, _, _, _, _, _, _, _, _, _, _, _, _, _, _, _, _, _, _, _, _, _, _, _, _, _, _, _, _, _, _, _, _, _, _, _, _, _, _, _, _, _, _, _, _, _, _, _, _, _, _, _, _, _, _, _, _, _, _, _, _, _, _, _, _, _, _, _, _, _, _, _, _, _, _, _, _, _, _, _, _, _, _, _, _, _, _, _, _, _, _, _, _, _, _, _, _, _, _, _, _, _, _, _, _, _, _, _, _, _, _, _, _, _, _, _, _, _, _, _, _, _, _, _, _, _, _, _, _, _, _, _, _, _, _, _, _, _, _, _, _, _, _, _, _, _, _, _, _, _, _, _, _, _, _, _, _, _, _, _, _, _, _, _, _, _, _, _, _, _, _, _, _, _, _, _, _, _, _, _, _, _, _, _, _, _, _, _, _, _, _, _, _, _, _, _, _, _, _, _, _, _, _, _, _, ?_, rfl⟩
    exact ⟨k + 1, M, adl, adw, capl, capw, by omega, by rw [hlen.out], by go_num, HT9, by show _ ≤ _; rw [hlen.out]; omega, HZ9⟩

end Go.Proofs.Ytfngndbpgegnaaa.Li
