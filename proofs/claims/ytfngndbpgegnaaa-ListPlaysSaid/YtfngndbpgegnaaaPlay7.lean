/- 'ListPlays': cases of a round. -/
import Derived.Test.YtfngndbpgegnaaaPlay2
set_option linter.unusedVariables false
namespace Go.Proofs.Ytfngndbpgegnaaa.Li
open Go.RowKit Go.ChangeShapes Go.WideShapes Go.ChangeAt Go.Proofs.Ytfngndbpgegnaaa.Va
set_option maxRecDepth 1000000 in
set_option maxHeartbeats 8000000 in
theorem case_ins_mid (B b g off n cap : Nat) (w0 : World) (c0 c1 c5 c15 c16 c17 c18 c19 c20 c21 c22 c23 c24 c25 c26 : Value) (u2 u6 u7 u8 u9 u10 u11 u12 u13 u14 u30 u31 u32 u33 u34 u35 u36 u37 u38 u39 u40 u41 u42 u43 u44 u45 u46 u47 u48 u49 u50 u51 u52 u53 u54 u55 u56 u57 u58 u59 u60 u61 u62 u63 u64 u65 u66 u67 u68 u69 u70 u71 u72 u73 u74 u75 u76 u77 u78 u79 u80 u81 u82 u83 u84 u85 u86 u87 u88 u89 u90 u91 u92 u93 u94 u95 u96 u97 u98 u99 u100 u101 u102 u103 u104 u105 u106 u107 u108 u109 u110 u111 u112 u113 u114 u115 u116 u117 u118 u119 u120 u121 u122 u123 u124 u125 u126 u127 u128 u129 u130 u131 u132 u133 u134 u135 u136 u137 u138 u139 u140 u141 u142 u143 u144 u145 u146 u147 u148 u149 u150 u151 u152 u153 u154 u155 u156 u157 u158 u159 u160 u161 u162 u163 u164 u165 u166 u167 u168 u169 u170 u171 u172 u173 u174 u175 u176 u177 u178 u179 u180 u181 u182 u183 u184 u185 u186 u187 u188 u189 u190 u191 u192 u193 u194 u195 u196 u197 u198 u199 u200 u201 u202 u203 u204 u205 u206 u207 u208 u209 u210 u211 u212 u213 u214 u215 u216 u217 u218 u219 u220 u221 u222 : Value) (Q0 : Exit → Act → World → Prop) (a0 : Act) (wr : World) (k m : Nat) (M : List (Int × Int × ByteArray)) (adl adw : Option Addr) (capl capw : Nat) (ok oa vk vn : Int) (vs : ByteArray)
    (HT : Hid (Two B b adl capl adw capw wr M M)) (hm : m ≤ 300 + 2 * k) (hlen : Hid (M.length = m)) (HZ : Hid (Below w0.heap.size w0 wr)) (hB : Hid (B = w0.heap.size)) (hk : k < n) (hn : n ≤ 80)
    (hop : wr.cell? ⟨g, off + k * 5, none⟩ = some (.int .i64 ok) ∧ wr.cell? ⟨g, off + k * 5 + 1, none⟩ = some (.int .i64 oa) ∧ wr.cell? ⟨g, off + k * 5 + 2, none⟩ = some (.int .i64 vk) ∧ wr.cell? ⟨g, off + k * 5 + 3, none⟩ = some (.int .i64 vn) ∧ wr.cell? ⟨g, off + k * 5 + 4, none⟩ = some (.string vs)) (i : Nat) (hok : ok = 3) (hi : oa = (i : Int)) (him : i ≤ m) (gw : Nat) (hadw : adw = some ⟨gw, 0, none⟩) (hcw : ¬ capw = i) :
    Code.wp Try.prog body (Exit.then (fun a' w'' => WI B b g off n cap w0 c0 c1 c5 c15 c16 c17 c18 c19 c20 c21 c22 c23 c24 c25 c26 a' w'' ∧ Wmu n a' w'' < Wmu n ⟨#[c0, c1, u2, .pointer (some ⟨b, 0, none⟩), .slice adw m capw, c5, u6, u7, u8, u9, u10, u11, u12, u13, u14, c15, c16, c17, c18, c19, c20, c21, c22, c23, c24, c25, c26, .slice (some ⟨g, off, none⟩) n cap, .int .i64 (n : Int), .int .i64 (k : Int), u30, u31, u32, u33, u34, u35, u36, u37, u38, u39, u40, u41, u42, u43, u44, u45, u46, u47, u48, u49, u50, u51, u52, u53, u54, u55, u56, u57, u58, u59, u60, u61, u62, u63, u64, u65, u66, u67, u68, u69, u70, u71, u72, u73, u74, u75, u76, u77, u78, u79, u80, u81, u82, u83, u84, u85, u86, u87, u88, u89, u90, u91, u92, u93, u94, u95, u96, u97, u98, u99, u100, u101, u102, u103, u104, u105, u106, u107, u108, u109, u110, u111, u112, u113, u114, u115, u116, u117, u118, u119, u120, u121, u122, u123, u124, u125, u126, u127, u128, u129, u130, u131, u132, u133, u134, u135, u136, u137, u138, u139, u140, u141, u142, u143, u144, u145, u146, u147, u148, u149, u150, u151, u152, u153, u154, u155, u156, u157, u158, u159, u160, u161, u162, u163, u164, u165, u166, u167, u168, u169, u170, u171, u172, u173, u174, u175, u176, u177, u178, u179, u180, u181, u182, u183, u184, u185, u186, u187, u188, u189, u190, u191, u192, u193, u194, u195, u196, u197, u198, u199, u200, u201, u202, u203, u204, u205, u206, u207, u208, u209, u210, u211, u212, u213, u214, u215, u216, u217, u218, u219, u220, u221, u222], []⟩ wr) (QQ Q0 a0)) ⟨#[c0, c1, u2, .pointer (some ⟨b, 0, none⟩), .slice adw m capw, c5, u6, u7, u8, u9, u10, u11, u12, u13, u14, c15, c16, c17, c18, c19, c20, c21, c22, c23, c24, c25, c26, .slice (some ⟨g, off, none⟩) n cap, .int .i64 (n : Int), .int .i64 (k : Int), u30, u31, u32, u33, u34, u35, u36, u37, u38, u39, u40, u41, u42, u43, u44, u45, u46, u47, u48, u49, u50, u51, u52, u53, u54, u55, u56, u57, u58, u59, u60, u61, u62, u63, u64, u65, u66, u67, u68, u69, u70, u71, u72, u73, u74, u75, u76, u77, u78, u79, u80, u81, u82, u83, u84, u85, u86, u87, u88, u89, u90, u91, u92, u93, u94, u95, u96, u97, u98, u99, u100, u101, u102, u103, u104, u105, u106, u107, u108, u109, u110, u111, u112, u113, u114, u115, u116, u117, u118, u119, u120, u121, u122, u123, u124, u125, u126, u127, u128, u129, u130, u131, u132, u133, u134, u135, u136, u137, u138, u139, u140, u141, u142, u143, u144, u145, u146, u147, u148, u149, u150, u151, u152, u153, u154, u155, u156, u157, u158, u159, u160, u161, u162, u163, u164, u165, u166, u167, u168, u169, u170, u171, u172, u173, u174, u175, u176, u177, u178, u179, u180, u181, u182, u183, u184, u185, u186, u187, u188, u189, u190, u191, u192, u193, u194, u195, u196, u197, u198, u199, u200, u201, u202, u203, u204, u205, u206, u207, u208, u209, u210, u211, u212, u213, u214, u215, u216, u217, u218, u219, u220, u221, u222], []⟩ wr := by
  obtain ⟨c0, c1, c2, c3, c4⟩ := hop
  have hk1 : (k : Int) < (n : Int) := by omega
  have hW0 := heap_alloc_new wr (.cells #[.int .i64 ok, .int .i64 oa, .int .i64 vk, .int .i64 vn, .string vs] 32)
  have hE0 : Below wr.heap.size wr (wr.alloc (.cells #[.int .i64 ok, .int .i64 oa, .int .i64 vk, .int .i64 vn, .string vs] 32)) := (Below.refl _ _).alloc (Nat.le_refl _) _
  have hs0 : (wr.alloc (.cells #[.int .i64 ok, .int .i64 oa, .int .i64 vk, .int .i64 vn, .string vs] 32)).heap.size = wr.heap.size + 1 := by simp
  have HT0 := Lib.hid (two_below HT.out hE0)
  have HE0 := Lib.hid hE0
  have HW0 := Lib.hid hW0
  have hbw := lt_of_block HT.out.l.blk
  have hrow := list_row HT.out.l
  have HROW := Lib.hid hrow
  clear hE0 hW0 hrow
  subst hok
  subst hi
  subst hadw
  have hcap := own_cap HT.out.s
  rw [hlen.out] at hcap
  have hic : (i : Int) ≤ (capw : Int) := by omega
  have hmc : (m : Int) ≤ (capw : Int) := by omega
  have hic2 : i ≤ capw := by omega
  have hP := linsert_any B b adl capl M vk vn vs i (by have := hlen.out; omega) (by have := hlen.out; omega) _ (by have h1 := HZ.out.size; have h2 := HE0.out.size; have := hB.out; omega) HT0.out.l
  have HP := Lib.hid hP
  have hi0 : (0 : Int) ≤ (i : Int) := by omega
  have him' : (i : Int) ≤ (m : Int) := by omega
  have hib : i ≤ 1000 := by omega
  have hmb : m ≤ 1000 := by omega
  clear hP
  conv => arg 2; whnf
  go_wp2_with fail
  all_goals refine HP.out.mono ?_
  all_goals
    rintro e w1 ⟨rfl, adl', capl', hL, hU, hf⟩
    have hW1 := upd_blk HW0.out hU (by omega) (fun e => by have := HROW.out _ e; omega)
    have hT1 := two_list HT0.out hL hU hf
    have hZ1 := two_low (HZ.out.trans (HE0.out.mono HZ.out.size)) (HZ.out.trans (HE0.out.mono HZ.out.size)).size (Nat.le_of_eq rfl) (by have := HT0.out; rw [hB.out] at this; exact this) hU
    have hBw : B ≤ w1.heap.size := by have := hZ1.size; rw [hB.out]; exact this
    have s1 := (by have h := own_srcB hT1.s (f := 0) (n := i) (by have := hlen.out; omega) 0 (Or.inl (by omega)); rw [List.drop_zero] at h; exact h : SrcB w1.heap.size (some ⟨gw, 0, none⟩) w1 (M.take i))
    have s2 := (by have h := own_srcB hT1.s (f := i) (n := m - i) (by have := hlen.out; omega) (i * 3) (Or.inl rfl); rw [List.take_of_length_le (by rw [List.length_drop]; have := hlen.out; omega)] at h; exact h : SrcB w1.heap.size (some ⟨gw, i * 3, none⟩) w1 (M.drop i))
    have hbx : Below w1.heap.size w1 (w1.drew.alloc (.cells (flat [(vk, vn, vs)]).toArray 30)) := (Below.refl _ _).drew.alloc (Nat.le_refl _) _
    have hbe : Below w1.heap.size w1 (w1.drew.alloc (.cells #[] 30)) := (Below.refl _ _).drew.alloc (Nat.le_refl _) _
    have hbxe : Below w1.heap.size w1 ((w1.drew.alloc (.cells (flat [(vk, vn, vs)]).toArray 30)).alloc (.cells #[] 30)) := hbx.alloc hbx.size _
    have hbex : Below w1.heap.size w1 ((w1.drew.alloc (.cells #[] 30)).alloc (.cells (flat [(vk, vn, vs)]).toArray 30)) := hbe.alloc hbe.size _
    have zx : (w1.drew.alloc (.cells (flat [(vk, vn, vs)]).toArray 30)).heap.size = w1.heap.size + 1 := by show (w1.drew.alloc _).heap.size = w1.drew.heap.size + 1; simp
    have ze : (w1.drew.alloc (.cells #[] 30)).heap.size = w1.heap.size + 1 := by show (w1.drew.alloc _).heap.size = w1.drew.heap.size + 1; simp
    have oA := own_empty (w1.drew.alloc (.cells (flat [(vk, vn, vs)]).toArray 30)) w1.heap.size (by rw [zx]; omega)
    have oB := own_empty w1.drew w1.heap.size (Nat.le_refl _)
    rw [zx] at oA
    have xA : ((w1.drew.alloc (.cells (flat [(vk, vn, vs)]).toArray 30)).alloc (.cells #[] 30)).heap[w1.heap.size]? = some (.cells (flat [(vk, vn, vs)]).toArray 30) := (heap_alloc_old _ _ (by rw [zx]; omega)).trans (heap_alloc_new w1.drew _)
    have xB : ((w1.drew.alloc (.cells #[] 30)).alloc (.cells (flat [(vk, vn, vs)]).toArray 30)).heap[w1.heap.size + 1]? = some (.cells (flat [(vk, vn, vs)]).toArray 30) := by
      have := heap_alloc_new (w1.drew.alloc (.cells #[] 30)) (.cells (flat [(vk, vn, vs)]).toArray 30)
      rw [ze] at this
      exact this
    obtain ⟨da1, ea1, va1, da2, ea2, va2, da3, ea3, va3, ra1, ra2, ra3, ba1, ba2, ba3, oa3⟩ := chain_insA (vk, vn, vs) hlen.out (by omega) hmb hbxe oA xA (by omega) s1 s2 capw (capw - i) (fun e => by cases e) (fun e => by cases e)
    obtain ⟨db1, eb1, vb1, db2, eb2, vb2, db3, eb3, vb3, rb1, rb2, rb3, bb1, bb2, bb3, ob3⟩ := chain_insA (vk, vn, vs) hlen.out (by omega) hmb hbex (own_below oB ((Below.refl _ _).alloc (Nat.le_refl _) _)) xB (by show _ ≠ w1.heap.size; omega) s1 s2 capw (capw - i) (fun e => by cases e) (fun e => by cases e)
    obtain ⟨dc1, ec1, vc1, dc2, ec2, vc2, dc3, ec3, vc3, rc1, rc2, rc3, bc1, bcx, bc2, bc3, oc3⟩ := chain_insB (vk, vn, vs) hlen.out (by omega) hmb hbe oB s1 s2 capw (capw - i) (fun e => by cases e) (fun e => by cases e)
    have ra1' : (Builtin.append_ #[25, 25] 25 #[.slice (some ⟨w1.heap.size + 1, 0, none⟩) 0 0, .slice (some ⟨gw, 0, none⟩) i capw]).run Try.prog ((w1.alloc (.cells #[.int .i64 vk, .int .i64 vn, .string vs] 30)).alloc (.cells #[] 30)).drew = .ok (.slice da1 i ea1) va1 := ra1
    have rb1' : (Builtin.append_ #[25, 25] 25 #[.slice (some ⟨w1.heap.size, 0, none⟩) 0 0, .slice (some ⟨gw, 0, none⟩) i capw]).run Try.prog ((w1.alloc (.cells #[] 30)).alloc (.cells #[.int .i64 vk, .int .i64 vn, .string vs] 30)).drew = .ok (.slice db1 i eb1) vb1 := rb1
    have rc1' : (Builtin.append_ #[25, 25] 25 #[.slice (some ⟨w1.heap.size, 0, none⟩) 0 0, .slice (some ⟨gw, 0, none⟩) i capw]).run Try.prog (w1.alloc (.cells #[] 30)).drew = .ok (.slice dc1 i ec1) vc1 := rc1
    have rc2' : (Builtin.append_ #[25, 25] 25 #[.slice dc1 i ec1, .slice (some ⟨vc1.heap.size, 0, none⟩) 1 1]).run Try.prog (vc1.alloc (.cells #[.int .i64 vk, .int .i64 vn, .string vs] 30)) = .ok (.slice dc2 (i + 1) ec2) vc2 := rc2
    have f0 := four_facts hW1
    have f1 := four_facts (show w1.drew.heap[wr.heap.size]? = _ from hW1)
    have f2 := four_facts (show (w1.alloc (.cells #[.int .i64 vk, .int .i64 vn, .string vs] 30)).drew.heap[wr.heap.size]? = _ from keep hW1 hbx)
    have f3 := four_facts (show (w1.alloc (.cells #[] 30)).drew.heap[wr.heap.size]? = _ from keep hW1 hbe)
    have f4 := four_facts (show ((w1.alloc (.cells #[.int .i64 vk, .int .i64 vn, .string vs] 30)).alloc (.cells #[] 30)).drew.heap[wr.heap.size]? = _ from keep hW1 hbxe)
    have f5 := four_facts (show ((w1.alloc (.cells #[] 30)).alloc (.cells #[.int .i64 vk, .int .i64 vn, .string vs] 30)).drew.heap[wr.heap.size]? = _ from keep hW1 hbex)
    have fa1 := four_facts (keep hW1 ba1)
    have fa2 := four_facts (keep hW1 ba2)
    have fa3 := four_facts (keep hW1 ba3)
    have fb1 := four_facts (keep hW1 bb1)
    have fb2 := four_facts (keep hW1 bb2)
    have fb3 := four_facts (keep hW1 bb3)
    have fc1 := four_facts (keep hW1 bc1)
    have fcx := four_facts (show (vc1.alloc (.cells #[.int .i64 vk, .int .i64 vn, .string vs] 30)).heap[wr.heap.size]? = _ from keep hW1 bcx)
    have fc2 := four_facts (keep hW1 bc2)
    have fc3 := four_facts (keep hW1 bc3)
    have TA := Lib.hid (two_new hT1 ba3 (Nat.le_refl _) hBw oa3)
    have TB := Lib.hid (two_new hT1 bb3 (Nat.le_refl _) hBw ob3)
    have TC := Lib.hid (two_new hT1 bc3 (Nat.le_refl _) hBw oc3)
    have ZA := Lib.hid (hZ1.trans (ba3.mono hZ1.size))
    have ZB := Lib.hid (hZ1.trans (bb3.mono hZ1.size))
    have ZC := Lib.hid (hZ1.trans (bc3.mono hZ1.size))
    have HL2 : Hid ((ins M i (vk, vn, vs)).length = m + 1) := by show _ = _; rw [ins_len M i _ (by have := hlen.out; omega), hlen.out]
    have F0 := Lib.hid f0
    have G1 := Lib.hid f1
    have G2 := Lib.hid f2
    have G3 := Lib.hid f3
    have G4 := Lib.hid f4
    have G5 := Lib.hid f5
    have GA1 := Lib.hid fa1
    have GA2 := Lib.hid fa2
    have GA3 := Lib.hid fa3
    have GB1 := Lib.hid fb1
    have GB2 := Lib.hid fb2
    have GB3 := Lib.hid fb3
    have GC1 := Lib.hid fc1
    have GCX := Lib.hid fcx
    have GC2 := Lib.hid fc2
    have GC3 := Lib.hid fc3
    clear f1 f2 f3 f4 f5 fa1 fa2 fa3 fb1 fb2 fb3 fc1 fcx fc2 fc3 ra1 rb1 rc1 ba1 ba2 ba3 bb1 bb2 bb3 bc1 bcx bc2 bc3 oa3 ob3 oc3 xA xB oA oB zx ze hbx hbe hbxe hbex s1 s2 hL hU hf hW1 hT1 hZ1 hBw
    obtain ⟨x1, x2, x3, x4⟩ := f0
    have RA1 := Lib.hid ra1'
    have RA2 := Lib.hid ra2
    have RA3 := Lib.hid ra3
    have RB1 := Lib.hid rb1'
    have RB2 := Lib.hid rb2
    have RB3 := Lib.hid rb3
    have RC1 := Lib.hid rc1'
    have RC2 := Lib.hid rc2'
    have RC3 := Lib.hid rc3
    clear ra1' ra2 ra3 rb1' rb2 rb3 rc1' rc2 rc2' rc3
    go_wp2_with fail
    go_region_held3 (fun w' => w'.cell? ⟨wr.heap.size, 1, none⟩ = some (.int .i64 (i : Int)) ∧ w'.cell? ⟨wr.heap.size, 2, none⟩ = some (.int .i64 vk) ∧ w'.cell? ⟨wr.heap.size, 3, none⟩ = some (.int .i64 vn) ∧ w'.cell? ⟨wr.heap.size, 4, none⟩ = some (.string vs))
      (with_reducible (first | exact G1.out | exact G2.out | exact G3.out | exact G4.out | exact G5.out | exact GA1.out | exact GA2.out | exact GA3.out | exact GB1.out | exact GB2.out | exact GB3.out | exact GC1.out | exact GCX.out | exact GC2.out | exact GC3.out))
      (first 
        | (refine step_append_run rfl (.tmp 114) (.tmp 118) 25 rfl (.slice (some ⟨w1.heap.size + 1, 0, none⟩) 0 0) (.slice (some ⟨gw, 0, none⟩) i capw) rfl rfl (by with_reducible exact RA1.out) ?_)
        | (refine step_append_run rfl (.tmp 114) (.tmp 118) 25 rfl (.slice (some ⟨w1.heap.size, 0, none⟩) 0 0) (.slice (some ⟨gw, 0, none⟩) i capw) rfl rfl (by with_reducible exact RB1.out) ?_)
        | (refine step_append_run rfl (.tmp 114) (.tmp 118) 25 rfl (.slice (some ⟨w1.heap.size, 0, none⟩) 0 0) (.slice (some ⟨gw, 0, none⟩) i capw) rfl rfl (by with_reducible exact RC1.out) ?_)
        | (refine step_append_run rfl (.tmp 119) (.tmp 122) 25 rfl (.slice da1 i ea1) (.slice (some ⟨w1.heap.size, 0, none⟩) 1 1) rfl rfl (by with_reducible exact RA2.out) ?_)
        | (refine step_append_run rfl (.tmp 119) (.tmp 122) 25 rfl (.slice db1 i eb1) (.slice (some ⟨w1.heap.size + 1, 0, none⟩) 1 1) rfl rfl (by with_reducible exact RB2.out) ?_)
        | (refine step_append_run rfl (.tmp 119) (.tmp 122) 25 rfl (.slice dc1 i ec1) (.slice (some ⟨vc1.heap.size, 0, none⟩) 1 1) rfl rfl (by with_reducible exact RC2.out) ?_)
        | (refine step_append_run rfl (.tmp 123) (.tmp 127) 25 rfl (.slice da2 (i + 1) ea2) (.slice (some ⟨gw, i * 3, none⟩) (m - i) (capw - i)) rfl rfl (by with_reducible exact RA3.out) ?_)
        | (refine step_append_run rfl (.tmp 123) (.tmp 127) 25 rfl (.slice db2 (i + 1) eb2) (.slice (some ⟨gw, i * 3, none⟩) (m - i) (capw - i)) rfl rfl (by with_reducible exact RB3.out) ?_)
        | (refine step_append_run rfl (.tmp 123) (.tmp 127) 25 rfl (.slice dc2 (i + 1) ec2) (.slice (some ⟨gw, i * 3, none⟩) (m - i) (capw - i)) rfl rfl (by with_reducible exact RC3.out) ?_))
    all_goals go_wp2_with fail
    all_goals
      first
      | (have hS := same_in B b adl' da3 capl' ea3 (ins M i (vk, vn, vs)) (by have := HL2.out; omega) _ TA.out.l (own_in TA.out.s)
         rw [HL2.out] at hS
         have HS := Lib.hid hS
         clear hS
         go_wp2_with fail
         with_reducible refine HS.out.mono ?_
         rintro e w9 ⟨rfl, hb9⟩
         have HT9 := Lib.hid (two_below TA.out hb9)
         have HZ9 := Lib.hid (ZA.out.trans (hb9.mono ZA.out.size))
         clear hb9 HS
         go_wp2_with fail
         refine ⟨?_, by simp [Wmu, slotAt, intOf]; omega⟩
         unfold WI
         refine ⟨_, _, _, _, _, _, _, _, _, _, _, _, _, _, _, _, _, _, _, _, _, _, _, _, _, _, _, _, _, _, _, _, _, _, _, _, _, _, _, _, _, _, _, _, _, _, _, _, _, _, _, _, _, _, _, _, _, _, _, _, _, _, _, _, _, _, _, _, _, _, _, _, _, _, _, _, _, _, _, _, _, _, _, _, _, _, _, _, _, _, _, _, _, _, _, _, _, _, _, _, _, _, _, _, _, _, _, _, _, _, _, _, _, _, _, _, _, _, _, _, _, _, _, _, _, _, _, _, _, _, _, _, _, _, _, _, _, _, _, _, _, _, _, _, _, _, _, _, _, _, _, _, _, _, _, _, _, _, _, _, _, _, _, _, _, _, _, _, _, _, _, _, _, _, _, _, _, _, _, _, _, _, _, _, _, _, _, _, _, _, _, _, _, _, _, _, _, _, _, _, _, _, _, _, _, ?_, rfl⟩
         exact ⟨k + 1, (ins M i (vk, vn, vs)), adl', da3, capl', ea3, by omega, by rw [HL2.out], by go_num, HT9, by show _ ≤ _; rw [HL2.out]; omega, HZ9⟩)
      | (have hS := same_in B b adl' db3 capl' eb3 (ins M i (vk, vn, vs)) (by have := HL2.out; omega) _ TB.out.l (own_in TB.out.s)
         rw [HL2.out] at hS
         have HS := Lib.hid hS
         clear hS
         go_wp2_with fail
         with_reducible refine HS.out.mono ?_
         rintro e w9 ⟨rfl, hb9⟩
         have HT9 := Lib.hid (two_below TB.out hb9)
         have HZ9 := Lib.hid (ZB.out.trans (hb9.mono ZB.out.size))
         clear hb9 HS
         go_wp2_with fail
         refine ⟨?_, by simp [Wmu, slotAt, intOf]; omega⟩
         unfold WI
         refine ⟨_, _, _, _, _, _, _, _, _, _, _, _, _, _, _, _, _, _, _, _, _, _, _, _, _, _, _, _, _, _, _, _, _, _, _, _, _, _, _, _, _, _, _, _, _, _, _, _, _, _, _, _, _, _, _, _, _, _, _, _, _, _, _, _, _, _, _, _, _, _, _, _, _, _, _, _, _, _, _, _, _, _, _, _, _, _, _, _, _, _, _, _, _, _, _, _, _, _, _, _, _, _, _, _, _, _, _, _, _, _, _, _, _, _, _, _, _, _, _, _, _, _, _, _, _, _, _, _, _, _, _, _, _, _, _, _, _, _, _, _, _, _, _, _, _, _, _, _, _, _, _, _, _, _, _, _, _, _, _, _, _, _, _, _, _, _, _, _, _, _, _, _, _, _, _, _, _, _, _, _, _, _, _, _, _, _, _, _, _, _, _, _, _, _, _, _, _, _, _, _, _, _, _, _, _, ?_, rfl⟩
         exact ⟨k + 1, (ins M i (vk, vn, vs)), adl', db3, capl', eb3, by omega, by rw [HL2.out], by go_num, HT9, by show _ ≤ _; rw [HL2.out]; omega, HZ9⟩)
      | (have hS := same_in B b adl' dc3 capl' ec3 (ins M i (vk, vn, vs)) (by have := HL2.out; omega) _ TC.out.l (own_in TC.out.s)
         rw [HL2.out] at hS
         have HS := Lib.hid hS
         clear hS
         go_wp2_with fail
         with_reducible refine HS.out.mono ?_
         rintro e w9 ⟨rfl, hb9⟩
         have HT9 := Lib.hid (two_below TC.out hb9)
         have HZ9 := Lib.hid (ZC.out.trans (hb9.mono ZC.out.size))
         clear hb9 HS
         go_wp2_with fail
         refine ⟨?_, by simp [Wmu, slotAt, intOf]; omega⟩
         unfold WI
         refine ⟨_, _, _, _, _, _, _, _, _, _, _, _, _, _, _, _, _, _, _, _, _, _, _, _, _, _, _, _, _, _, _, _, _, _, _, _, _, _, _, _, _, _, _, _, _, _, _, _, _, _, _, _, _, _, _, _, _, _, _, _, _, _, _, _, _, _, _, _, _, _, _, _, _, _, _, _, _, _, _, _, _, _, _, _, _, _, _, _, _, _, _, _, _, _, _, _, _, _, _, _, _, _, _, _, _, _, _, _, _, _, _, _, _, _, _, _, _, _, _, _, _, _, _, _, _, _, _, _, _, _, _, _, _, _, _, _, _, _, _, _, _, _, _, _, _, _, _, _, _, _, _, _, _, _, _, _, _, _, _, _, _, _, _, _, _, _, _, _, _, _, _, _, _, _, _, _, _, _, _, _, _, _, _, _, _, _, _, _, _, _, _, _, _, _, _, _, _, _, _, _, _, _, _, _, _, ?_, rfl⟩
         exact ⟨k + 1, (ins M i (vk, vn, vs)), adl', dc3, capl', ec3, by omega, by rw [HL2.out], by go_num, HT9, by show _ ≤ _; rw [HL2.out]; omega, HZ9⟩)


set_option maxRecDepth 1000000 in
set_option maxHeartbeats 8000000 in
theorem case_ins_cap (B b g off n cap : Nat) (w0 : World) (c0 c1 c5 c15 c16 c17 c18 c19 c20 c21 c22 c23 c24 c25 c26 : Value) (u2 u6 u7 u8 u9 u10 u11 u12 u13 u14 u30 u31 u32 u33 u34 u35 u36 u37 u38 u39 u40 u41 u42 u43 u44 u45 u46 u47 u48 u49 u50 u51 u52 u53 u54 u55 u56 u57 u58 u59 u60 u61 u62 u63 u64 u65 u66 u67 u68 u69 u70 u71 u72 u73 u74 u75 u76 u77 u78 u79 u80 u81 u82 u83 u84 u85 u86 u87 u88 u89 u90 u91 u92 u93 u94 u95 u96 u97 u98 u99 u100 u101 u102 u103 u104 u105 u106 u107 u108 u109 u110 u111 u112 u113 u114 u115 u116 u117 u118 u119 u120 u121 u122 u123 u124 u125 u126 u127 u128 u129 u130 u131 u132 u133 u134 u135 u136 u137 u138 u139 u140 u141 u142 u143 u144 u145 u146 u147 u148 u149 u150 u151 u152 u153 u154 u155 u156 u157 u158 u159 u160 u161 u162 u163 u164 u165 u166 u167 u168 u169 u170 u171 u172 u173 u174 u175 u176 u177 u178 u179 u180 u181 u182 u183 u184 u185 u186 u187 u188 u189 u190 u191 u192 u193 u194 u195 u196 u197 u198 u199 u200 u201 u202 u203 u204 u205 u206 u207 u208 u209 u210 u211 u212 u213 u214 u215 u216 u217 u218 u219 u220 u221 u222 : Value) (Q0 : Exit → Act → World → Prop) (a0 : Act) (wr : World) (k m : Nat) (M : List (Int × Int × ByteArray)) (adl adw : Option Addr) (capl capw : Nat) (ok oa vk vn : Int) (vs : ByteArray)
    (HT : Hid (Two B b adl capl adw capw wr M M)) (hm : m ≤ 300 + 2 * k) (hlen : Hid (M.length = m)) (HZ : Hid (Below w0.heap.size w0 wr)) (hB : Hid (B = w0.heap.size)) (hk : k < n) (hn : n ≤ 80)
    (hop : wr.cell? ⟨g, off + k * 5, none⟩ = some (.int .i64 ok) ∧ wr.cell? ⟨g, off + k * 5 + 1, none⟩ = some (.int .i64 oa) ∧ wr.cell? ⟨g, off + k * 5 + 2, none⟩ = some (.int .i64 vk) ∧ wr.cell? ⟨g, off + k * 5 + 3, none⟩ = some (.int .i64 vn) ∧ wr.cell? ⟨g, off + k * 5 + 4, none⟩ = some (.string vs)) (i : Nat) (hok : ok = 3) (hi : oa = (i : Int)) (him : i ≤ m) (gw : Nat) (hadw : adw = some ⟨gw, 0, none⟩) (hcw : m = capw) (hcm : i = m) :
    Code.wp Try.prog body (Exit.then (fun a' w'' => WI B b g off n cap w0 c0 c1 c5 c15 c16 c17 c18 c19 c20 c21 c22 c23 c24 c25 c26 a' w'' ∧ Wmu n a' w'' < Wmu n ⟨#[c0, c1, u2, .pointer (some ⟨b, 0, none⟩), .slice adw m capw, c5, u6, u7, u8, u9, u10, u11, u12, u13, u14, c15, c16, c17, c18, c19, c20, c21, c22, c23, c24, c25, c26, .slice (some ⟨g, off, none⟩) n cap, .int .i64 (n : Int), .int .i64 (k : Int), u30, u31, u32, u33, u34, u35, u36, u37, u38, u39, u40, u41, u42, u43, u44, u45, u46, u47, u48, u49, u50, u51, u52, u53, u54, u55, u56, u57, u58, u59, u60, u61, u62, u63, u64, u65, u66, u67, u68, u69, u70, u71, u72, u73, u74, u75, u76, u77, u78, u79, u80, u81, u82, u83, u84, u85, u86, u87, u88, u89, u90, u91, u92, u93, u94, u95, u96, u97, u98, u99, u100, u101, u102, u103, u104, u105, u106, u107, u108, u109, u110, u111, u112, u113, u114, u115, u116, u117, u118, u119, u120, u121, u122, u123, u124, u125, u126, u127, u128, u129, u130, u131, u132, u133, u134, u135, u136, u137, u138, u139, u140, u141, u142, u143, u144, u145, u146, u147, u148, u149, u150, u151, u152, u153, u154, u155, u156, u157, u158, u159, u160, u161, u162, u163, u164, u165, u166, u167, u168, u169, u170, u171, u172, u173, u174, u175, u176, u177, u178, u179, u180, u181, u182, u183, u184, u185, u186, u187, u188, u189, u190, u191, u192, u193, u194, u195, u196, u197, u198, u199, u200, u201, u202, u203, u204, u205, u206, u207, u208, u209, u210, u211, u212, u213, u214, u215, u216, u217, u218, u219, u220, u221, u222], []⟩ wr) (QQ Q0 a0)) ⟨#[c0, c1, u2, .pointer (some ⟨b, 0, none⟩), .slice adw m capw, c5, u6, u7, u8, u9, u10, u11, u12, u13, u14, c15, c16, c17, c18, c19, c20, c21, c22, c23, c24, c25, c26, .slice (some ⟨g, off, none⟩) n cap, .int .i64 (n : Int), .int .i64 (k : Int), u30, u31, u32, u33, u34, u35, u36, u37, u38, u39, u40, u41, u42, u43, u44, u45, u46, u47, u48, u49, u50, u51, u52, u53, u54, u55, u56, u57, u58, u59, u60, u61, u62, u63, u64, u65, u66, u67, u68, u69, u70, u71, u72, u73, u74, u75, u76, u77, u78, u79, u80, u81, u82, u83, u84, u85, u86, u87, u88, u89, u90, u91, u92, u93, u94, u95, u96, u97, u98, u99, u100, u101, u102, u103, u104, u105, u106, u107, u108, u109, u110, u111, u112, u113, u114, u115, u116, u117, u118, u119, u120, u121, u122, u123, u124, u125, u126, u127, u128, u129, u130, u131, u132, u133, u134, u135, u136, u137, u138, u139, u140, u141, u142, u143, u144, u145, u146, u147, u148, u149, u150, u151, u152, u153, u154, u155, u156, u157, u158, u159, u160, u161, u162, u163, u164, u165, u166, u167, u168, u169, u170, u171, u172, u173, u174, u175, u176, u177, u178, u179, u180, u181, u182, u183, u184, u185, u186, u187, u188, u189, u190, u191, u192, u193, u194, u195, u196, u197, u198, u199, u200, u201, u202, u203, u204, u205, u206, u207, u208, u209, u210, u211, u212, u213, u214, u215, u216, u217, u218, u219, u220, u221, u222], []⟩ wr := by
  obtain ⟨c0, c1, c2, c3, c4⟩ := hop
  have hk1 : (k : Int) < (n : Int) := by omega
  have hW0 := heap_alloc_new wr (.cells #[.int .i64 ok, .int .i64 oa, .int .i64 vk, .int .i64 vn, .string vs] 32)
  have hE0 : Below wr.heap.size wr (wr.alloc (.cells #[.int .i64 ok, .int .i64 oa, .int .i64 vk, .int .i64 vn, .string vs] 32)) := (Below.refl _ _).alloc (Nat.le_refl _) _
  have hs0 : (wr.alloc (.cells #[.int .i64 ok, .int .i64 oa, .int .i64 vk, .int .i64 vn, .string vs] 32)).heap.size = wr.heap.size + 1 := by simp
  have HT0 := Lib.hid (two_below HT.out hE0)
  have HE0 := Lib.hid hE0
  have HW0 := Lib.hid hW0
  have hbw := lt_of_block HT.out.l.blk
  have hrow := list_row HT.out.l
  have HROW := Lib.hid hrow
  clear hE0 hW0 hrow
  subst hok
  subst hi
  subst hcm
  subst hcw
  subst hadw
  have hcap := own_cap HT.out.s
  rw [hlen.out] at hcap
  have hic : (i : Int) ≤ (i : Int) := by omega
  have hmc : (i : Int) ≤ (i : Int) := by omega
  have hic2 : i ≤ i := by omega
  have HIM : Hid (i - i = 0) := by show _ = _; omega
  have hP := linsert_any B b adl capl M vk vn vs i (by have := hlen.out; omega) (by have := hlen.out; omega) _ (by have h1 := HZ.out.size; have h2 := HE0.out.size; have := hB.out; omega) HT0.out.l
  have HP := Lib.hid hP
  have hi0 : (0 : Int) ≤ (i : Int) := by omega
  have him' : (i : Int) ≤ (i : Int) := by omega
  have hib : i ≤ 1000 := by omega
  have hmb : i ≤ 1000 := by omega
  clear hP
  conv => arg 2; whnf
  go_wp2_with fail
  all_goals refine HP.out.mono ?_
  all_goals
    rintro e w1 ⟨rfl, adl', capl', hL, hU, hf⟩
    have hW1 := upd_blk HW0.out hU (by omega) (fun e => by have := HROW.out _ e; omega)
    have hT1 := two_list HT0.out hL hU hf
    have hZ1 := two_low (HZ.out.trans (HE0.out.mono HZ.out.size)) (HZ.out.trans (HE0.out.mono HZ.out.size)).size (Nat.le_of_eq rfl) (by have := HT0.out; rw [hB.out] at this; exact this) hU
    have hBw : B ≤ w1.heap.size := by have := hZ1.size; rw [hB.out]; exact this
    have s1 := (by have h := own_srcB hT1.s (f := 0) (n := i) (by have := hlen.out; omega) 0 (Or.inl (by omega)); rw [List.drop_zero] at h; exact h : SrcB w1.heap.size (some ⟨gw, 0, none⟩) w1 (M.take i))
    have s2 := (by have h := own_srcB hT1.s (f := i) (n := i - i) (by have := hlen.out; omega) (0) (Or.inr HIM.out); rw [List.take_of_length_le (by rw [List.length_drop]; have := hlen.out; omega)] at h; exact h : SrcB w1.heap.size (some ⟨gw, 0, none⟩) w1 (M.drop i))
    have hbx : Below w1.heap.size w1 (w1.drew.alloc (.cells (flat [(vk, vn, vs)]).toArray 30)) := (Below.refl _ _).drew.alloc (Nat.le_refl _) _
    have hbe : Below w1.heap.size w1 (w1.drew.alloc (.cells #[] 30)) := (Below.refl _ _).drew.alloc (Nat.le_refl _) _
    have hbxe : Below w1.heap.size w1 ((w1.drew.alloc (.cells (flat [(vk, vn, vs)]).toArray 30)).alloc (.cells #[] 30)) := hbx.alloc hbx.size _
    have hbex : Below w1.heap.size w1 ((w1.drew.alloc (.cells #[] 30)).alloc (.cells (flat [(vk, vn, vs)]).toArray 30)) := hbe.alloc hbe.size _
    have zx : (w1.drew.alloc (.cells (flat [(vk, vn, vs)]).toArray 30)).heap.size = w1.heap.size + 1 := by show (w1.drew.alloc _).heap.size = w1.drew.heap.size + 1; simp
    have ze : (w1.drew.alloc (.cells #[] 30)).heap.size = w1.heap.size + 1 := by show (w1.drew.alloc _).heap.size = w1.drew.heap.size + 1; simp
    have oA := own_empty (w1.drew.alloc (.cells (flat [(vk, vn, vs)]).toArray 30)) w1.heap.size (by rw [zx]; omega)
    have oB := own_empty w1.drew w1.heap.size (Nat.le_refl _)
    rw [zx] at oA
    have xA : ((w1.drew.alloc (.cells (flat [(vk, vn, vs)]).toArray 30)).alloc (.cells #[] 30)).heap[w1.heap.size]? = some (.cells (flat [(vk, vn, vs)]).toArray 30) := (heap_alloc_old _ _ (by rw [zx]; omega)).trans (heap_alloc_new w1.drew _)
    have xB : ((w1.drew.alloc (.cells #[] 30)).alloc (.cells (flat [(vk, vn, vs)]).toArray 30)).heap[w1.heap.size + 1]? = some (.cells (flat [(vk, vn, vs)]).toArray 30) := by
      have := heap_alloc_new (w1.drew.alloc (.cells #[] 30)) (.cells (flat [(vk, vn, vs)]).toArray 30)
      rw [ze] at this
      exact this
    obtain ⟨da1, ea1, va1, da2, ea2, va2, da3, ea3, va3, ra1, ra2, ra3, ba1, ba2, ba3, oa3⟩ := chain_insA (vk, vn, vs) hlen.out (by omega) hmb hbxe oA xA (by omega) s1 s2 i (i - i) (fun e => by cases e) (fun e => by cases e)
    obtain ⟨db1, eb1, vb1, db2, eb2, vb2, db3, eb3, vb3, rb1, rb2, rb3, bb1, bb2, bb3, ob3⟩ := chain_insA (vk, vn, vs) hlen.out (by omega) hmb hbex (own_below oB ((Below.refl _ _).alloc (Nat.le_refl _) _)) xB (by show _ ≠ w1.heap.size; omega) s1 s2 i (i - i) (fun e => by cases e) (fun e => by cases e)
    obtain ⟨dc1, ec1, vc1, dc2, ec2, vc2, dc3, ec3, vc3, rc1, rc2, rc3, bc1, bcx, bc2, bc3, oc3⟩ := chain_insB (vk, vn, vs) hlen.out (by omega) hmb hbe oB s1 s2 i (i - i) (fun e => by cases e) (fun e => by cases e)
    rw [Nat.sub_self] at ra3 rb3 rc3
    have ra1' : (Builtin.append_ #[25, 25] 25 #[.slice (some ⟨w1.heap.size + 1, 0, none⟩) 0 0, .slice (some ⟨gw, 0, none⟩) i i]).run Try.prog ((w1.alloc (.cells #[.int .i64 vk, .int .i64 vn, .string vs] 30)).alloc (.cells #[] 30)).drew = .ok (.slice da1 i ea1) va1 := ra1
    have rb1' : (Builtin.append_ #[25, 25] 25 #[.slice (some ⟨w1.heap.size, 0, none⟩) 0 0, .slice (some ⟨gw, 0, none⟩) i i]).run Try.prog ((w1.alloc (.cells #[] 30)).alloc (.cells #[.int .i64 vk, .int .i64 vn, .string vs] 30)).drew = .ok (.slice db1 i eb1) vb1 := rb1
    have rc1' : (Builtin.append_ #[25, 25] 25 #[.slice (some ⟨w1.heap.size, 0, none⟩) 0 0, .slice (some ⟨gw, 0, none⟩) i i]).run Try.prog (w1.alloc (.cells #[] 30)).drew = .ok (.slice dc1 i ec1) vc1 := rc1
    have rc2' : (Builtin.append_ #[25, 25] 25 #[.slice dc1 i ec1, .slice (some ⟨vc1.heap.size, 0, none⟩) 1 1]).run Try.prog (vc1.alloc (.cells #[.int .i64 vk, .int .i64 vn, .string vs] 30)) = .ok (.slice dc2 (i + 1) ec2) vc2 := rc2
    have f0 := four_facts hW1
    have f1 := four_facts (show w1.drew.heap[wr.heap.size]? = _ from hW1)
    have f2 := four_facts (show (w1.alloc (.cells #[.int .i64 vk, .int .i64 vn, .string vs] 30)).drew.heap[wr.heap.size]? = _ from keep hW1 hbx)
    have f3 := four_facts (show (w1.alloc (.cells #[] 30)).drew.heap[wr.heap.size]? = _ from keep hW1 hbe)
    have f4 := four_facts (show ((w1.alloc (.cells #[.int .i64 vk, .int .i64 vn, .string vs] 30)).alloc (.cells #[] 30)).drew.heap[wr.heap.size]? = _ from keep hW1 hbxe)
    have f5 := four_facts (show ((w1.alloc (.cells #[] 30)).alloc (.cells #[.int .i64 vk, .int .i64 vn, .string vs] 30)).drew.heap[wr.heap.size]? = _ from keep hW1 hbex)
    have fa1 := four_facts (keep hW1 ba1)
    have fa2 := four_facts (keep hW1 ba2)
    have fa3 := four_facts (keep hW1 ba3)
    have fb1 := four_facts (keep hW1 bb1)
    have fb2 := four_facts (keep hW1 bb2)
    have fb3 := four_facts (keep hW1 bb3)
    have fc1 := four_facts (keep hW1 bc1)
    have fcx := four_facts (show (vc1.alloc (.cells #[.int .i64 vk, .int .i64 vn, .string vs] 30)).heap[wr.heap.size]? = _ from keep hW1 bcx)
    have fc2 := four_facts (keep hW1 bc2)
    have fc3 := four_facts (keep hW1 bc3)
    have TA := Lib.hid (two_new hT1 ba3 (Nat.le_refl _) hBw oa3)
    have TB := Lib.hid (two_new hT1 bb3 (Nat.le_refl _) hBw ob3)
    have TC := Lib.hid (two_new hT1 bc3 (Nat.le_refl _) hBw oc3)
    have ZA := Lib.hid (hZ1.trans (ba3.mono hZ1.size))
    have ZB := Lib.hid (hZ1.trans (bb3.mono hZ1.size))
    have ZC := Lib.hid (hZ1.trans (bc3.mono hZ1.size))
    have HL2 : Hid ((ins M i (vk, vn, vs)).length = i + 1) := by show _ = _; rw [ins_len M i _ (by have := hlen.out; omega), hlen.out]
    have F0 := Lib.hid f0
    have G1 := Lib.hid f1
    have G2 := Lib.hid f2
    have G3 := Lib.hid f3
    have G4 := Lib.hid f4
    have G5 := Lib.hid f5
    have GA1 := Lib.hid fa1
    have GA2 := Lib.hid fa2
    have GA3 := Lib.hid fa3
    have GB1 := Lib.hid fb1
    have GB2 := Lib.hid fb2
    have GB3 := Lib.hid fb3
    have GC1 := Lib.hid fc1
    have GCX := Lib.hid fcx
    have GC2 := Lib.hid fc2
    have GC3 := Lib.hid fc3
    clear f1 f2 f3 f4 f5 fa1 fa2 fa3 fb1 fb2 fb3 fc1 fcx fc2 fc3 ra1 rb1 rc1 ba1 ba2 ba3 bb1 bb2 bb3 bc1 bcx bc2 bc3 oa3 ob3 oc3 xA xB oA oB zx ze hbx hbe hbxe hbex s1 s2 hL hU hf hW1 hT1 hZ1 hBw
    obtain ⟨x1, x2, x3, x4⟩ := f0
    have RA1 := Lib.hid ra1'
    have RA2 := Lib.hid ra2
    have RA3 := Lib.hid ra3
    have RB1 := Lib.hid rb1'
    have RB2 := Lib.hid rb2
    have RB3 := Lib.hid rb3
    have RC1 := Lib.hid rc1'
    have RC2 := Lib.hid rc2'
    have RC3 := Lib.hid rc3
    clear ra1' ra2 ra3 rb1' rb2 rb3 rc1' rc2 rc2' rc3
    go_wp2_with fail
    go_region_held3 (fun w' => w'.cell? ⟨wr.heap.size, 1, none⟩ = some (.int .i64 (i : Int)) ∧ w'.cell? ⟨wr.heap.size, 2, none⟩ = some (.int .i64 vk) ∧ w'.cell? ⟨wr.heap.size, 3, none⟩ = some (.int .i64 vn) ∧ w'.cell? ⟨wr.heap.size, 4, none⟩ = some (.string vs))
      (with_reducible (first | exact G1.out | exact G2.out | exact G3.out | exact G4.out | exact G5.out | exact GA1.out | exact GA2.out | exact GA3.out | exact GB1.out | exact GB2.out | exact GB3.out | exact GC1.out | exact GCX.out | exact GC2.out | exact GC3.out))
      (first 
        | (refine step_append_run rfl (.tmp 114) (.tmp 118) 25 rfl (.slice (some ⟨w1.heap.size + 1, 0, none⟩) 0 0) (.slice (some ⟨gw, 0, none⟩) i i) rfl rfl (by with_reducible exact RA1.out) ?_)
        | (refine step_append_run rfl (.tmp 114) (.tmp 118) 25 rfl (.slice (some ⟨w1.heap.size, 0, none⟩) 0 0) (.slice (some ⟨gw, 0, none⟩) i i) rfl rfl (by with_reducible exact RB1.out) ?_)
        | (refine step_append_run rfl (.tmp 114) (.tmp 118) 25 rfl (.slice (some ⟨w1.heap.size, 0, none⟩) 0 0) (.slice (some ⟨gw, 0, none⟩) i i) rfl rfl (by with_reducible exact RC1.out) ?_)
        | (refine step_append_run rfl (.tmp 119) (.tmp 122) 25 rfl (.slice da1 i ea1) (.slice (some ⟨w1.heap.size, 0, none⟩) 1 1) rfl rfl (by with_reducible exact RA2.out) ?_)
        | (refine step_append_run rfl (.tmp 119) (.tmp 122) 25 rfl (.slice db1 i eb1) (.slice (some ⟨w1.heap.size + 1, 0, none⟩) 1 1) rfl rfl (by with_reducible exact RB2.out) ?_)
        | (refine step_append_run rfl (.tmp 119) (.tmp 122) 25 rfl (.slice dc1 i ec1) (.slice (some ⟨vc1.heap.size, 0, none⟩) 1 1) rfl rfl (by with_reducible exact RC2.out) ?_)
        | (refine step_append_run rfl (.tmp 123) (.tmp 127) 25 rfl (.slice da2 (i + 1) ea2) (.slice (some ⟨gw, 0, none⟩) 0 0) rfl rfl (by with_reducible exact RA3.out) ?_)
        | (refine step_append_run rfl (.tmp 123) (.tmp 127) 25 rfl (.slice db2 (i + 1) eb2) (.slice (some ⟨gw, 0, none⟩) 0 0) rfl rfl (by with_reducible exact RB3.out) ?_)
        | (refine step_append_run rfl (.tmp 123) (.tmp 127) 25 rfl (.slice dc2 (i + 1) ec2) (.slice (some ⟨gw, 0, none⟩) 0 0) rfl rfl (by with_reducible exact RC3.out) ?_))
    all_goals go_wp2_with fail
    all_goals
      first
      | (have hS := same_in B b adl' da3 capl' ea3 (ins M i (vk, vn, vs)) (by have := HL2.out; omega) _ TA.out.l (own_in TA.out.s)
         rw [HL2.out] at hS
         have HS := Lib.hid hS
         clear hS
         go_wp2_with fail
         with_reducible refine HS.out.mono ?_
         rintro e w9 ⟨rfl, hb9⟩
         have HT9 := Lib.hid (two_below TA.out hb9)
         have HZ9 := Lib.hid (ZA.out.trans (hb9.mono ZA.out.size))
         clear hb9 HS
         go_wp2_with fail
         refine ⟨?_, by simp [Wmu, slotAt, intOf]; omega⟩
         unfold WI
         refine ⟨_, _, _, _, _, _, _, _, _, _, _, _, _, _, _, _, _, _, _, _, _, _, _, _, _, _, _, _, _, _, _, _, _, _, _, _, _, _, _, _, _, _, _, _, _, _, _, _, _, _, _, _, _, _, _, _, _, _, _, _, _, _, _, _, _, _, _, _, _, _, _, _, _, _, _, _, _, _, _, _, _, _, _, _, _, _, _, _, _, _, _, _, _, _, _, _, _, _, _, _, _, _, _, _, _, _, _, _, _, _, _, _, _, _, _, _, _, _, _, _, _, _, _, _, _, _, _, _, _, _, _, _, _, _, _, _, _, _, _, _, _, _, _, _, _, _, _, _, _, _, _, _, _, _, _, _, _, _, _, _, _, _, _, _, _, _, _, _, _, _, _, _, _, _, _, _, _, _, _, _, _, _, _, _, _, _, _, _, _, _, _, _, _, _, _, _, _, _, _, _, _, _, _, _, _, ?_, rfl⟩
         exact ⟨k + 1, (ins M i (vk, vn, vs)), adl', da3, capl', ea3, by omega, by rw [HL2.out], by go_num, HT9, by show _ ≤ _; rw [HL2.out]; omega, HZ9⟩)
      | (have hS := same_in B b adl' db3 capl' eb3 (ins M i (vk, vn, vs)) (by have := HL2.out; omega) _ TB.out.l (own_in TB.out.s)
         rw [HL2.out] at hS
         have HS := Lib.hid hS
         clear hS
         go_wp2_with fail
         with_reducible refine HS.out.mono ?_
         rintro e w9 ⟨rfl, hb9⟩
         have HT9 := Lib.hid (two_below TB.out hb9)
         have HZ9 := Lib.hid (ZB.out.trans (hb9.mono ZB.out.size))
         clear hb9 HS
         go_wp2_with fail
         refine ⟨?_, by simp [Wmu, slotAt, intOf]; omega⟩
         unfold WI
         refine ⟨_, _, _, _, _, _, _, _, _, _, _, _, _, _, _, _, _, _, _, _, _, _, _, _, _, _, _, _, _, _, _, _, _, _, _, _, _, _, _, _, _, _, _, _, _, _, _, _, _, _, _, _, _, _, _, _, _, _, _, _, _, _, _, _, _, _, _, _, _, _, _, _, _, _, _, _, _, _, _, _, _, _, _, _, _, _, _, _, _, _, _, _, _, _, _, _, _, _, _, _, _, _, _, _, _, _, _, _, _, _, _, _, _, _, _, _, _, _, _, _, _, _, _, _, _, _, _, _, _, _, _, _, _, _, _, _, _, _, _, _, _, _, _, _, _, _, _, _, _, _, _, _, _, _, _, _, _, _, _, _, _, _, _, _, _, _, _, _, _, _, _, _, _, _, _, _, _, _, _, _, _, _, _, _, _, _, _, _, _, _, _, _, _, _, _, _, _, _, _, _, _, _, _, _, _, ?_, rfl⟩
         exact ⟨k + 1, (ins M i (vk, vn, vs)), adl', db3, capl', eb3, by omega, by rw [HL2.out], by go_num, HT9, by show _ ≤ _; rw [HL2.out]; omega, HZ9⟩)
      | (have hS := same_in B b adl' dc3 capl' ec3 (ins M i (vk, vn, vs)) (by have := HL2.out; omega) _ TC.out.l (own_in TC.out.s)
         rw [HL2.out] at hS
         have HS := Lib.hid hS
         clear hS
         go_wp2_with fail
         with_reducible refine HS.out.mono ?_
         rintro e w9 ⟨rfl, hb9⟩
         have HT9 := Lib.hid (two_below TC.out hb9)
         have HZ9 := Lib.hid (ZC.out.trans (hb9.mono ZC.out.size))
         clear hb9 HS
         go_wp2_with fail
         refine ⟨?_, by simp [Wmu, slotAt, intOf]; omega⟩
         unfold WI
         refine ⟨_, _, _, _, _, _, _, _, _, _, _, _, _, _, _, _, _, _, _, _, _, _, _, _, _, _, _, _, _, _, _, _, _, _, _, _, _, _, _, _, _, _, _, _, _, _, _, _, _, _, _, _, _, _, _, _, _, _, _, _, _, _, _, _, _, _, _, _, _, _, _, _, _, _, _, _, _, _, _, _, _, _, _, _, _, _, _, _, _, _, _, _, _, _, _, _, _, _, _, _, _, _, _, _, _, _, _, _, _, _, _, _, _, _, _, _, _, _, _, _, _, _, _, _, _, _, _, _, _, _, _, _, _, _, _, _, _, _, _, _, _, _, _, _, _, _, _, _, _, _, _, _, _, _, _, _, _, _, _, _, _, _, _, _, _, _, _, _, _, _, _, _, _, _, _, _, _, _, _, _, _, _, _, _, _, _, _, _, _, _, _, _, _, _, _, _, _, _, _, _, _, _, _, _, _, ?_, rfl⟩
         exact ⟨k + 1, (ins M i (vk, vn, vs)), adl', dc3, capl', ec3, by omega, by rw [HL2.out], by go_num, HT9, by show _ ≤ _; rw [HL2.out]; omega, HZ9⟩)

end Go.Proofs.Ytfngndbpgegnaaa.Li
