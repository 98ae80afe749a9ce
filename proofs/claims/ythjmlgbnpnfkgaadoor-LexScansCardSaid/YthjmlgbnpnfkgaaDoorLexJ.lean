/- Contract of dreyref08.Quoted. -/
import Derived.Test.YthjmlgbnpnfkgaaDoorLexI
set_option linter.unusedVariables false
namespace Go.Proofs.YthjmlgbnpnfkgaaDoor.Lx
open Go.RowKit Go.ChangeShapes Go.WideShapes Go.ChangeAt Go.Proofs.YthjmlgbnpnfkgaaDoor.Nu

def quR (q : Nat) : Int := if q = 0 then -1 else (q : Int) - 1
set_option maxRecDepth 100000 in
set_option maxHeartbeats 2000000 in
theorem rquoted_any (s : ByteArray) (hs : s.size ≤ 1048576) (h0 : 0 < s.size) (hq : s[0].toNat = 34 ∨ s[0].toNat = 39) (w : World) : Calls Tryd.prog 28 #[.string s] w fun e w' => e = .returned (.int .i64 (quR (qe s.data.toList))) ∧ Below w.heap.size w w' := by
  have hd0 := drop_byte s 0 h0
  rw [List.drop_zero] at hd0
  have HQ : Hid (qeF s[0] (s.data.toList.drop 1) 1 false = qe s.data.toList) := by show _ = _; rw [hd0]; rfl
  generalize qe s.data.toList = Q at *
  generalize hx : s[0] = q at *
  have q10 : ¬ q.toNat = 10 := by omega
  have q92 : ¬ q.toNat = 92 := by omega
  clear hd0 hq
  go_enter Tryd.func28, Tryd.ntmps28
  go_wp2_with fail
  go_loopw [3] (fun i wr => ∃ k : Nat, 1 ≤ k ∧ k ≤ s.size ∧ i = .int .i64 (k : Int) ∧ Hid (qeF q (s.data.toList.drop k) k false = Q) ∧ Below w.heap.size w wr) (fun i _ => s.size - (intOf i).toNat)
  case atStart => exact ⟨1, by omega, by omega, rfl, HQ.out, Below.refl _ _⟩
  case round =>
    obtain ⟨k, hk1, hk, rfl, HU, hb⟩ := hrel
    by_cases hlt : k < s.size
    · have hd := drop_byte s k hlt
      have hc := byte_lt s k hlt
      rw [hd] at HU
      have HX : Hid (s[0] = q) := hx
      generalize hy : s[k] = c at *
      by_cases h1 : c.toNat = q.toNat
      · have h1' : c = q := u8_eq.2 h1
        have HR : Hid (quR Q = (k : Int) - 1) := by
          show _ = _
          rw [← HU.out, qe_here (by rw [h1', u8_eq]; exact q10) ⟨h1', rfl⟩]
          unfold quR; rw [if_neg (by omega)]
        have e0 : ((c.toNat : Int) != (q.toNat : Int)) = false := by rw [bne_eq_false_iff_eq]; omega
        clear hd HU h1'
        go_wp2_with fail
        go_quiet (fail)
        go_wp2_with fail
        go_ret
        exact ⟨ret_i64 HR.out.symm, below_drewN hb _⟩
      · have e0 : ((c.toNat : Int) != (q.toNat : Int)) = true := by rw [bne_iff_ne]; omega
        have hne : ¬ (c = q ∧ false = false) := fun h => h1 (by rw [h.1])
        by_cases h2 : c.toNat = 10
        · have e1 : ((c.toNat : Int) == 10) = true := by rw [h2]; rfl
          have HR : Hid (quR Q = -1) := by show _ = _; rw [← HU.out, qe_stop (by rw [u8_eq]; exact h2)]; rfl
          clear hd HU
          go_wp2_with fail
          go_quiet (fail)
          go_wp2_with fail
          go_ret
          exact ⟨ret_i64 HR.out.symm, below_drewN hb _⟩
        · have e1 : ((c.toNat : Int) == 10) = false := by rw [beq_eq_false_iff_ne]; omega
          have h2' : ¬ c = 10 := fun h => h2 (by rw [h]; rfl)
          rw [qe_on h2' hne] at HU
          by_cases h3 : c.toNat = 92
          · have e2 : ((c.toNat : Int) == 92) = true := by rw [h3]; rfl
            rw [show (c == 92 && !false) = true by rw [show c = 92 by rw [u8_eq]; exact h3]; rfl] at HU
            by_cases hlt1 : k + 1 < s.size
            · have hd1 := drop_byte s (k + 1) hlt1
              have hc1 := byte_lt s (k + 1) hlt1
              have n1 : ((k : Int) + 1 == (s.size : Int)) = false := by rw [beq_eq_false_iff_ne]; omega
              rw [hd1] at HU
              generalize hz : s[k + 1] = d at *
              by_cases h4 : d.toNat = 10
              · have e3 : ((d.toNat : Int) == 10) = true := by rw [h4]; rfl
                have HR : Hid (quR Q = -1) := by show _ = _; rw [← HU.out, qe_stop (by rw [u8_eq]; exact h4)]; rfl
                clear hd HU hd1
                go_wp2_with fail
                go_quiet (fail)
                go_wp2_with fail
                go_ret
                exact ⟨ret_i64 HR.out.symm, below_drewN hb _⟩
              · have e3 : ((d.toNat : Int) == 10) = false := by rw [beq_eq_false_iff_ne]; omega
                have h4' : ¬ d = 10 := fun h => h4 (by rw [h]; rfl)
                rw [qe_on h4' (fun h => by cases h.2), show (d == 92 && !true) = false by cases (d == 92) <;> rfl] at HU
                have HU2 := Lib.hid HU
                clear hd HU hd1
                go_wp2_with fail
                go_quiet (fail)
                go_wp2_with fail
                go_roundw
                case rel => exact ⟨k + 1 + 1, by omega, by omega, by go_num, HU2.out, below_drewN hb _⟩
                case measure => simp [intOf]; omega
            · have n1 : ((k : Int) + 1 == (s.size : Int)) = true := by rw [beq_iff_eq]; omega
              have HR : Hid (quR Q = -1) := by
                show _ = _
                rw [← HU.out, List.drop_eq_nil_of_le (by rw [size_list]; omega)]; rfl
              clear hd HU
              go_wp2_with fail
              go_quiet (fail)
              go_wp2_with fail
              go_ret
              exact ⟨ret_i64 HR.out.symm, below_drewN hb _⟩
          · have e2 : ((c.toNat : Int) == 92) = false := by rw [beq_eq_false_iff_ne]; omega
            rw [show (c == 92 && !false) = false by rw [show (c == 92) = false by rw [beq_eq_false_iff_ne]; exact fun h => h3 (by rw [h]; rfl)]; rfl] at HU
            have HU2 := Lib.hid HU
            clear hd HU
            go_wp2_with fail
            go_quiet (fail)
            go_wp2_with fail
            go_roundw
            case rel => exact ⟨k + 1, by omega, by omega, by go_num, HU2.out, below_drewN hb _⟩
            case measure => simp [intOf]; omega
    · have HR : Hid (quR Q = -1) := by
        show _ = _
        rw [← HU.out, List.drop_eq_nil_of_le (by rw [size_list]; omega)]; rfl
      clear HU
      go_wp2_with fail
      go_quiet (fail)
      go_wp2_with fail
      go_ret
      exact ⟨ret_i64 HR.out.symm, below_drewN hb _⟩
end Go.Proofs.YthjmlgbnpnfkgaaDoor.Lx
