/- Contract of dreylaw07.small; the walk of SinkPrints. -/
import Derived.Test.YtmlhknkeacpnhaaSink9
import Derived.Test.YtmlhknkeacpnhaaStrsOpen
set_option linter.unusedVariables false
namespace Go.Proofs.Ytmlhknkeacpnhaa.Sk
open Go.RowKit Go.ChangeShapes Go.WideShapes Go.ChangeAt

def okL (L : List ByteArray) : Prop := L.length ≤ 20 ∧ ∀ x ∈ L, x.size ≤ 200
/-- Are texts of a size with which this is tried? -/
def sm (LL : List (List ByteArray)) : Bool := decide (LL.length ≤ 40) && LL.all fun L => decide (L.length ≤ 20) && L.all fun x => decide (x.size ≤ 200)
theorem sm_iff {LL : List (List ByteArray)} : sm LL = true ↔ LL.length ≤ 40 ∧ ∀ L ∈ LL, okL L := by
  unfold sm okL
  simp
theorem sm_yes {LL : List (List ByteArray)} (h : sm LL = true) : LL.length ≤ 40 ∧ ∀ L ∈ LL, okL L := sm_iff.1 h
theorem sm_no {LL : List (List ByteArray)} (h : ¬ (LL.length ≤ 40 ∧ ∀ L ∈ LL, okL L)) : sm LL = false := by
  rw [Bool.eq_false_iff]; exact fun e => h (sm_iff.1 e)
theorem strSS_at {ad : Option Addr} {w : World} {LL : List (List ByteArray)} (h : StrSS w.heap.size ad w LL) {w' : World} (hb : Below w.heap.size w w') {k : Nat} (hk : k < LL.length) : ∃ g o adj capj, ad = some ⟨g, o, none⟩ ∧ w'.cell? ⟨g, o + k, none⟩ = some (.slice adj LL[k].length capj) ∧ LL[k].length ≤ capj ∧ StrS w.heap.size adj w' LL[k] := by
  rcases h with rfl | ⟨g, o, rfl, hg, hc⟩
  · simp at hk
  · obtain ⟨adj, capj, h1, h3, h2⟩ := hc k hk
    exact ⟨g, o, adj, capj, rfl, cell_below hb hg h1, h3, strS_move (B := 0) h2 hb⟩
set_option maxRecDepth 100000 in
set_option maxHeartbeats 2000000 in
theorem small_any {ad : Option Addr} {cap : Nat} {LL : List (List ByteArray)} (w0 w : World) (hl : LL.length ≤ 9223372036854775807) (hly : ∀ L ∈ LL, L.length ≤ 9223372036854775807) (h : StrSS w0.heap.size ad w0 LL) (hb : Below w0.heap.size w0 w) :
    Calls Try.prog 9 #[.slice ad LL.length cap] w fun e w' => e = .returned (.bool (sm LL)) ∧ w = w' := by
  have HC : Hid (∀ k (hk : k < LL.length), ∃ g o adj capj, ad = some ⟨g, o, none⟩ ∧ w.cell? ⟨g, o + k, none⟩ = some (.slice adj LL[k].length capj) ∧ LL[k].length ≤ capj ∧ StrS w0.heap.size adj w LL[k]) := fun k hk => strSS_at h hb hk
  have HNO : Hid (∀ k (hk : k < LL.length), ¬ okL LL[k] → sm LL = false) := fun k hk hn => sm_no fun h => hn (h.2 _ (List.getElem_mem hk))
  have HBIG : Hid (40 < LL.length → sm LL = false) := fun hk => sm_no fun h => by omega
  have HYES : Hid (LL.length ≤ 40 → (∀ k (hk : k < LL.length), okL LL[k]) → sm LL = true) := fun hk hy => by
    refine sm_iff.2 ⟨hk, fun L hL => ?_⟩
    obtain ⟨k, hk, rfl⟩ := List.getElem_of_mem hL
    exact hy k hk
  have HLY := Lib.hid hly
  clear hly h hb
  generalize sm LL = S at *
  go_enter Try.func9, Try.ntmps9
  go_wp2_with fail
  go_loop [9] (fun i => ∃ k : Nat, k ≤ LL.length ∧ i = .int .i64 (k : Int) ∧ Hid (∀ j (hj : j < LL.length), j < k → okL LL[j])) (fun i => LL.length - (intOf i).toNat)
  case atStart => exact ⟨0, by omega, rfl, fun j hj h => by omega⟩
  case round =>
    obtain ⟨k, hk, rfl, HK⟩ := hrel
    by_cases hlt : k < LL.length
    · obtain ⟨g, o, adj, capj, rfl, hc, _, hs⟩ := HC.out k hlt
      have HS := Lib.hid hs
      have hlen := HLY.out LL[k] (List.getElem_mem hlt)
      have HN := Lib.hid (HNO.out k hlt)
      have HKS : Hid (okL LL[k] → ∀ j (hj : j < LL.length), j < k + 1 → okL LL[j]) := fun h j hj hjk => by
        by_cases e : j = k
        · subst e; exact h
        · exact HK.out j hj (by omega)
      clear hs
      generalize LL[k] = L at *
      by_cases h20 : L.length ≤ 20
      · go_wp2_with fail
        go_loop [18] (fun i => ∃ q : Nat, q ≤ L.length ∧ i = .int .i64 (q : Int) ∧ Hid (∀ j (hj : j < L.length), j < q → L[j].size ≤ 200)) (fun i => L.length - (intOf i).toNat)
        case atStart => exact ⟨0, by omega, rfl, fun j hj h => by omega⟩
        case round =>
          obtain ⟨q, hq, rfl, HQ⟩ := hrel
          by_cases hqt : q < L.length
          · obtain ⟨g', o', rfl, hc'⟩ := strS_at HS.out hqt
            have HQS : Hid (L[q].size ≤ 200 → ∀ j (hj : j < L.length), j < q + 1 → L[j].size ≤ 200) := fun h j hj hjk => by
              by_cases e : j = q
              · subst e; exact h
              · exact HQ.out j hj (by omega)
            have HQN : Hid (¬ L[q].size ≤ 200 → S = false) := fun h => HN.out fun hh => h (hh.2 _ (List.getElem_mem hqt))
            generalize L[q] = x at *
            by_cases h200 : x.size ≤ 200
            · go_wp2_with fail
              go_round
              case rel => exact ⟨q + 1, by omega, by go_num, HQS.out h200⟩
              case measure => simp [intOf]; omega
            · go_wp2_with fail
              go_ret
              exact ⟨ret_b (HQN.out h200).symm, rfl⟩
          · have HOK : Hid (okL L) := ⟨h20, fun x hx => by
              obtain ⟨j, hj, rfl⟩ := List.getElem_of_mem hx
              exact HQ.out j hj (by omega)⟩
            go_wp2_with fail
            go_round
            case rel => exact ⟨k + 1, by omega, by go_num, HKS.out HOK.out⟩
            case measure => simp [intOf]; omega
      · go_wp2_with fail
        go_ret
        exact ⟨ret_b (HN.out fun hh => h20 hh.1).symm, rfl⟩
    · by_cases h40 : LL.length ≤ 40
      · go_wp2_with fail
        go_ret
        exact ⟨ret_b ((decide_eq_true (by omega)).trans (HYES.out h40 fun j hj => HK.out j hj (by omega)).symm), rfl⟩
      · go_wp2_with fail
        go_ret
        exact ⟨ret_b ((decide_eq_false (by omega)).trans (HBIG.out (by omega)).symm), rfl⟩
end Go.Proofs.Ytmlhknkeacpnhaa.Sk
