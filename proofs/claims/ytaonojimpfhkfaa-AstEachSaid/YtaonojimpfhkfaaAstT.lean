/- small. -/
import Derived.Test.YtaonojimpfhkfaaAstS
namespace Go.Proofs.Ytaonojimpfhkfaa.As
open Go.RowKit Go.ChangeShapes Go.WideShapes Go.ChangeAt

def okN (n : Nd) : Prop := n.kids.length ≤ 100 ∧ n.text.size ≤ 200
/-- Is a tree of a size with which this is tried? -/
def smallP (L : List Nd) : Prop := (∀ n ∈ L, okN n) ∧ L.length ≤ 400
theorem small_szd {L : List Nd} (h : smallP L) (hc : TreeOk L) : Szd L :=
  ⟨by have := h.2; omega, fun n hn => ⟨by have := (h.1 n hn).2; omega, by have := (h.1 n hn).1; omega, (hc.2 n hn).2.2.1⟩⟩
def Smalled (w w' : World) (e : Ending) (L : List Nd) : Prop := ∃ b : Bool, e = .returned (.bool b) ∧ (b = true ↔ smallP L) ∧ Below w.heap.size w w'
set_option maxRecDepth 100000 in
set_option maxHeartbeats 4000000 in
theorem small_any {A : Option Addr} {cap B : Nat} {w : World} {L : List Nd} (hT : Tr w B A L) (hB : B ≤ w.heap.size) (hc : TreeOk L) :
    Calls Try.prog 9 #[.agg #[.slice A L.length cap]] w fun e w' => Smalled w w' e L := by
  have HT := Lib.hid hT
  have HB := Lib.hid hB
  have HC := Lib.hid hc
  have HZ := Lib.hid (bel1 w (.cells #[.slice A L.length cap] 24))
  have HX := Lib.hid (new1 w (.cells #[.slice A L.length cap] 24))
  have hlb : (L.length : Int) ≤ 9223372036854775807 := by have := hc.1; omega
  have x0 := cell_of_one HX.out
  clear hT hB hc
  go_enter Try.func9, Try.ntmps9
  go_wp2_with fail
  clear x0
  go_loopw [8] (fun i wr => ∃ k : Nat, k ≤ L.length ∧ i = .int .i64 (k : Int) ∧ Hid (∀ (j : Nat) (n : Nd), j < k → L[j]? = some n → okN n) ∧ Hid (Below w.heap.size w wr) ∧ Hid (wr.heap[w.heap.size]? = some (.cells #[.slice A L.length cap] 24 (0, 0)))) (fun i _ => L.length - (intOf i).toNat)
  case atStart => exact ⟨0, Nat.zero_le _, rfl, fun j n hj => by omega, HZ.out, HX.out⟩
  case round =>
    obtain ⟨k, hk, rfl, HO, HZ1, HX1⟩ := hrel
    by_cases hlt : k < L.length
    · obtain ⟨n, hn⟩ := get_some hlt
      obtain ⟨g, o, rfl, _, hat⟩ := (HT.out.keep (w' := wr) (Nat.le_refl _) fun b hb => HZ1.out.block b (by have := HB.out; omega)).at_ hn
      obtain ⟨n0, n1, n2, n3, n4, _⟩ := hat
      have hn' := HC.out.2 n (List.mem_of_getElem? hn)
      have hkb : (n.kids.length : Int) ≤ 9223372036854775807 := by have := hn'.1; omega
      have htb : (n.text.size : Int) ≤ 9223372036854775807 := by have := hn'.2.1; omega
      have HN := Lib.hid hn
      have hb2 := bel1 wr (.cells #[.int .i64 n.kind, .int .i64 n.loc, .string n.text, .int .i64 n.num, .slice n.ka n.kids.length n.kc] 37)
      have HZ2 := Lib.hid (HZ1.out.trans (hb2.mono HZ1.out.size))
      have HX2 := Lib.hid ((hb2.block _ (lt_of_block HX1.out)).trans HX1.out)
      have hkl : (k : Int) < (L.length : Int) := by omega
      clear hn hn' hb2
      by_cases h1 : n.kids.length ≤ 100
      · have h1b : ¬ (100 : Int) < (n.kids.length : Int) := by omega
        by_cases h2 : n.text.size ≤ 200
        · have h2b : ¬ (200 : Int) < (n.text.size : Int) := by omega
          have HO2 : Hid (∀ (j : Nat) (p : Nd), j < k + 1 → L[j]? = some p → okN p) := fun j p hj hp => by
            by_cases hjk : j < k
            · exact HO.out j p hjk hp
            · obtain rfl : j = k := by omega
              rw [HN.out, Option.some.injEq] at hp
              subst hp
              exact ⟨h1, h2⟩
          clear h1 h2
          go_wp2_with fail
          go_roundw
          case rel => exact ⟨k + 1, by omega, by go_num, HO2.out, HZ2.out, HX2.out⟩
          case measure => simp [intOf]; omega
        · have h2b : (200 : Int) < (n.text.size : Int) := by omega
          have HF : Hid (¬ smallP L) := fun h => h2 (h.1 n (List.mem_of_getElem? HN.out)).2
          clear h1 h2
          go_wp2_with fail
          go_ret
          exact ⟨false, rfl, ⟨fun h => by simp at h, fun h => absurd h HF.out⟩, HZ2.out⟩
      · have h1b : (100 : Int) < (n.kids.length : Int) := by omega
        have HF : Hid (¬ smallP L) := fun h => h1 (h.1 n (List.mem_of_getElem? HN.out)).1
        clear h1
        go_wp2_with fail
        go_ret
        exact ⟨false, rfl, ⟨fun h => by simp at h, fun h => absurd h HF.out⟩, HZ2.out⟩
    · have x1 := cell_of_one HX1.out
      have HALL : Hid (∀ n ∈ L, okN n) := fun n hn => by
        obtain ⟨j, hj⟩ := List.getElem?_of_mem hn
        exact HO.out j n (by have := get_lt hj; omega) hj
      clear HX1
      by_cases h4 : L.length ≤ 400
      · have h4b : (L.length : Int) ≤ 400 := by omega
        have HF : Hid (smallP L) := ⟨HALL.out, h4⟩
        clear h4
        go_wp2_with fail
        go_ret
        exact ⟨true, by first | rfl | exact ret_b (by simp; omega), ⟨fun _ => HF.out, fun _ => rfl⟩, HZ1.out⟩
      · have h4b : ¬ (L.length : Int) ≤ 400 := by omega
        have HF : Hid (¬ smallP L) := fun h => h4 h.2
        clear h4
        go_wp2_with fail
        go_ret
        exact ⟨false, by first | rfl | exact ret_b (by simp; omega), ⟨fun h => by simp at h, fun h => absurd h HF.out⟩, HZ1.out⟩
end Go.Proofs.Ytaonojimpfhkfaa.As
