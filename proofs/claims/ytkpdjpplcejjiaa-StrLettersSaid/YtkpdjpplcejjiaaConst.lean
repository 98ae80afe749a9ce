/- What the functions of str answer for some texts. -/
import Derived.Test.YtkpdjpplcejjiaaUne2
import Derived.Test.YtkpdjpplcejjiaaSplit
import Derived.Test.YtkpdjpplcejjiaaStr2
import Derived.Test.YtkpdjpplcejjiaaStr3
namespace Go.Proofs.Ytkpdjpplcejjiaa
open Go.RowKit Go.ChangeShapes Go.WideShapes Go.ChangeAt

theorem k_quote (w : World) : Calls Try.prog 12 #[.string ⟨#[97, 34, 10, 1]⟩] w fun e w' => e = .returned (.string ⟨#[34, 97, 92, 34, 92, 110, 92, 120, 48, 49, 34]⟩) ∧ Below w.heap.size w w' :=
  (quote_any ⟨#[97, 34, 10, 1]⟩ (by decide) w).mono fun _ _ h => ⟨h.1.trans (congrArg (fun l : List UInt8 => Ending.returned (.string ⟨l.toArray⟩)) (by decide)), h.2⟩
theorem k_une1 (w : World) : Calls Try.prog 13 #[.string ⟨#[97, 92, 120, 52, 49, 92, 116]⟩] w fun e w' => e = .returned (.tuple #[.string ⟨#[97, 65, 9]⟩, .agg #[.int .i64 0, .int .i64 0]]) ∧ Below w.heap.size w w' :=
  (unescape_any ⟨#[97, 92, 120, 52, 49, 92, 116]⟩ (by decide) w).mono fun _ _ h => ⟨h.1.trans (congrArg (fun p => Ending.returned (uneV p)) (show uneS ⟨#[97, 92, 120, 52, 49, 92, 116]⟩ = ([97, 65, 9], -1) by decide)), h.2⟩
theorem k_une2 (w : World) : Calls Try.prog 13 #[.string ⟨#[97, 98, 92, 113]⟩] w fun e w' => e = .returned (.tuple #[.string ⟨#[]⟩, .agg #[.int .i64 20, .int .i64 2]]) ∧ Below w.heap.size w w' :=
  (unescape_any ⟨#[97, 98, 92, 113]⟩ (by decide) w).mono fun _ _ h => ⟨h.1.trans (congrArg (fun p => Ending.returned (uneV p)) (show uneS ⟨#[97, 98, 92, 113]⟩ = ([], 2) by decide)), h.2⟩
theorem k_slice (w : World) : Calls Try.prog 16 #[.string ⟨#[97, 98, 99, 100, 101, 102]⟩, .int .i64 (-3), .int .i64 (-1)] w fun e w' => e = .returned (.tuple #[.string ⟨#[100, 101]⟩, .int .i64 0]) ∧ Below w.heap.size w w' :=
  (slice_yes ⟨#[97, 98, 99, 100, 101, 102]⟩ (by decide) (-3) (-1) 3 5 (by kernel_rfl) (by kernel_rfl) (by decide) (by decide) w).mono fun _ _ h => ⟨h.1.trans (congrArg (fun s => Ending.returned (.tuple #[.string s, .int .i64 0])) (by kernel_rfl)), h.2⟩
theorem k_join (g cap : Nat) (w : World) (hg : g < w.heap.size) (h0 : w.cell? ⟨g, 0, none⟩ = some (.string ⟨#[97]⟩)) (h1 : w.cell? ⟨g, 1, none⟩ = some (.string ⟨#[98]⟩)) :
    Calls Try.prog 28 #[.string ⟨#[44, 32]⟩, .slice (some ⟨g, 0, none⟩) 2 cap] w fun e w' => e = .returned (.tuple #[.string ⟨#[97, 44, 32, 98]⟩, .int .i64 0]) ∧ Below w.heap.size w w' :=
  (join_any ⟨#[44, 32]⟩ [⟨#[97]⟩, ⟨#[98]⟩] g cap w hg (by decide) (fun k h => match k, h with | 0, _ => h0 | 1, _ => h1) (by decide)).mono fun _ _ h => ⟨h.1.trans (congrArg (fun l : List UInt8 => Ending.returned (.tuple #[.string ⟨l.toArray⟩, .int .i64 0])) (by decide)), h.2⟩
theorem k_find (m : Int) (w : World) (hm : w.cell? ⟨0, 0, none⟩ = some (.int .i64 m)) : Calls Try.prog 17 #[.string ⟨#[97, 98, 97, 98]⟩, .string ⟨#[97, 98]⟩, .int .i64 1] w fun e w' => e = .returned (.int .i64 2) ∧ w = w' :=
  (find_any ⟨#[97, 98, 97, 98]⟩ ⟨#[97, 98]⟩ (by decide) 1 m w hm).mono fun _ _ h => ⟨h.1.trans (congrArg (fun i => Ending.returned (.int .i64 i)) (by decide)), h.2⟩
theorem k_lower (w : World) : Calls Try.prog 22 #[.string ⟨#[65, 98, 90, 49]⟩] w fun e w' => e = .returned (.string ⟨#[97, 98, 122, 49]⟩) ∧ Below w.heap.size w w' :=
  (lower_any ⟨#[65, 98, 90, 49]⟩ (by decide) w).mono fun _ _ h => ⟨h.1.trans (congrArg (fun l : List UInt8 => Ending.returned (.string ⟨l.toArray⟩)) (by decide)), h.2⟩
theorem k_upper (w : World) : Calls Try.prog 23 #[.string ⟨#[65, 98, 90, 49]⟩] w fun e w' => e = .returned (.string ⟨#[65, 66, 90, 49]⟩) ∧ Below w.heap.size w w' :=
  (upper_any ⟨#[65, 98, 90, 49]⟩ (by decide) w).mono fun _ _ h => ⟨h.1.trans (congrArg (fun l : List UInt8 => Ending.returned (.string ⟨l.toArray⟩)) (by decide)), h.2⟩
theorem k_strip (w : World) : Calls Try.prog 26 #[.string ⟨#[32, 97, 32, 98, 10]⟩] w fun e w' => e = .returned (.string ⟨#[97, 32, 98]⟩) ∧ Below w.heap.size w w' :=
  (strip_any ⟨#[32, 97, 32, 98, 10]⟩ (by decide) w).mono fun _ _ h => ⟨h.1.trans (congrArg (fun s => Ending.returned (.string s)) (by kernel_rfl)), h.2⟩
theorem k_split (w : World) : Calls Try.prog 27 #[.string ⟨#[97, 44, 98, 59, 99]⟩, .string ⟨#[44, 59]⟩] w fun e w' => ∃ g cap, e = .returned (.slice (some ⟨g, 0, none⟩) 3 cap) ∧ Below w.heap.size w w' :=
  (split_any ⟨#[97, 44, 98, 59, 99]⟩ ⟨#[44, 59]⟩ (by decide) (by decide) w).mono fun _ _ ⟨v, n, h1, h2, h3, h4⟩ => by
    have h2' : n = 3 := h2.trans (by kernel_rfl)
    subst h2'
    rcases h3.2 with ⟨_, h0⟩ | ⟨g, cap, cur, hv, _⟩
    · omega
    · exact ⟨g, cap, by rw [h1, hv], h4⟩
theorem k_name1 (w : World) : Calls Try.prog 29 #[.string ⟨#[95, 97, 49]⟩] w fun e w' => e = .returned (.bool true) ∧ w = w' :=
  (name_any ⟨#[95, 97, 49]⟩ (by decide) w).mono fun _ _ h => ⟨h.1.trans (congrArg (fun b => Ending.returned (.bool b)) (by decide)), h.2⟩
theorem k_name2 (w : World) : Calls Try.prog 29 #[.string ⟨#[49, 97]⟩] w fun e w' => e = .returned (.bool false) ∧ w = w' :=
  (name_any ⟨#[49, 97]⟩ (by decide) w).mono fun _ _ h => ⟨h.1.trans (congrArg (fun b => Ending.returned (.bool b)) (by decide)), h.2⟩
theorem k_compare (w : World) : Calls Try.prog 19 #[.string ⟨#[97]⟩, .string ⟨#[97, 98]⟩] w fun e w' => e = .returned (.int .i64 (-1)) ∧ w = w' :=
  (compare_any ⟨#[97]⟩ ⟨#[97, 98]⟩ w).mono fun _ _ h => ⟨h.1.trans (congrArg (fun i => Ending.returned (.int .i64 i)) (by decide)), h.2⟩
end Go.Proofs.Ytkpdjpplcejjiaa
