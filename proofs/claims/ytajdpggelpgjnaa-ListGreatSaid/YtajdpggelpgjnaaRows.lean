/-
  No cell of these rows narrows 'for every input' (looked for: loops, veiled, ifaces, maps, wideKeys, modest, calm, conditions, laid).
  DERIVED. THE GIVEN ROWS OF THIS SEAT. 4 by the template 'for every input the law returns true; each argument reads behind the call as it read before'; 0 by the template 'total and deterministic' (their statements: YtajdpggelpgjnaaTotals.lean).
  GIVEN WITH THE SEED: the statements are not yours to turn. If you find one false, say at which input.
  Laid BY PROGRAM, IN A SANDBOX (cutbox-rows.mjs): the forced cells as the released guide's own fill.sh prints them over the translation d60086b0c74cac68… (all of the seat's roots in one cut). By AI agents, Wed Nov 11 2026. No macro, syntax, notation, axiom, sorry.
-/
import Derived.Test.YtajdpggelpgjnaaChecked
import GoSem.Claim
import GoSem.ClaimJoined
import GoSem.ClaimMapViews
import Derived.JoinedTies
import Derived.KernelRfl
namespace Go.Proofs.Ytajdpggelpgjnaa
/- THE CELL 'sum', in the pinned program and in every row, IS THE sha256 OF THE DUMP (.gsa) THAT YtajdpggelpgjnaaProg.lean LOADS. Nothing in Lean hashes anything: it is a label: what it is worth is what the hold of that sum in a sandbox is worth. -/
noncomputable def Try.pinned : Pinned := { name := "ytajdpggelpgjnaa", sum := "d60086b0c74cac682ee24b34ce55515fff24a6c9d0face6e34112c40d204ba18", checked := Try.checked }
namespace Rows
def none {H : Type} : Left H := { results := [], args := [] }

/-- 'dreylaw04.ListPlays': WHATEVER THE INPUT: true; the input reads as it did. -/
def listPlaysSpec : ChangeSpec := { name := "listPlays", fn := fun _ => fun
  | [d] => { results := [.lit (.bool true)], args := [d] }
  | _ => none }
def listPlaysRow : OpenClaim := { program := "ytajdpggelpgjnaa", sum := "d60086b0c74cac682ee24b34ce55515fff24a6c9d0face6e34112c40d204ba18", func := "drey/dreylaw04.ListPlays", spec := "listPlays", inPlace := ["slices.overlaps[drey/api.Value]"], apart := false }
def ListPlaysSaid : Prop := listPlaysRow.holds Try.pinned (OpenSpec.ofChange listPlaysSpec)

/-- ITS FALSE NEIGHBOUR: 'it returns false'. Refute it at one input. -/
def listPlaysWrong : ChangeSpec := { name := "listPlays", fn := fun _ => fun
  | [d] => { results := [.lit (.bool false)], args := [d] }
  | _ => none }
def ListPlaysWrongFalsely : Prop := listPlaysRow.holds Try.pinned (OpenSpec.ofChange listPlaysWrong)

/-- 'dreylaw04.ListSlices': WHATEVER THE INPUT: true; the input reads as it did. -/
def listSlicesSpec : ChangeSpec := { name := "listSlices", fn := fun _ => fun
  | [d1, d2, d3] => { results := [.lit (.bool true)], args := [d1, d2, d3] }
  | _ => none }
def listSlicesRow : OpenClaim := { program := "ytajdpggelpgjnaa", sum := "d60086b0c74cac682ee24b34ce55515fff24a6c9d0face6e34112c40d204ba18", func := "drey/dreylaw04.ListSlices", spec := "listSlices", inPlace := ["slices.overlaps[drey/api.Value]"], apart := false }
def ListSlicesSaid : Prop := listSlicesRow.holds Try.pinned (OpenSpec.ofChange listSlicesSpec)

/-- ITS FALSE NEIGHBOUR: 'it returns false'. Refute it at one input. -/
def listSlicesWrong : ChangeSpec := { name := "listSlices", fn := fun _ => fun
  | [d1, d2, d3] => { results := [.lit (.bool false)], args := [d1, d2, d3] }
  | _ => none }
def ListSlicesWrongFalsely : Prop := listSlicesRow.holds Try.pinned (OpenSpec.ofChange listSlicesWrong)

/-- 'dreylaw04.ListFinds': WHATEVER THE INPUT: true; the input reads as it did. -/
def listFindsSpec : ChangeSpec := { name := "listFinds", fn := fun _ => fun
  | [d1, d2] => { results := [.lit (.bool true)], args := [d1, d2] }
  | _ => none }
def listFindsRow : OpenClaim := { program := "ytajdpggelpgjnaa", sum := "d60086b0c74cac682ee24b34ce55515fff24a6c9d0face6e34112c40d204ba18", func := "drey/dreylaw04.ListFinds", spec := "listFinds", inPlace := ["slices.overlaps[drey/api.Value]"], apart := false }
def ListFindsSaid : Prop := listFindsRow.holds Try.pinned (OpenSpec.ofChange listFindsSpec)

/-- ITS FALSE NEIGHBOUR: 'it returns false'. Refute it at one input. -/
def listFindsWrong : ChangeSpec := { name := "listFinds", fn := fun _ => fun
  | [d1, d2] => { results := [.lit (.bool false)], args := [d1, d2] }
  | _ => none }
def ListFindsWrongFalsely : Prop := listFindsRow.holds Try.pinned (OpenSpec.ofChange listFindsWrong)

/-- 'dreylaw04.ListGreat': WHATEVER THE INPUT: true; the input reads as it did. -/
def listGreatSpec : ChangeSpec := { name := "listGreat", fn := fun _ => fun
  | [d] => { results := [.lit (.bool true)], args := [d] }
  | _ => none }
def listGreatRow : OpenClaim := { program := "ytajdpggelpgjnaa", sum := "d60086b0c74cac682ee24b34ce55515fff24a6c9d0face6e34112c40d204ba18", func := "drey/dreylaw04.ListGreat", spec := "listGreat", inPlace := ["slices.overlaps[drey/api.Value]"], apart := false }
def ListGreatSaid : Prop := listGreatRow.holds Try.pinned (OpenSpec.ofChange listGreatSpec)

/-- ITS FALSE NEIGHBOUR: 'it returns false'. Refute it at one input. -/
def listGreatWrong : ChangeSpec := { name := "listGreat", fn := fun _ => fun
  | [d] => { results := [.lit (.bool false)], args := [d] }
  | _ => none }
def ListGreatWrongFalsely : Prop := listGreatRow.holds Try.pinned (OpenSpec.ofChange listGreatWrong)

/- THE SECOND FORM. 'bulk': how many values and letters a reading holds, each counted each time it is reached (what is shared counts as often as it is met; a slice's spare places count too). A statement '..UptoSaid' is the law's where the arguments, and the package variables that the reading takes, are together of bulk at most 1048576: NARROWER than '..Said'. Prove '..Said' where nothing that the law and all that it calls make is longer than what came in: it says more and counts as full. Else prove '..UptoSaid'. A law counts once. -/
mutual
def uptoBulk {H : Type} : DataW H → Nat
  | .lit (.string bytes) => bytes.length + 1
  | .lit _ => 1
  | .nil => 1
  | .ptr d => uptoBulk d + 1
  | .slice elems spare => uptoBulkAll elems + uptoBulkAll spare + 1
  | .agg parts => uptoBulkAll parts + 1
  | .iface _ d => uptoBulk d + 1
  | .map entries => uptoBulkEntries entries + 1
  | .held _ => 1
def uptoBulkAll {H : Type} : List (DataW H) → Nat
  | [] => 0
  | d :: r => uptoBulk d + uptoBulkAll r
def uptoBulkEntries {H : Type} : List (Lit × DataW H) → Nat
  | [] => 0
  | x :: r => uptoBulkEntry x + uptoBulkEntries r
def uptoBulkEntry {H : Type} : Lit × DataW H → Nat
  | (.string bytes, d) => bytes.length + uptoBulk d + 1
  | (_, d) => uptoBulk d + 1
 end
def uptoSmall : (H : Type) → List (DataW H) → Bool := fun _ ds => decide (uptoBulkAll ds ≤ 1048576)
def OpenSpec.upto (s : _root_.Go.ChangeSpec) : _root_.Go.OpenSpec := { _root_.Go.OpenSpec.ofChange s with cond := some uptoSmall }

/-- 'dreylaw04.ListPlays', WHERE WHAT IT READS IS OF BULK AT MOST 1048576: true; the input reads as it did. -/
def listPlaysUptoRow : OpenClaim := { program := "ytajdpggelpgjnaa", sum := "d60086b0c74cac682ee24b34ce55515fff24a6c9d0face6e34112c40d204ba18", func := "drey/dreylaw04.ListPlays", spec := "listPlays", inPlace := ["slices.overlaps[drey/api.Value]"], apart := false, narrowed := true }
def ListPlaysUptoSaid : Prop := listPlaysUptoRow.holds Try.pinned (OpenSpec.upto listPlaysSpec)

/-- 'dreylaw04.ListSlices', WHERE WHAT IT READS IS OF BULK AT MOST 1048576: true; the input reads as it did. -/
def listSlicesUptoRow : OpenClaim := { program := "ytajdpggelpgjnaa", sum := "d60086b0c74cac682ee24b34ce55515fff24a6c9d0face6e34112c40d204ba18", func := "drey/dreylaw04.ListSlices", spec := "listSlices", inPlace := ["slices.overlaps[drey/api.Value]"], apart := false, narrowed := true }
def ListSlicesUptoSaid : Prop := listSlicesUptoRow.holds Try.pinned (OpenSpec.upto listSlicesSpec)

/-- 'dreylaw04.ListFinds', WHERE WHAT IT READS IS OF BULK AT MOST 1048576: true; the input reads as it did. -/
def listFindsUptoRow : OpenClaim := { program := "ytajdpggelpgjnaa", sum := "d60086b0c74cac682ee24b34ce55515fff24a6c9d0face6e34112c40d204ba18", func := "drey/dreylaw04.ListFinds", spec := "listFinds", inPlace := ["slices.overlaps[drey/api.Value]"], apart := false, narrowed := true }
def ListFindsUptoSaid : Prop := listFindsUptoRow.holds Try.pinned (OpenSpec.upto listFindsSpec)

/-- 'dreylaw04.ListGreat', WHERE WHAT IT READS IS OF BULK AT MOST 1048576: true; the input reads as it did. -/
def listGreatUptoRow : OpenClaim := { program := "ytajdpggelpgjnaa", sum := "d60086b0c74cac682ee24b34ce55515fff24a6c9d0face6e34112c40d204ba18", func := "drey/dreylaw04.ListGreat", spec := "listGreat", inPlace := ["slices.overlaps[drey/api.Value]"], apart := false, narrowed := true }
def ListGreatUptoSaid : Prop := listGreatUptoRow.holds Try.pinned (OpenSpec.upto listGreatSpec)

end Rows
end Go.Proofs.Ytajdpggelpgjnaa
