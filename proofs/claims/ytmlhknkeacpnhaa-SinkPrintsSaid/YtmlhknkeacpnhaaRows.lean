/-
  No cell of these rows narrows 'for every input' (looked for: loops, veiled, ifaces, maps, wideKeys, modest, calm, conditions, laid).
  DERIVED. THE GIVEN ROWS OF THIS SEAT. 5 by the template 'for every input the law returns true; each argument reads behind the call as it read before'; 0 by the template 'total and deterministic' (their statements: YtmlhknkeacpnhaaTotals.lean).
  GIVEN WITH THE SEED: the statements are not yours to turn. If you find one false, say at which input.
  Laid BY PROGRAM, IN A SANDBOX (cutbox-rows.mjs): the forced cells as the released guide's own fill.sh prints them over the translation 78890f6f5616fb64… (all of the seat's roots in one cut). By AI agents, Wed Nov 11 2026. No macro, syntax, notation, axiom, sorry.
-/
import Derived.Test.YtmlhknkeacpnhaaChecked
import GoSem.Claim
import GoSem.ClaimJoined
import GoSem.ClaimMapViews
import Derived.JoinedTies
import Derived.KernelRfl
namespace Go.Proofs.Ytmlhknkeacpnhaa
/- THE CELL 'sum', in the pinned program and in every row, IS THE sha256 OF THE DUMP (.gsa) THAT YtmlhknkeacpnhaaProg.lean LOADS. Nothing in Lean hashes anything: it is a label: what it is worth is what the hold of that sum in a sandbox is worth. -/
noncomputable def Try.pinned : Pinned := { name := "ytmlhknkeacpnhaa", sum := "78890f6f5616fb6438c89903fa11f23b6557227cf385df4179efd153d82533b5", checked := Try.checked }
namespace Rows
def none {H : Type} : Left H := { results := [], args := [] }

/-- 'dreylaw07.SinkPrints': WHATEVER THE INPUT: true; the input reads as it did. -/
def sinkPrintsSpec : ChangeSpec := { name := "sinkPrints", fn := fun _ => fun
  | [d1, d2] => { results := [.lit (.bool true)], args := [d1, d2] }
  | _ => none }
def sinkPrintsRow : OpenClaim := { program := "ytmlhknkeacpnhaa", sum := "78890f6f5616fb6438c89903fa11f23b6557227cf385df4179efd153d82533b5", func := "drey/dreylaw07.SinkPrints", spec := "sinkPrints", inPlace := ["internal/bytealg.IndexByteString", "internal/bytealg.IndexString"], named := ["internal/bytealg.MaxLen"], apart := false }
def SinkPrintsSaid : Prop := sinkPrintsRow.holds Try.pinned (OpenSpec.ofChange sinkPrintsSpec)

/-- ITS FALSE NEIGHBOUR: 'it returns false'. Refute it at one input. -/
def sinkPrintsWrong : ChangeSpec := { name := "sinkPrints", fn := fun _ => fun
  | [d1, d2] => { results := [.lit (.bool false)], args := [d1, d2] }
  | _ => none }
def SinkPrintsWrongFalsely : Prop := sinkPrintsRow.holds Try.pinned (OpenSpec.ofChange sinkPrintsWrong)

/-- 'dreylaw07.SinkLines': WHATEVER THE INPUT: true; the input reads as it did. -/
def sinkLinesSpec : ChangeSpec := { name := "sinkLines", fn := fun _ => fun
  | [d] => { results := [.lit (.bool true)], args := [d] }
  | _ => none }
def sinkLinesRow : OpenClaim := { program := "ytmlhknkeacpnhaa", sum := "78890f6f5616fb6438c89903fa11f23b6557227cf385df4179efd153d82533b5", func := "drey/dreylaw07.SinkLines", spec := "sinkLines", inPlace := ["internal/bytealg.IndexByteString", "internal/bytealg.IndexString"], named := ["internal/bytealg.MaxLen"], apart := false }
def SinkLinesSaid : Prop := sinkLinesRow.holds Try.pinned (OpenSpec.ofChange sinkLinesSpec)

/-- ITS FALSE NEIGHBOUR: 'it returns false'. Refute it at one input. -/
def sinkLinesWrong : ChangeSpec := { name := "sinkLines", fn := fun _ => fun
  | [d] => { results := [.lit (.bool false)], args := [d] }
  | _ => none }
def SinkLinesWrongFalsely : Prop := sinkLinesRow.holds Try.pinned (OpenSpec.ofChange sinkLinesWrong)

/-- 'dreylaw07.SinkReads': WHATEVER THE INPUT: true; the input reads as it did. -/
def sinkReadsSpec : ChangeSpec := { name := "sinkReads", fn := fun _ => fun
  | [d1, d2] => { results := [.lit (.bool true)], args := [d1, d2] }
  | _ => none }
def sinkReadsRow : OpenClaim := { program := "ytmlhknkeacpnhaa", sum := "78890f6f5616fb6438c89903fa11f23b6557227cf385df4179efd153d82533b5", func := "drey/dreylaw07.SinkReads", spec := "sinkReads", inPlace := ["internal/bytealg.IndexByteString", "internal/bytealg.IndexString"], named := ["internal/bytealg.MaxLen"], apart := false }
def SinkReadsSaid : Prop := sinkReadsRow.holds Try.pinned (OpenSpec.ofChange sinkReadsSpec)

/-- ITS FALSE NEIGHBOUR: 'it returns false'. Refute it at one input. -/
def sinkReadsWrong : ChangeSpec := { name := "sinkReads", fn := fun _ => fun
  | [d1, d2] => { results := [.lit (.bool false)], args := [d1, d2] }
  | _ => none }
def SinkReadsWrongFalsely : Prop := sinkReadsRow.holds Try.pinned (OpenSpec.ofChange sinkReadsWrong)

/-- 'dreylaw07.SinkBuilds': WHATEVER THE INPUT: true; the input reads as it did. -/
def sinkBuildsSpec : ChangeSpec := { name := "sinkBuilds", fn := fun _ => fun
  | [d1, d2] => { results := [.lit (.bool true)], args := [d1, d2] }
  | _ => none }
def sinkBuildsRow : OpenClaim := { program := "ytmlhknkeacpnhaa", sum := "78890f6f5616fb6438c89903fa11f23b6557227cf385df4179efd153d82533b5", func := "drey/dreylaw07.SinkBuilds", spec := "sinkBuilds", inPlace := ["internal/bytealg.IndexByteString", "internal/bytealg.IndexString", "internal/abi.NoEscape", "internal/bytealg.MakeNoZero"], named := ["internal/bytealg.MaxLen"], apart := false }
def SinkBuildsSaid : Prop := sinkBuildsRow.holds Try.pinned (OpenSpec.ofChange sinkBuildsSpec)

/-- ITS FALSE NEIGHBOUR: 'it returns false'. Refute it at one input. -/
def sinkBuildsWrong : ChangeSpec := { name := "sinkBuilds", fn := fun _ => fun
  | [d1, d2] => { results := [.lit (.bool false)], args := [d1, d2] }
  | _ => none }
def SinkBuildsWrongFalsely : Prop := sinkBuildsRow.holds Try.pinned (OpenSpec.ofChange sinkBuildsWrong)

/-- 'dreylaw07.SinkParts': WHATEVER THE INPUT: true; the input reads as it did. -/
def sinkPartsSpec : ChangeSpec := { name := "sinkParts", fn := fun _ => fun
  | [d] => { results := [.lit (.bool true)], args := [d] }
  | _ => none }
def sinkPartsRow : OpenClaim := { program := "ytmlhknkeacpnhaa", sum := "78890f6f5616fb6438c89903fa11f23b6557227cf385df4179efd153d82533b5", func := "drey/dreylaw07.SinkParts", spec := "sinkParts", inPlace := ["internal/bytealg.IndexByteString", "internal/bytealg.IndexString"], named := ["internal/bytealg.MaxLen"], apart := false }
def SinkPartsSaid : Prop := sinkPartsRow.holds Try.pinned (OpenSpec.ofChange sinkPartsSpec)

/-- ITS FALSE NEIGHBOUR: 'it returns false'. Refute it at one input. -/
def sinkPartsWrong : ChangeSpec := { name := "sinkParts", fn := fun _ => fun
  | [d] => { results := [.lit (.bool false)], args := [d] }
  | _ => none }
def SinkPartsWrongFalsely : Prop := sinkPartsRow.holds Try.pinned (OpenSpec.ofChange sinkPartsWrong)

/- THE SECOND FORM. 'bulk': how many values and letters a reading holds, each counted each time it is reached (what is shared counts as often as it is met; a slice's spare places count too). A statement '..UptoSaid' is the law's where the arguments, and the package variables that the reading takes, are together of bulk at most 1048576: NARROWER than '..Said'. Prove '..Said' where nothing that the law and all that it calls make is longer than what came in: it says more and counts as full. Else prove '..UptoSaid'. A law counts once. -/
mutual
def uptoBulk {H : Type} : DataW H → Nat
  | .lit (.string bytes) => bytes.length + 1
  | .lit _ => 1
  | .nil => 1
  | .ptr d => uptoBulk d + 1
  | .slice elems spare => uptoBulkAll elems + uptoBulkAll spare + 1
  | .agg parts => uptoBulkAll parts + 1
  | .iface _ d => uptoBulk d + 1
  | .map entries => uptoBulkEntries entries + 1
  | .held _ => 1
def uptoBulkAll {H : Type} : List (DataW H) → Nat
  | [] => 0
  | d :: r => uptoBulk d + uptoBulkAll r
def uptoBulkEntries {H : Type} : List (Lit × DataW H) → Nat
  | [] => 0
  | x :: r => uptoBulkEntry x + uptoBulkEntries r
def uptoBulkEntry {H : Type} : Lit × DataW H → Nat
  | (.string bytes, d) => bytes.length + uptoBulk d + 1
  | (_, d) => uptoBulk d + 1
 end
def uptoSmall : (H : Type) → List (DataW H) → Bool := fun _ ds => decide (uptoBulkAll ds ≤ 1048576)
def OpenSpec.upto (s : _root_.Go.ChangeSpec) : _root_.Go.OpenSpec := { _root_.Go.OpenSpec.ofChange s with cond := some uptoSmall }

/-- 'dreylaw07.SinkPrints', WHERE WHAT IT READS IS OF BULK AT MOST 1048576: true; the input reads as it did. -/
def sinkPrintsUptoRow : OpenClaim := { program := "ytmlhknkeacpnhaa", sum := "78890f6f5616fb6438c89903fa11f23b6557227cf385df4179efd153d82533b5", func := "drey/dreylaw07.SinkPrints", spec := "sinkPrints", inPlace := ["internal/bytealg.IndexByteString", "internal/bytealg.IndexString"], named := ["internal/bytealg.MaxLen"], apart := false, narrowed := true }
def SinkPrintsUptoSaid : Prop := sinkPrintsUptoRow.holds Try.pinned (OpenSpec.upto sinkPrintsSpec)

/-- 'dreylaw07.SinkLines', WHERE WHAT IT READS IS OF BULK AT MOST 1048576: true; the input reads as it did. -/
def sinkLinesUptoRow : OpenClaim := { program := "ytmlhknkeacpnhaa", sum := "78890f6f5616fb6438c89903fa11f23b6557227cf385df4179efd153d82533b5", func := "drey/dreylaw07.SinkLines", spec := "sinkLines", inPlace := ["internal/bytealg.IndexByteString", "internal/bytealg.IndexString"], named := ["internal/bytealg.MaxLen"], apart := false, narrowed := true }
def SinkLinesUptoSaid : Prop := sinkLinesUptoRow.holds Try.pinned (OpenSpec.upto sinkLinesSpec)

/-- 'dreylaw07.SinkReads', WHERE WHAT IT READS IS OF BULK AT MOST 1048576: true; the input reads as it did. -/
def sinkReadsUptoRow : OpenClaim := { program := "ytmlhknkeacpnhaa", sum := "78890f6f5616fb6438c89903fa11f23b6557227cf385df4179efd153d82533b5", func := "drey/dreylaw07.SinkReads", spec := "sinkReads", inPlace := ["internal/bytealg.IndexByteString", "internal/bytealg.IndexString"], named := ["internal/bytealg.MaxLen"], apart := false, narrowed := true }
def SinkReadsUptoSaid : Prop := sinkReadsUptoRow.holds Try.pinned (OpenSpec.upto sinkReadsSpec)

/-- 'dreylaw07.SinkBuilds', WHERE WHAT IT READS IS OF BULK AT MOST 1048576: true; the input reads as it did. -/
def sinkBuildsUptoRow : OpenClaim := { program := "ytmlhknkeacpnhaa", sum := "78890f6f5616fb6438c89903fa11f23b6557227cf385df4179efd153d82533b5", func := "drey/dreylaw07.SinkBuilds", spec := "sinkBuilds", inPlace := ["internal/bytealg.IndexByteString", "internal/bytealg.IndexString", "internal/abi.NoEscape", "internal/bytealg.MakeNoZero"], named := ["internal/bytealg.MaxLen"], apart := false, narrowed := true }
def SinkBuildsUptoSaid : Prop := sinkBuildsUptoRow.holds Try.pinned (OpenSpec.upto sinkBuildsSpec)

/-- 'dreylaw07.SinkParts', WHERE WHAT IT READS IS OF BULK AT MOST 1048576: true; the input reads as it did. -/
def sinkPartsUptoRow : OpenClaim := { program := "ytmlhknkeacpnhaa", sum := "78890f6f5616fb6438c89903fa11f23b6557227cf385df4179efd153d82533b5", func := "drey/dreylaw07.SinkParts", spec := "sinkParts", inPlace := ["internal/bytealg.IndexByteString", "internal/bytealg.IndexString"], named := ["internal/bytealg.MaxLen"], apart := false, narrowed := true }
def SinkPartsUptoSaid : Prop := sinkPartsUptoRow.holds Try.pinned (OpenSpec.upto sinkPartsSpec)

end Rows
end Go.Proofs.Ytmlhknkeacpnhaa
