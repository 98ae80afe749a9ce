/-
  No cell of these rows narrows 'for every input' (looked for: loops, veiled, ifaces, maps, wideKeys, modest, calm, conditions, laid).
  DERIVED. THE GIVEN ROWS OF THIS SEAT. 5 by the template 'for every input the law returns true; each argument reads behind the call as it read before'; 0 by the template 'total and deterministic' (their statements: YtaonojimpfhkfaaTotals.lean).
  GIVEN WITH THE SEED: the statements are not yours to turn. If you find one false, say at which input.
  Laid BY PROGRAM, IN A SANDBOX (cutbox-rows.mjs): the forced cells as the released guide's own fill.sh prints them over the translation 7c2cecc0ac417359… (all of the seat's roots in one cut). By AI agents, Wed Nov 11 2026. No macro, syntax, notation, axiom, sorry.
-/
import Derived.Test.YtaonojimpfhkfaaChecked
import GoSem.Claim
import GoSem.ClaimJoined
import GoSem.ClaimMapViews
import Derived.JoinedTies
import Derived.KernelRfl
namespace Go.Proofs.Ytaonojimpfhkfaa
/- THE CELL 'sum', in the pinned program and in every row, IS THE sha256 OF THE DUMP (.gsa) THAT YtaonojimpfhkfaaProg.lean LOADS. Nothing in Lean hashes anything: it is a label: what it is worth is what the hold of that sum in a sandbox is worth. -/
noncomputable def Try.pinned : Pinned := { name := "ytaonojimpfhkfaa", sum := "7c2cecc0ac417359c09c3be4cfc764d0f86d80f2742640522d0535a62cdefa47", checked := Try.checked }
namespace Rows
def none {H : Type} : Left H := { results := [], args := [] }

/-- 'dreylaw09.AstChecks': WHATEVER THE INPUT: true; the input reads as it did. -/
def astChecksSpec : ChangeSpec := { name := "astChecks", fn := fun _ => fun
  | [d] => { results := [.lit (.bool true)], args := [d] }
  | _ => none }
def astChecksRow : OpenClaim := { program := "ytaonojimpfhkfaa", sum := "7c2cecc0ac417359c09c3be4cfc764d0f86d80f2742640522d0535a62cdefa47", func := "drey/dreylaw09.AstChecks", spec := "astChecks", inPlace := ["internal/bytealg.IndexByteString", "internal/bytealg.IndexString"], unfollowed := true, recurses := true, named := ["internal/bytealg.MaxLen"], apart := false }
def AstChecksSaid : Prop := astChecksRow.holds Try.pinned (OpenSpec.ofChange astChecksSpec)

/-- ITS FALSE NEIGHBOUR: 'it returns false'. Refute it at one input. -/
def astChecksWrong : ChangeSpec := { name := "astChecks", fn := fun _ => fun
  | [d] => { results := [.lit (.bool false)], args := [d] }
  | _ => none }
def AstChecksWrongFalsely : Prop := astChecksRow.holds Try.pinned (OpenSpec.ofChange astChecksWrong)

/-- 'dreylaw09.AstBuilds': WHATEVER THE INPUT: true; the input reads as it did. -/
def astBuildsSpec : ChangeSpec := { name := "astBuilds", fn := fun _ => fun
  | [d] => { results := [.lit (.bool true)], args := [d] }
  | _ => none }
def astBuildsRow : OpenClaim := { program := "ytaonojimpfhkfaa", sum := "7c2cecc0ac417359c09c3be4cfc764d0f86d80f2742640522d0535a62cdefa47", func := "drey/dreylaw09.AstBuilds", spec := "astBuilds", inPlace := ["internal/bytealg.IndexByteString", "internal/bytealg.IndexString"], unfollowed := true, recurses := true, named := ["internal/bytealg.MaxLen"], apart := false }
def AstBuildsSaid : Prop := astBuildsRow.holds Try.pinned (OpenSpec.ofChange astBuildsSpec)

/-- ITS FALSE NEIGHBOUR: 'it returns false'. Refute it at one input. -/
def astBuildsWrong : ChangeSpec := { name := "astBuilds", fn := fun _ => fun
  | [d] => { results := [.lit (.bool false)], args := [d] }
  | _ => none }
def AstBuildsWrongFalsely : Prop := astBuildsRow.holds Try.pinned (OpenSpec.ofChange astBuildsWrong)

/-- 'dreylaw09.AstSame': WHATEVER THE INPUT: true; the input reads as it did. -/
def astSameSpec : ChangeSpec := { name := "astSame", fn := fun _ => fun
  | [d1, d2, d3] => { results := [.lit (.bool true)], args := [d1, d2, d3] }
  | _ => none }
def astSameRow : OpenClaim := { program := "ytaonojimpfhkfaa", sum := "7c2cecc0ac417359c09c3be4cfc764d0f86d80f2742640522d0535a62cdefa47", func := "drey/dreylaw09.AstSame", spec := "astSame", inPlace := ["internal/bytealg.IndexByteString", "internal/bytealg.IndexString"], unfollowed := true, recurses := true, named := ["internal/bytealg.MaxLen"], apart := false }
def AstSameSaid : Prop := astSameRow.holds Try.pinned (OpenSpec.ofChange astSameSpec)

/-- ITS FALSE NEIGHBOUR: 'it returns false'. Refute it at one input. -/
def astSameWrong : ChangeSpec := { name := "astSame", fn := fun _ => fun
  | [d1, d2, d3] => { results := [.lit (.bool false)], args := [d1, d2, d3] }
  | _ => none }
def AstSameWrongFalsely : Prop := astSameRow.holds Try.pinned (OpenSpec.ofChange astSameWrong)

/-- 'dreylaw09.AstEach': WHATEVER THE INPUT: true; the input reads as it did. -/
def astEachSpec : ChangeSpec := { name := "astEach", fn := fun _ => fun
  | [d1, d2] => { results := [.lit (.bool true)], args := [d1, d2] }
  | _ => none }
def astEachRow : OpenClaim := { program := "ytaonojimpfhkfaa", sum := "7c2cecc0ac417359c09c3be4cfc764d0f86d80f2742640522d0535a62cdefa47", func := "drey/dreylaw09.AstEach", spec := "astEach", inPlace := ["internal/bytealg.IndexByteString", "internal/bytealg.IndexString"], unfollowed := true, recurses := true, named := ["internal/bytealg.MaxLen"], apart := false }
def AstEachSaid : Prop := astEachRow.holds Try.pinned (OpenSpec.ofChange astEachSpec)

/-- ITS FALSE NEIGHBOUR: 'it returns false'. Refute it at one input. -/
def astEachWrong : ChangeSpec := { name := "astEach", fn := fun _ => fun
  | [d1, d2] => { results := [.lit (.bool false)], args := [d1, d2] }
  | _ => none }
def AstEachWrongFalsely : Prop := astEachRow.holds Try.pinned (OpenSpec.ofChange astEachWrong)

/-- 'dreylaw09.AstKinds': WHATEVER THE INPUT: true; the input reads as it did. -/
def astKindsSpec : ChangeSpec := { name := "astKinds", fn := fun _ => fun
  | [d1, d2] => { results := [.lit (.bool true)], args := [d1, d2] }
  | _ => none }
def astKindsRow : OpenClaim := { program := "ytaonojimpfhkfaa", sum := "7c2cecc0ac417359c09c3be4cfc764d0f86d80f2742640522d0535a62cdefa47", func := "drey/dreylaw09.AstKinds", spec := "astKinds", inPlace := ["internal/bytealg.IndexByteString", "internal/bytealg.IndexString"], unfollowed := true, recurses := true, named := ["internal/bytealg.MaxLen"], apart := false }
def AstKindsSaid : Prop := astKindsRow.holds Try.pinned (OpenSpec.ofChange astKindsSpec)

/-- ITS FALSE NEIGHBOUR: 'it returns false'. Refute it at one input. -/
def astKindsWrong : ChangeSpec := { name := "astKinds", fn := fun _ => fun
  | [d1, d2] => { results := [.lit (.bool false)], args := [d1, d2] }
  | _ => none }
def AstKindsWrongFalsely : Prop := astKindsRow.holds Try.pinned (OpenSpec.ofChange astKindsWrong)

/- THE SECOND FORM. 'bulk': how many values and letters a reading holds, each counted each time it is reached (what is shared counts as often as it is met; a slice's spare places count too). A statement '..UptoSaid' is the law's where the arguments, and the package variables that the reading takes, are together of bulk at most 1048576: NARROWER than '..Said'. Prove '..Said' where nothing that the law and all that it calls make is longer than what came in: it says more and counts as full. Else prove '..UptoSaid'. A law counts once. -/
mutual
def uptoBulk {H : Type} : DataW H → Nat
  | .lit (.string bytes) => bytes.length + 1
  | .lit _ => 1
  | .nil => 1
  | .ptr d => uptoBulk d + 1
  | .slice elems spare => uptoBulkAll elems + uptoBulkAll spare + 1
  | .agg parts => uptoBulkAll parts + 1
  | .iface _ d => uptoBulk d + 1
  | .map entries => uptoBulkEntries entries + 1
  | .held _ => 1
def uptoBulkAll {H : Type} : List (DataW H) → Nat
  | [] => 0
  | d :: r => uptoBulk d + uptoBulkAll r
def uptoBulkEntries {H : Type} : List (Lit × DataW H) → Nat
  | [] => 0
  | x :: r => uptoBulkEntry x + uptoBulkEntries r
def uptoBulkEntry {H : Type} : Lit × DataW H → Nat
  | (.string bytes, d) => bytes.length + uptoBulk d + 1
  | (_, d) => uptoBulk d + 1
 end
def uptoSmall : (H : Type) → List (DataW H) → Bool := fun _ ds => decide (uptoBulkAll ds ≤ 1048576)
def OpenSpec.upto (s : _root_.Go.ChangeSpec) : _root_.Go.OpenSpec := { _root_.Go.OpenSpec.ofChange s with cond := some uptoSmall }

/-- 'dreylaw09.AstChecks', WHERE WHAT IT READS IS OF BULK AT MOST 1048576: true; the input reads as it did. -/
def astChecksUptoRow : OpenClaim := { program := "ytaonojimpfhkfaa", sum := "7c2cecc0ac417359c09c3be4cfc764d0f86d80f2742640522d0535a62cdefa47", func := "drey/dreylaw09.AstChecks", spec := "astChecks", inPlace := ["internal/bytealg.IndexByteString", "internal/bytealg.IndexString"], unfollowed := true, recurses := true, named := ["internal/bytealg.MaxLen"], apart := false, narrowed := true }
def AstChecksUptoSaid : Prop := astChecksUptoRow.holds Try.pinned (OpenSpec.upto astChecksSpec)

/-- 'dreylaw09.AstBuilds', WHERE WHAT IT READS IS OF BULK AT MOST 1048576: true; the input reads as it did. -/
def astBuildsUptoRow : OpenClaim := { program := "ytaonojimpfhkfaa", sum := "7c2cecc0ac417359c09c3be4cfc764d0f86d80f2742640522d0535a62cdefa47", func := "drey/dreylaw09.AstBuilds", spec := "astBuilds", inPlace := ["internal/bytealg.IndexByteString", "internal/bytealg.IndexString"], unfollowed := true, recurses := true, named := ["internal/bytealg.MaxLen"], apart := false, narrowed := true }
def AstBuildsUptoSaid : Prop := astBuildsUptoRow.holds Try.pinned (OpenSpec.upto astBuildsSpec)

/-- 'dreylaw09.AstSame', WHERE WHAT IT READS IS OF BULK AT MOST 1048576: true; the input reads as it did. -/
def astSameUptoRow : OpenClaim := { program := "ytaonojimpfhkfaa", sum := "7c2cecc0ac417359c09c3be4cfc764d0f86d80f2742640522d0535a62cdefa47", func := "drey/dreylaw09.AstSame", spec := "astSame", inPlace := ["internal/bytealg.IndexByteString", "internal/bytealg.IndexString"], unfollowed := true, recurses := true, named := ["internal/bytealg.MaxLen"], apart := false, narrowed := true }
def AstSameUptoSaid : Prop := astSameUptoRow.holds Try.pinned (OpenSpec.upto astSameSpec)

/-- 'dreylaw09.AstEach', WHERE WHAT IT READS IS OF BULK AT MOST 1048576: true; the input reads as it did. -/
def astEachUptoRow : OpenClaim := { program := "ytaonojimpfhkfaa", sum := "7c2cecc0ac417359c09c3be4cfc764d0f86d80f2742640522d0535a62cdefa47", func := "drey/dreylaw09.AstEach", spec := "astEach", inPlace := ["internal/bytealg.IndexByteString", "internal/bytealg.IndexString"], unfollowed := true, recurses := true, named := ["internal/bytealg.MaxLen"], apart := false, narrowed := true }
def AstEachUptoSaid : Prop := astEachUptoRow.holds Try.pinned (OpenSpec.upto astEachSpec)

/-- 'dreylaw09.AstKinds', WHERE WHAT IT READS IS OF BULK AT MOST 1048576: true; the input reads as it did. -/
def astKindsUptoRow : OpenClaim := { program := "ytaonojimpfhkfaa", sum := "7c2cecc0ac417359c09c3be4cfc764d0f86d80f2742640522d0535a62cdefa47", func := "drey/dreylaw09.AstKinds", spec := "astKinds", inPlace := ["internal/bytealg.IndexByteString", "internal/bytealg.IndexString"], unfollowed := true, recurses := true, named := ["internal/bytealg.MaxLen"], apart := false, narrowed := true }
def AstKindsUptoSaid : Prop := astKindsUptoRow.holds Try.pinned (OpenSpec.upto astKindsSpec)

end Rows
end Go.Proofs.Ytaonojimpfhkfaa
