/-
  No cell of these rows narrows 'for every input' (looked for: loops, veiled, ifaces, maps, wideKeys, modest, calm, conditions, laid).
  DERIVED. THE GIVEN ROWS OF THIS SEAT. 7 by the template 'for every input the law returns true; each argument reads behind the call as it read before'; 0 by the template 'total and deterministic' (their statements: YtipdjjgpcmbpdaaTotals.lean).
  GIVEN WITH THE SEED: the statements are not yours to turn. If you find one false, say at which input.
  Laid BY PROGRAM, IN A SANDBOX (cutbox-rows.mjs): the forced cells as the released guide's own fill.sh prints them over the translation cc634a7f3cd7bdd1… (all of the seat's roots in one cut). By AI agents, Wed Nov 11 2026. No macro, syntax, notation, axiom, sorry.
-/
import Derived.Test.YtipdjjgpcmbpdaaChecked
import GoSem.Claim
import GoSem.ClaimJoined
import GoSem.ClaimMapViews
import Derived.JoinedTies
import Derived.KernelRfl
namespace Go.Proofs.Ytipdjjgpcmbpdaa
/- THE CELL 'sum', in the pinned program and in every row, IS THE sha256 OF THE DUMP (.gsa) THAT YtipdjjgpcmbpdaaProg.lean LOADS. Nothing in Lean hashes anything: it is a label: what it is worth is what the hold of that sum in a sandbox is worth. -/
noncomputable def Try.pinned : Pinned := { name := "ytipdjjgpcmbpdaa", sum := "cc634a7f3cd7bdd1851de34676e126309324a64fa83d87167272a3a326d7c54b", checked := Try.checked }
namespace Rows
def none {H : Type} : Left H := { results := [], args := [] }

/-- 'dreylaw05.TablePlays': WHATEVER THE INPUT: true; the input reads as it did. -/
def tablePlaysSpec : ChangeSpec := { name := "tablePlays", fn := fun _ => fun
  | [d] => { results := [.lit (.bool true)], args := [d] }
  | _ => none }
def tablePlaysRow : OpenClaim := { program := "ytipdjjgpcmbpdaa", sum := "cc634a7f3cd7bdd1851de34676e126309324a64fa83d87167272a3a326d7c54b", func := "drey/dreylaw05.TablePlays", spec := "tablePlays", unfollowed := true, recurses := true, plainKeys := false, apart := false }
def TablePlaysSaid : Prop := tablePlaysRow.holds Try.pinned (OpenSpec.ofChange tablePlaysSpec)

/-- ITS FALSE NEIGHBOUR: 'it returns false'. Refute it at one input. -/
def tablePlaysWrong : ChangeSpec := { name := "tablePlays", fn := fun _ => fun
  | [d] => { results := [.lit (.bool false)], args := [d] }
  | _ => none }
def TablePlaysWrongFalsely : Prop := tablePlaysRow.holds Try.pinned (OpenSpec.ofChange tablePlaysWrong)

/-- 'dreylaw05.TableCursors': WHATEVER THE INPUT: true; the input reads as it did. -/
def tableCursorsSpec : ChangeSpec := { name := "tableCursors", fn := fun _ => fun
  | [d1, d2] => { results := [.lit (.bool true)], args := [d1, d2] }
  | _ => none }
def tableCursorsRow : OpenClaim := { program := "ytipdjjgpcmbpdaa", sum := "cc634a7f3cd7bdd1851de34676e126309324a64fa83d87167272a3a326d7c54b", func := "drey/dreylaw05.TableCursors", spec := "tableCursors", unfollowed := true, recurses := true, plainKeys := false, apart := false }
def TableCursorsSaid : Prop := tableCursorsRow.holds Try.pinned (OpenSpec.ofChange tableCursorsSpec)

/-- ITS FALSE NEIGHBOUR: 'it returns false'. Refute it at one input. -/
def tableCursorsWrong : ChangeSpec := { name := "tableCursors", fn := fun _ => fun
  | [d1, d2] => { results := [.lit (.bool false)], args := [d1, d2] }
  | _ => none }
def TableCursorsWrongFalsely : Prop := tableCursorsRow.holds Try.pinned (OpenSpec.ofChange tableCursorsWrong)

/-- 'dreylaw05.TableClones': WHATEVER THE INPUT: true; the input reads as it did. -/
def tableClonesSpec : ChangeSpec := { name := "tableClones", fn := fun _ => fun
  | [d1, d2] => { results := [.lit (.bool true)], args := [d1, d2] }
  | _ => none }
def tableClonesRow : OpenClaim := { program := "ytipdjjgpcmbpdaa", sum := "cc634a7f3cd7bdd1851de34676e126309324a64fa83d87167272a3a326d7c54b", func := "drey/dreylaw05.TableClones", spec := "tableClones", unfollowed := true, recurses := true, plainKeys := false, apart := false }
def TableClonesSaid : Prop := tableClonesRow.holds Try.pinned (OpenSpec.ofChange tableClonesSpec)

/-- ITS FALSE NEIGHBOUR: 'it returns false'. Refute it at one input. -/
def tableClonesWrong : ChangeSpec := { name := "tableClones", fn := fun _ => fun
  | [d1, d2] => { results := [.lit (.bool false)], args := [d1, d2] }
  | _ => none }
def TableClonesWrongFalsely : Prop := tableClonesRow.holds Try.pinned (OpenSpec.ofChange tableClonesWrong)

/-- 'dreylaw05.TableRoom': WHATEVER THE INPUT: true; the input reads as it did. -/
def tableRoomSpec : ChangeSpec := { name := "tableRoom", fn := fun _ => fun
  | [d1, d2] => { results := [.lit (.bool true)], args := [d1, d2] }
  | _ => none }
def tableRoomRow : OpenClaim := { program := "ytipdjjgpcmbpdaa", sum := "cc634a7f3cd7bdd1851de34676e126309324a64fa83d87167272a3a326d7c54b", func := "drey/dreylaw05.TableRoom", spec := "tableRoom", unfollowed := true, recurses := true, plainKeys := false, apart := false }
def TableRoomSaid : Prop := tableRoomRow.holds Try.pinned (OpenSpec.ofChange tableRoomSpec)

/-- ITS FALSE NEIGHBOUR: 'it returns false'. Refute it at one input. -/
def tableRoomWrong : ChangeSpec := { name := "tableRoom", fn := fun _ => fun
  | [d1, d2] => { results := [.lit (.bool false)], args := [d1, d2] }
  | _ => none }
def TableRoomWrongFalsely : Prop := tableRoomRow.holds Try.pinned (OpenSpec.ofChange tableRoomWrong)

/-- 'dreylaw06.HeapPlays': WHATEVER THE INPUT: true; the input reads as it did. -/
def heapPlaysSpec : ChangeSpec := { name := "heapPlays", fn := fun _ => fun
  | [d1, d2] => { results := [.lit (.bool true)], args := [d1, d2] }
  | _ => none }
def heapPlaysRow : OpenClaim := { program := "ytipdjjgpcmbpdaa", sum := "cc634a7f3cd7bdd1851de34676e126309324a64fa83d87167272a3a326d7c54b", func := "drey/dreylaw06.HeapPlays", spec := "heapPlays", unfollowed := true, recurses := true, plainKeys := false, apart := false }
def HeapPlaysSaid : Prop := heapPlaysRow.holds Try.pinned (OpenSpec.ofChange heapPlaysSpec)

/-- ITS FALSE NEIGHBOUR: 'it returns false'. Refute it at one input. -/
def heapPlaysWrong : ChangeSpec := { name := "heapPlays", fn := fun _ => fun
  | [d1, d2] => { results := [.lit (.bool false)], args := [d1, d2] }
  | _ => none }
def HeapPlaysWrongFalsely : Prop := heapPlaysRow.holds Try.pinned (OpenSpec.ofChange heapPlaysWrong)

/-- 'dreylaw06.HeapReached': WHATEVER THE INPUT: true; the input reads as it did. -/
def heapReachedSpec : ChangeSpec := { name := "heapReached", fn := fun _ => fun
  | [d1, d2] => { results := [.lit (.bool true)], args := [d1, d2] }
  | _ => none }
def heapReachedRow : OpenClaim := { program := "ytipdjjgpcmbpdaa", sum := "cc634a7f3cd7bdd1851de34676e126309324a64fa83d87167272a3a326d7c54b", func := "drey/dreylaw06.HeapReached", spec := "heapReached", unfollowed := true, recurses := true, plainKeys := false, apart := false }
def HeapReachedSaid : Prop := heapReachedRow.holds Try.pinned (OpenSpec.ofChange heapReachedSpec)

/-- ITS FALSE NEIGHBOUR: 'it returns false'. Refute it at one input. -/
def heapReachedWrong : ChangeSpec := { name := "heapReached", fn := fun _ => fun
  | [d1, d2] => { results := [.lit (.bool false)], args := [d1, d2] }
  | _ => none }
def HeapReachedWrongFalsely : Prop := heapReachedRow.holds Try.pinned (OpenSpec.ofChange heapReachedWrong)

/-- 'dreylaw06.HeapCells': WHATEVER THE INPUT: true; the input reads as it did. -/
def heapCellsSpec : ChangeSpec := { name := "heapCells", fn := fun _ => fun
  | [d1, d2] => { results := [.lit (.bool true)], args := [d1, d2] }
  | _ => none }
def heapCellsRow : OpenClaim := { program := "ytipdjjgpcmbpdaa", sum := "cc634a7f3cd7bdd1851de34676e126309324a64fa83d87167272a3a326d7c54b", func := "drey/dreylaw06.HeapCells", spec := "heapCells", unfollowed := true, recurses := true, plainKeys := false, apart := false }
def HeapCellsSaid : Prop := heapCellsRow.holds Try.pinned (OpenSpec.ofChange heapCellsSpec)

/-- ITS FALSE NEIGHBOUR: 'it returns false'. Refute it at one input. -/
def heapCellsWrong : ChangeSpec := { name := "heapCells", fn := fun _ => fun
  | [d1, d2] => { results := [.lit (.bool false)], args := [d1, d2] }
  | _ => none }
def HeapCellsWrongFalsely : Prop := heapCellsRow.holds Try.pinned (OpenSpec.ofChange heapCellsWrong)

/- THE SECOND FORM. 'bulk': how many values and letters a reading holds, each counted each time it is reached (what is shared counts as often as it is met; a slice's spare places count too). A statement '..UptoSaid' is the law's where the arguments, and the package variables that the reading takes, are together of bulk at most 1048576: NARROWER than '..Said'. Prove '..Said' where nothing that the law and all that it calls make is longer than what came in: it says more and counts as full. Else prove '..UptoSaid'. A law counts once. -/
mutual
def uptoBulk {H : Type} : DataW H → Nat
  | .lit (.string bytes) => bytes.length + 1
  | .lit _ => 1
  | .nil => 1
  | .ptr d => uptoBulk d + 1
  | .slice elems spare => uptoBulkAll elems + uptoBulkAll spare + 1
  | .agg parts => uptoBulkAll parts + 1
  | .iface _ d => uptoBulk d + 1
  | .map entries => uptoBulkEntries entries + 1
  | .held _ => 1
def uptoBulkAll {H : Type} : List (DataW H) → Nat
  | [] => 0
  | d :: r => uptoBulk d + uptoBulkAll r
def uptoBulkEntries {H : Type} : List (Lit × DataW H) → Nat
  | [] => 0
  | x :: r => uptoBulkEntry x + uptoBulkEntries r
def uptoBulkEntry {H : Type} : Lit × DataW H → Nat
  | (.string bytes, d) => bytes.length + uptoBulk d + 1
  | (_, d) => uptoBulk d + 1
 end
def uptoSmall : (H : Type) → List (DataW H) → Bool := fun _ ds => decide (uptoBulkAll ds ≤ 1048576)
def OpenSpec.upto (s : _root_.Go.ChangeSpec) : _root_.Go.OpenSpec := { _root_.Go.OpenSpec.ofChange s with cond := some uptoSmall }

/-- 'dreylaw05.TablePlays', WHERE WHAT IT READS IS OF BULK AT MOST 1048576: true; the input reads as it did. -/
def tablePlaysUptoRow : OpenClaim := { program := "ytipdjjgpcmbpdaa", sum := "cc634a7f3cd7bdd1851de34676e126309324a64fa83d87167272a3a326d7c54b", func := "drey/dreylaw05.TablePlays", spec := "tablePlays", unfollowed := true, recurses := true, plainKeys := false, apart := false, narrowed := true }
def TablePlaysUptoSaid : Prop := tablePlaysUptoRow.holds Try.pinned (OpenSpec.upto tablePlaysSpec)

/-- 'dreylaw05.TableCursors', WHERE WHAT IT READS IS OF BULK AT MOST 1048576: true; the input reads as it did. -/
def tableCursorsUptoRow : OpenClaim := { program := "ytipdjjgpcmbpdaa", sum := "cc634a7f3cd7bdd1851de34676e126309324a64fa83d87167272a3a326d7c54b", func := "drey/dreylaw05.TableCursors", spec := "tableCursors", unfollowed := true, recurses := true, plainKeys := false, apart := false, narrowed := true }
def TableCursorsUptoSaid : Prop := tableCursorsUptoRow.holds Try.pinned (OpenSpec.upto tableCursorsSpec)

/-- 'dreylaw05.TableClones', WHERE WHAT IT READS IS OF BULK AT MOST 1048576: true; the input reads as it did. -/
def tableClonesUptoRow : OpenClaim := { program := "ytipdjjgpcmbpdaa", sum := "cc634a7f3cd7bdd1851de34676e126309324a64fa83d87167272a3a326d7c54b", func := "drey/dreylaw05.TableClones", spec := "tableClones", unfollowed := true, recurses := true, plainKeys := false, apart := false, narrowed := true }
def TableClonesUptoSaid : Prop := tableClonesUptoRow.holds Try.pinned (OpenSpec.upto tableClonesSpec)

/-- 'dreylaw05.TableRoom', WHERE WHAT IT READS IS OF BULK AT MOST 1048576: true; the input reads as it did. -/
def tableRoomUptoRow : OpenClaim := { program := "ytipdjjgpcmbpdaa", sum := "cc634a7f3cd7bdd1851de34676e126309324a64fa83d87167272a3a326d7c54b", func := "drey/dreylaw05.TableRoom", spec := "tableRoom", unfollowed := true, recurses := true, plainKeys := false, apart := false, narrowed := true }
def TableRoomUptoSaid : Prop := tableRoomUptoRow.holds Try.pinned (OpenSpec.upto tableRoomSpec)

/-- 'dreylaw06.HeapPlays', WHERE WHAT IT READS IS OF BULK AT MOST 1048576: true; the input reads as it did. -/
def heapPlaysUptoRow : OpenClaim := { program := "ytipdjjgpcmbpdaa", sum := "cc634a7f3cd7bdd1851de34676e126309324a64fa83d87167272a3a326d7c54b", func := "drey/dreylaw06.HeapPlays", spec := "heapPlays", unfollowed := true, recurses := true, plainKeys := false, apart := false, narrowed := true }
def HeapPlaysUptoSaid : Prop := heapPlaysUptoRow.holds Try.pinned (OpenSpec.upto heapPlaysSpec)

/-- 'dreylaw06.HeapReached', WHERE WHAT IT READS IS OF BULK AT MOST 1048576: true; the input reads as it did. -/
def heapReachedUptoRow : OpenClaim := { program := "ytipdjjgpcmbpdaa", sum := "cc634a7f3cd7bdd1851de34676e126309324a64fa83d87167272a3a326d7c54b", func := "drey/dreylaw06.HeapReached", spec := "heapReached", unfollowed := true, recurses := true, plainKeys := false, apart := false, narrowed := true }
def HeapReachedUptoSaid : Prop := heapReachedUptoRow.holds Try.pinned (OpenSpec.upto heapReachedSpec)

/-- 'dreylaw06.HeapCells', WHERE WHAT IT READS IS OF BULK AT MOST 1048576: true; the input reads as it did. -/
def heapCellsUptoRow : OpenClaim := { program := "ytipdjjgpcmbpdaa", sum := "cc634a7f3cd7bdd1851de34676e126309324a64fa83d87167272a3a326d7c54b", func := "drey/dreylaw06.HeapCells", spec := "heapCells", unfollowed := true, recurses := true, plainKeys := false, apart := false, narrowed := true }
def HeapCellsUptoSaid : Prop := heapCellsUptoRow.holds Try.pinned (OpenSpec.upto heapCellsSpec)

end Rows
end Go.Proofs.Ytipdjjgpcmbpdaa
