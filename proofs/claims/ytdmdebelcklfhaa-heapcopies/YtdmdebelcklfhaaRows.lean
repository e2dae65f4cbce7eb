/-
  No cell of these rows narrows 'for every input' (looked for: loops, veiled, ifaces, maps, wideKeys, modest, calm, conditions, laid).
  DERIVED. THE GIVEN ROWS OF THIS SEAT. 8 by the template 'for every input the law returns true; each argument reads behind the call as it read before'; 0 by the template 'total and deterministic' (their statements: YtdmdebelcklfhaaTotals.lean).
  GIVEN WITH THE SEED: the statements are not yours to turn. If you find one false, say at which input.
  Laid BY PROGRAM, IN A SANDBOX (cutbox-rows.mjs): the forced cells as the released guide's own fill.sh prints them over the translation c12d9ad0153e52ed… (all of the seat's roots in one cut). By AI agents, Wed Nov 11 2026. No macro, syntax, notation, axiom, sorry.
-/
import Derived.Test.YtdmdebelcklfhaaChecked
import GoSem.Claim
import GoSem.ClaimJoined
import GoSem.ClaimMapViews
import Derived.JoinedTies
import Derived.KernelRfl
namespace Go.Proofs.Ytdmdebelcklfhaa
/- THE CELL 'sum', in the pinned program and in every row, IS THE sha256 OF THE DUMP (.gsa) THAT YtdmdebelcklfhaaProg.lean LOADS. Nothing in Lean hashes anything: it is a label: what it is worth is what the hold of that sum in a sandbox is worth. -/
noncomputable def Try.pinned : Pinned := { name := "ytdmdebelcklfhaa", sum := "c12d9ad0153e52edcd1bf12dc87f424bf0950ecfe8cdb7188aeb781c32041d29", checked := Try.checked }
namespace Rows
def none {H : Type} : Left H := { results := [], args := [] }

/-- 'metronomelaw03.HeapPlays': WHATEVER THE INPUT: true; the input reads as it did. -/
def heapPlaysSpec : ChangeSpec := { name := "heapPlays", fn := fun _ => fun
  | [d] => { results := [.lit (.bool true)], args := [d] }
  | _ => none }
def heapPlaysRow : OpenClaim := { program := "ytdmdebelcklfhaa", sum := "c12d9ad0153e52edcd1bf12dc87f424bf0950ecfe8cdb7188aeb781c32041d29", func := "metronome/metronomelaw03.HeapPlays", spec := "heapPlays", unfollowed := true, recurses := true, apart := false }
def HeapPlaysSaid : Prop := heapPlaysRow.holds Try.pinned (OpenSpec.ofChange heapPlaysSpec)

/-- ITS FALSE NEIGHBOUR: 'it returns false'. Refute it at one input. -/
def heapPlaysWrong : ChangeSpec := { name := "heapPlays", fn := fun _ => fun
  | [d] => { results := [.lit (.bool false)], args := [d] }
  | _ => none }
def HeapPlaysWrongFalsely : Prop := heapPlaysRow.holds Try.pinned (OpenSpec.ofChange heapPlaysWrong)

/-- 'metronomelaw03.HeapCopies': WHATEVER THE INPUT: true; the input reads as it did. -/
def heapCopiesSpec : ChangeSpec := { name := "heapCopies", fn := fun _ => fun
  | [d1, d2] => { results := [.lit (.bool true)], args := [d1, d2] }
  | _ => none }
def heapCopiesRow : OpenClaim := { program := "ytdmdebelcklfhaa", sum := "c12d9ad0153e52edcd1bf12dc87f424bf0950ecfe8cdb7188aeb781c32041d29", func := "metronome/metronomelaw03.HeapCopies", spec := "heapCopies", unfollowed := true, recurses := true, apart := false }
def HeapCopiesSaid : Prop := heapCopiesRow.holds Try.pinned (OpenSpec.ofChange heapCopiesSpec)

/-- ITS FALSE NEIGHBOUR: 'it returns false'. Refute it at one input. -/
def heapCopiesWrong : ChangeSpec := { name := "heapCopies", fn := fun _ => fun
  | [d1, d2] => { results := [.lit (.bool false)], args := [d1, d2] }
  | _ => none }
def HeapCopiesWrongFalsely : Prop := heapCopiesRow.holds Try.pinned (OpenSpec.ofChange heapCopiesWrong)

/-- 'metronomelaw03.HeapTurns': WHATEVER THE INPUT: true; the input reads as it did. -/
def heapTurnsSpec : ChangeSpec := { name := "heapTurns", fn := fun _ => fun
  | [d1, d2] => { results := [.lit (.bool true)], args := [d1, d2] }
  | _ => none }
def heapTurnsRow : OpenClaim := { program := "ytdmdebelcklfhaa", sum := "c12d9ad0153e52edcd1bf12dc87f424bf0950ecfe8cdb7188aeb781c32041d29", func := "metronome/metronomelaw03.HeapTurns", spec := "heapTurns", unfollowed := true, recurses := true, apart := false }
def HeapTurnsSaid : Prop := heapTurnsRow.holds Try.pinned (OpenSpec.ofChange heapTurnsSpec)

/-- ITS FALSE NEIGHBOUR: 'it returns false'. Refute it at one input. -/
def heapTurnsWrong : ChangeSpec := { name := "heapTurns", fn := fun _ => fun
  | [d1, d2] => { results := [.lit (.bool false)], args := [d1, d2] }
  | _ => none }
def HeapTurnsWrongFalsely : Prop := heapTurnsRow.holds Try.pinned (OpenSpec.ofChange heapTurnsWrong)

/-- 'metronomelaw03.HeapDrops': WHATEVER THE INPUT: true; the input reads as it did. -/
def heapDropsSpec : ChangeSpec := { name := "heapDrops", fn := fun _ => fun
  | [d1, d2] => { results := [.lit (.bool true)], args := [d1, d2] }
  | _ => none }
def heapDropsRow : OpenClaim := { program := "ytdmdebelcklfhaa", sum := "c12d9ad0153e52edcd1bf12dc87f424bf0950ecfe8cdb7188aeb781c32041d29", func := "metronome/metronomelaw03.HeapDrops", spec := "heapDrops", unfollowed := true, recurses := true, apart := false }
def HeapDropsSaid : Prop := heapDropsRow.holds Try.pinned (OpenSpec.ofChange heapDropsSpec)

/-- ITS FALSE NEIGHBOUR: 'it returns false'. Refute it at one input. -/
def heapDropsWrong : ChangeSpec := { name := "heapDrops", fn := fun _ => fun
  | [d1, d2] => { results := [.lit (.bool false)], args := [d1, d2] }
  | _ => none }
def HeapDropsWrongFalsely : Prop := heapDropsRow.holds Try.pinned (OpenSpec.ofChange heapDropsWrong)

/-- 'metronomelaw04.ReadyParts': WHATEVER THE INPUT: true; the input reads as it did. -/
def readyPartsSpec : ChangeSpec := { name := "readyParts", fn := fun _ => fun
  | [d1, d2, d3] => { results := [.lit (.bool true)], args := [d1, d2, d3] }
  | _ => none }
def readyPartsRow : OpenClaim := { program := "ytdmdebelcklfhaa", sum := "c12d9ad0153e52edcd1bf12dc87f424bf0950ecfe8cdb7188aeb781c32041d29", func := "metronome/metronomelaw04.ReadyParts", spec := "readyParts", unfollowed := true, recurses := true, apart := false }
def ReadyPartsSaid : Prop := readyPartsRow.holds Try.pinned (OpenSpec.ofChange readyPartsSpec)

/-- ITS FALSE NEIGHBOUR: 'it returns false'. Refute it at one input. -/
def readyPartsWrong : ChangeSpec := { name := "readyParts", fn := fun _ => fun
  | [d1, d2, d3] => { results := [.lit (.bool false)], args := [d1, d2, d3] }
  | _ => none }
def ReadyPartsWrongFalsely : Prop := readyPartsRow.holds Try.pinned (OpenSpec.ofChange readyPartsWrong)

/-- 'metronomelaw04.ReadyOrder': WHATEVER THE INPUT: true; the input reads as it did. -/
def readyOrderSpec : ChangeSpec := { name := "readyOrder", fn := fun _ => fun
  | [d1, d2, d3] => { results := [.lit (.bool true)], args := [d1, d2, d3] }
  | _ => none }
def readyOrderRow : OpenClaim := { program := "ytdmdebelcklfhaa", sum := "c12d9ad0153e52edcd1bf12dc87f424bf0950ecfe8cdb7188aeb781c32041d29", func := "metronome/metronomelaw04.ReadyOrder", spec := "readyOrder", unfollowed := true, recurses := true, apart := false }
def ReadyOrderSaid : Prop := readyOrderRow.holds Try.pinned (OpenSpec.ofChange readyOrderSpec)

/-- ITS FALSE NEIGHBOUR: 'it returns false'. Refute it at one input. -/
def readyOrderWrong : ChangeSpec := { name := "readyOrder", fn := fun _ => fun
  | [d1, d2, d3] => { results := [.lit (.bool false)], args := [d1, d2, d3] }
  | _ => none }
def ReadyOrderWrongFalsely : Prop := readyOrderRow.holds Try.pinned (OpenSpec.ofChange readyOrderWrong)

/-- 'metronomelaw04.ReadyJoins': WHATEVER THE INPUT: true; the input reads as it did. -/
def readyJoinsSpec : ChangeSpec := { name := "readyJoins", fn := fun _ => fun
  | [d1, d2, d3] => { results := [.lit (.bool true)], args := [d1, d2, d3] }
  | _ => none }
def readyJoinsRow : OpenClaim := { program := "ytdmdebelcklfhaa", sum := "c12d9ad0153e52edcd1bf12dc87f424bf0950ecfe8cdb7188aeb781c32041d29", func := "metronome/metronomelaw04.ReadyJoins", spec := "readyJoins", unfollowed := true, recurses := true, apart := false }
def ReadyJoinsSaid : Prop := readyJoinsRow.holds Try.pinned (OpenSpec.ofChange readyJoinsSpec)

/-- ITS FALSE NEIGHBOUR: 'it returns false'. Refute it at one input. -/
def readyJoinsWrong : ChangeSpec := { name := "readyJoins", fn := fun _ => fun
  | [d1, d2, d3] => { results := [.lit (.bool false)], args := [d1, d2, d3] }
  | _ => none }
def ReadyJoinsWrongFalsely : Prop := readyJoinsRow.holds Try.pinned (OpenSpec.ofChange readyJoinsWrong)

/-- 'metronomelaw04.ReadyUntil': WHATEVER THE INPUT: true; the input reads as it did. -/
def readyUntilSpec : ChangeSpec := { name := "readyUntil", fn := fun _ => fun
  | [d1, d2] => { results := [.lit (.bool true)], args := [d1, d2] }
  | _ => none }
def readyUntilRow : OpenClaim := { program := "ytdmdebelcklfhaa", sum := "c12d9ad0153e52edcd1bf12dc87f424bf0950ecfe8cdb7188aeb781c32041d29", func := "metronome/metronomelaw04.ReadyUntil", spec := "readyUntil", unfollowed := true, recurses := true, apart := false }
def ReadyUntilSaid : Prop := readyUntilRow.holds Try.pinned (OpenSpec.ofChange readyUntilSpec)

/-- ITS FALSE NEIGHBOUR: 'it returns false'. Refute it at one input. -/
def readyUntilWrong : ChangeSpec := { name := "readyUntil", fn := fun _ => fun
  | [d1, d2] => { results := [.lit (.bool false)], args := [d1, d2] }
  | _ => none }
def ReadyUntilWrongFalsely : Prop := readyUntilRow.holds Try.pinned (OpenSpec.ofChange readyUntilWrong)

/- THE SECOND FORM. 'bulk': how many values and letters a reading holds, each counted each time it is reached (what is shared counts as often as it is met; a slice's spare places count too). A statement '..UptoSaid' is the law's where the arguments, and the package variables that the reading takes, are together of bulk at most 1048576: NARROWER than '..Said'. Prove '..Said' where nothing that the law and all that it calls make is longer than what came in: it says more and counts as full. Else prove '..UptoSaid'. A law counts once. -/
mutual
def uptoBulk {H : Type} : DataW H → Nat
  | .lit (.string bytes) => bytes.length + 1
  | .lit _ => 1
  | .nil => 1
  | .ptr d => uptoBulk d + 1
  | .slice elems spare => uptoBulkAll elems + uptoBulkAll spare + 1
  | .agg parts => uptoBulkAll parts + 1
  | .iface _ d => uptoBulk d + 1
  | .map entries => uptoBulkEntries entries + 1
  | .held _ => 1
def uptoBulkAll {H : Type} : List (DataW H) → Nat
  | [] => 0
  | d :: r => uptoBulk d + uptoBulkAll r
def uptoBulkEntries {H : Type} : List (Lit × DataW H) → Nat
  | [] => 0
  | x :: r => uptoBulkEntry x + uptoBulkEntries r
def uptoBulkEntry {H : Type} : Lit × DataW H → Nat
  | (.string bytes, d) => bytes.length + uptoBulk d + 1
  | (_, d) => uptoBulk d + 1
 end
def uptoSmall : (H : Type) → List (DataW H) → Bool := fun _ ds => decide (uptoBulkAll ds ≤ 1048576)
def OpenSpec.upto (s : _root_.Go.ChangeSpec) : _root_.Go.OpenSpec := { _root_.Go.OpenSpec.ofChange s with cond := some uptoSmall }

/-- 'metronomelaw03.HeapPlays', WHERE WHAT IT READS IS OF BULK AT MOST 1048576: true; the input reads as it did. -/
def heapPlaysUptoRow : OpenClaim := { program := "ytdmdebelcklfhaa", sum := "c12d9ad0153e52edcd1bf12dc87f424bf0950ecfe8cdb7188aeb781c32041d29", func := "metronome/metronomelaw03.HeapPlays", spec := "heapPlays", unfollowed := true, recurses := true, apart := false, narrowed := true }
def HeapPlaysUptoSaid : Prop := heapPlaysUptoRow.holds Try.pinned (OpenSpec.upto heapPlaysSpec)

/-- 'metronomelaw03.HeapCopies', WHERE WHAT IT READS IS OF BULK AT MOST 1048576: true; the input reads as it did. -/
def heapCopiesUptoRow : OpenClaim := { program := "ytdmdebelcklfhaa", sum := "c12d9ad0153e52edcd1bf12dc87f424bf0950ecfe8cdb7188aeb781c32041d29", func := "metronome/metronomelaw03.HeapCopies", spec := "heapCopies", unfollowed := true, recurses := true, apart := false, narrowed := true }
def HeapCopiesUptoSaid : Prop := heapCopiesUptoRow.holds Try.pinned (OpenSpec.upto heapCopiesSpec)

/-- 'metronomelaw03.HeapTurns', WHERE WHAT IT READS IS OF BULK AT MOST 1048576: true; the input reads as it did. -/
def heapTurnsUptoRow : OpenClaim := { program := "ytdmdebelcklfhaa", sum := "c12d9ad0153e52edcd1bf12dc87f424bf0950ecfe8cdb7188aeb781c32041d29", func := "metronome/metronomelaw03.HeapTurns", spec := "heapTurns", unfollowed := true, recurses := true, apart := false, narrowed := true }
def HeapTurnsUptoSaid : Prop := heapTurnsUptoRow.holds Try.pinned (OpenSpec.upto heapTurnsSpec)

/-- 'metronomelaw03.HeapDrops', WHERE WHAT IT READS IS OF BULK AT MOST 1048576: true; the input reads as it did. -/
def heapDropsUptoRow : OpenClaim := { program := "ytdmdebelcklfhaa", sum := "c12d9ad0153e52edcd1bf12dc87f424bf0950ecfe8cdb7188aeb781c32041d29", func := "metronome/metronomelaw03.HeapDrops", spec := "heapDrops", unfollowed := true, recurses := true, apart := false, narrowed := true }
def HeapDropsUptoSaid : Prop := heapDropsUptoRow.holds Try.pinned (OpenSpec.upto heapDropsSpec)

/-- 'metronomelaw04.ReadyParts', WHERE WHAT IT READS IS OF BULK AT MOST 1048576: true; the input reads as it did. -/
def readyPartsUptoRow : OpenClaim := { program := "ytdmdebelcklfhaa", sum := "c12d9ad0153e52edcd1bf12dc87f424bf0950ecfe8cdb7188aeb781c32041d29", func := "metronome/metronomelaw04.ReadyParts", spec := "readyParts", unfollowed := true, recurses := true, apart := false, narrowed := true }
def ReadyPartsUptoSaid : Prop := readyPartsUptoRow.holds Try.pinned (OpenSpec.upto readyPartsSpec)

/-- 'metronomelaw04.ReadyOrder', WHERE WHAT IT READS IS OF BULK AT MOST 1048576: true; the input reads as it did. -/
def readyOrderUptoRow : OpenClaim := { program := "ytdmdebelcklfhaa", sum := "c12d9ad0153e52edcd1bf12dc87f424bf0950ecfe8cdb7188aeb781c32041d29", func := "metronome/metronomelaw04.ReadyOrder", spec := "readyOrder", unfollowed := true, recurses := true, apart := false, narrowed := true }
def ReadyOrderUptoSaid : Prop := readyOrderUptoRow.holds Try.pinned (OpenSpec.upto readyOrderSpec)

/-- 'metronomelaw04.ReadyJoins', WHERE WHAT IT READS IS OF BULK AT MOST 1048576: true; the input reads as it did. -/
def readyJoinsUptoRow : OpenClaim := { program := "ytdmdebelcklfhaa", sum := "c12d9ad0153e52edcd1bf12dc87f424bf0950ecfe8cdb7188aeb781c32041d29", func := "metronome/metronomelaw04.ReadyJoins", spec := "readyJoins", unfollowed := true, recurses := true, apart := false, narrowed := true }
def ReadyJoinsUptoSaid : Prop := readyJoinsUptoRow.holds Try.pinned (OpenSpec.upto readyJoinsSpec)

/-- 'metronomelaw04.ReadyUntil', WHERE WHAT IT READS IS OF BULK AT MOST 1048576: true; the input reads as it did. -/
def readyUntilUptoRow : OpenClaim := { program := "ytdmdebelcklfhaa", sum := "c12d9ad0153e52edcd1bf12dc87f424bf0950ecfe8cdb7188aeb781c32041d29", func := "metronome/metronomelaw04.ReadyUntil", spec := "readyUntil", unfollowed := true, recurses := true, apart := false, narrowed := true }
def ReadyUntilUptoSaid : Prop := readyUntilUptoRow.holds Try.pinned (OpenSpec.upto readyUntilSpec)

end Rows
end Go.Proofs.Ytdmdebelcklfhaa
