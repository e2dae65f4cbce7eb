/-
  No cell of these rows narrows 'for every input' (looked for: loops, veiled, ifaces, maps, wideKeys, modest, calm, conditions, laid).
  DERIVED. THE GIVEN ROWS OF THIS SEAT. 4 by the template 'for every input the law returns true; each argument reads behind the call as it read before'; 0 by the template 'total and deterministic' (their statements: YtcipilggddpnpaaTotals.lean).
  GIVEN WITH THE SEED: the statements are not yours to turn. If you find one false, say at which input.
  Laid BY PROGRAM, IN A SANDBOX (cutbox-rows.mjs): the forced cells as the released guide's own fill.sh prints them over the translation 8a371c442719358e… (all of the seat's roots in one cut). By AI agents, Wed Nov 11 2026. No macro, syntax, notation, axiom, sorry.
-/
import Derived.Test.YtcipilggddpnpaaChecked
import GoSem.Claim
import GoSem.ClaimJoined
import GoSem.ClaimMapViews
import Derived.JoinedTies
import Derived.KernelRfl
namespace Go.Proofs.Ytcipilggddpnpaa
/- THE CELL 'sum', in the pinned program and in every row, IS THE sha256 OF THE DUMP (.gsa) THAT YtcipilggddpnpaaProg.lean LOADS. Nothing in Lean hashes anything: it is a label: what it is worth is what the hold of that sum in a sandbox is worth. -/
noncomputable def Try.pinned : Pinned := { name := "ytcipilggddpnpaa", sum := "8a371c442719358e81c79ec91012916b9d8474ab53acf06c1f128ce0ef7f4b37", checked := Try.checked }
namespace Rows
def none {H : Type} : Left H := { results := [], args := [] }

/-- 'metronomelaw03.HeapDrops': WHATEVER THE INPUT: true; the input reads as it did. -/
def heapDropsSpec : ChangeSpec := { name := "heapDrops", fn := fun _ => fun
  | [d1, d2] => { results := [.lit (.bool true)], args := [d1, d2] }
  | _ => none }
def heapDropsRow : OpenClaim := { program := "ytcipilggddpnpaa", sum := "8a371c442719358e81c79ec91012916b9d8474ab53acf06c1f128ce0ef7f4b37", func := "metronome/metronomelaw03.HeapDrops", spec := "heapDrops", unfollowed := true, recurses := true, apart := false }
def HeapDropsSaid : Prop := heapDropsRow.holds Try.pinned (OpenSpec.ofChange heapDropsSpec)

/-- ITS FALSE NEIGHBOUR: 'it returns false'. Refute it at one input. -/
def heapDropsWrong : ChangeSpec := { name := "heapDrops", fn := fun _ => fun
  | [d1, d2] => { results := [.lit (.bool false)], args := [d1, d2] }
  | _ => none }
def HeapDropsWrongFalsely : Prop := heapDropsRow.holds Try.pinned (OpenSpec.ofChange heapDropsWrong)

/-- 'metronomelaw04.ReadyParts': WHATEVER THE INPUT: true; the input reads as it did. -/
def readyPartsSpec : ChangeSpec := { name := "readyParts", fn := fun _ => fun
  | [d1, d2, d3] => { results := [.lit (.bool true)], args := [d1, d2, d3] }
  | _ => none }
def readyPartsRow : OpenClaim := { program := "ytcipilggddpnpaa", sum := "8a371c442719358e81c79ec91012916b9d8474ab53acf06c1f128ce0ef7f4b37", func := "metronome/metronomelaw04.ReadyParts", spec := "readyParts", unfollowed := true, recurses := true, apart := false }
def ReadyPartsSaid : Prop := readyPartsRow.holds Try.pinned (OpenSpec.ofChange readyPartsSpec)

/-- ITS FALSE NEIGHBOUR: 'it returns false'. Refute it at one input. -/
def readyPartsWrong : ChangeSpec := { name := "readyParts", fn := fun _ => fun
  | [d1, d2, d3] => { results := [.lit (.bool false)], args := [d1, d2, d3] }
  | _ => none }
def ReadyPartsWrongFalsely : Prop := readyPartsRow.holds Try.pinned (OpenSpec.ofChange readyPartsWrong)

/-- 'metronomelaw04.ReadyOrder': WHATEVER THE INPUT: true; the input reads as it did. -/
def readyOrderSpec : ChangeSpec := { name := "readyOrder", fn := fun _ => fun
  | [d1, d2, d3] => { results := [.lit (.bool true)], args := [d1, d2, d3] }
  | _ => none }
def readyOrderRow : OpenClaim := { program := "ytcipilggddpnpaa", sum := "8a371c442719358e81c79ec91012916b9d8474ab53acf06c1f128ce0ef7f4b37", func := "metronome/metronomelaw04.ReadyOrder", spec := "readyOrder", unfollowed := true, recurses := true, apart := false }
def ReadyOrderSaid : Prop := readyOrderRow.holds Try.pinned (OpenSpec.ofChange readyOrderSpec)

/-- ITS FALSE NEIGHBOUR: 'it returns false'. Refute it at one input. -/
def readyOrderWrong : ChangeSpec := { name := "readyOrder", fn := fun _ => fun
  | [d1, d2, d3] => { results := [.lit (.bool false)], args := [d1, d2, d3] }
  | _ => none }
def ReadyOrderWrongFalsely : Prop := readyOrderRow.holds Try.pinned (OpenSpec.ofChange readyOrderWrong)

/-- 'metronomelaw04.ReadyUntil': WHATEVER THE INPUT: true; the input reads as it did. -/
def readyUntilSpec : ChangeSpec := { name := "readyUntil", fn := fun _ => fun
  | [d1, d2] => { results := [.lit (.bool true)], args := [d1, d2] }
  | _ => none }
def readyUntilRow : OpenClaim := { program := "ytcipilggddpnpaa", sum := "8a371c442719358e81c79ec91012916b9d8474ab53acf06c1f128ce0ef7f4b37", func := "metronome/metronomelaw04.ReadyUntil", spec := "readyUntil", unfollowed := true, recurses := true, apart := false }
def ReadyUntilSaid : Prop := readyUntilRow.holds Try.pinned (OpenSpec.ofChange readyUntilSpec)

/-- ITS FALSE NEIGHBOUR: 'it returns false'. Refute it at one input. -/
def readyUntilWrong : ChangeSpec := { name := "readyUntil", fn := fun _ => fun
  | [d1, d2] => { results := [.lit (.bool false)], args := [d1, d2] }
  | _ => none }
def ReadyUntilWrongFalsely : Prop := readyUntilRow.holds Try.pinned (OpenSpec.ofChange readyUntilWrong)

/- THE SECOND FORM. 'bulk': how many values and letters a reading holds, each counted each time it is reached (what is shared counts as often as it is met; a slice's spare places count too). A statement '..UptoSaid' is the law's where the arguments, and the package variables that the reading takes, are together of bulk at most 1048576: NARROWER than '..Said'. Prove '..Said' where nothing that the law and all that it calls make is longer than what came in: it says more and counts as full. Else prove '..UptoSaid'. A law counts once. -/
mutual
def uptoBulk {H : Type} : DataW H → Nat
  | .lit (.string bytes) => bytes.length + 1
  | .lit _ => 1
  | .nil => 1
  | .ptr d => uptoBulk d + 1
  | .slice elems spare => uptoBulkAll elems + uptoBulkAll spare + 1
  | .agg parts => uptoBulkAll parts + 1
  | .iface _ d => uptoBulk d + 1
  | .map entries => uptoBulkEntries entries + 1
  | .held _ => 1
def uptoBulkAll {H : Type} : List (DataW H) → Nat
  | [] => 0
  | d :: r => uptoBulk d + uptoBulkAll r
def uptoBulkEntries {H : Type} : List (Lit × DataW H) → Nat
  | [] => 0
  | x :: r => uptoBulkEntry x + uptoBulkEntries r
def uptoBulkEntry {H : Type} : Lit × DataW H → Nat
  | (.string bytes, d) => bytes.length + uptoBulk d + 1
  | (_, d) => uptoBulk d + 1
 end
def uptoSmall : (H : Type) → List (DataW H) → Bool := fun _ ds => decide (uptoBulkAll ds ≤ 1048576)
def OpenSpec.upto (s : _root_.Go.ChangeSpec) : _root_.Go.OpenSpec := { _root_.Go.OpenSpec.ofChange s with cond := some uptoSmall }

/-- 'metronomelaw03.HeapDrops', WHERE WHAT IT READS IS OF BULK AT MOST 1048576: true; the input reads as it did. -/
def heapDropsUptoRow : OpenClaim := { program := "ytcipilggddpnpaa", sum := "8a371c442719358e81c79ec91012916b9d8474ab53acf06c1f128ce0ef7f4b37", func := "metronome/metronomelaw03.HeapDrops", spec := "heapDrops", unfollowed := true, recurses := true, apart := false, narrowed := true }
def HeapDropsUptoSaid : Prop := heapDropsUptoRow.holds Try.pinned (OpenSpec.upto heapDropsSpec)

/-- 'metronomelaw04.ReadyParts', WHERE WHAT IT READS IS OF BULK AT MOST 1048576: true; the input reads as it did. -/
def readyPartsUptoRow : OpenClaim := { program := "ytcipilggddpnpaa", sum := "8a371c442719358e81c79ec91012916b9d8474ab53acf06c1f128ce0ef7f4b37", func := "metronome/metronomelaw04.ReadyParts", spec := "readyParts", unfollowed := true, recurses := true, apart := false, narrowed := true }
def ReadyPartsUptoSaid : Prop := readyPartsUptoRow.holds Try.pinned (OpenSpec.upto readyPartsSpec)

/-- 'metronomelaw04.ReadyOrder', WHERE WHAT IT READS IS OF BULK AT MOST 1048576: true; the input reads as it did. -/
def readyOrderUptoRow : OpenClaim := { program := "ytcipilggddpnpaa", sum := "8a371c442719358e81c79ec91012916b9d8474ab53acf06c1f128ce0ef7f4b37", func := "metronome/metronomelaw04.ReadyOrder", spec := "readyOrder", unfollowed := true, recurses := true, apart := false, narrowed := true }
def ReadyOrderUptoSaid : Prop := readyOrderUptoRow.holds Try.pinned (OpenSpec.upto readyOrderSpec)

/-- 'metronomelaw04.ReadyUntil', WHERE WHAT IT READS IS OF BULK AT MOST 1048576: true; the input reads as it did. -/
def readyUntilUptoRow : OpenClaim := { program := "ytcipilggddpnpaa", sum := "8a371c442719358e81c79ec91012916b9d8474ab53acf06c1f128ce0ef7f4b37", func := "metronome/metronomelaw04.ReadyUntil", spec := "readyUntil", unfollowed := true, recurses := true, apart := false, narrowed := true }
def ReadyUntilUptoSaid : Prop := readyUntilUptoRow.holds Try.pinned (OpenSpec.upto readyUntilSpec)

end Rows
end Go.Proofs.Ytcipilggddpnpaa
