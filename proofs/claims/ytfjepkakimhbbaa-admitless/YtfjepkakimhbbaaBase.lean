/-
  Words for numbers of 64 bits, and for slices of them that came in.
-/
import Derived.WalkKit
namespace Go.Proofs.Ytfjepkakimhbbaa
open Go.RowKit

/-- A slice of ints that reads as a list. -/
def RowI (w : World) (a : Option Addr) (zs : List Int) : Prop :=
  zs = [] ∨ ∃ g o, a = some ⟨g, o, none⟩ ∧ g < w.heap.size ∧ ∀ i, i < zs.length → w.cell? ⟨g, o + i, none⟩ = some (.int .i64 (zs.getD i 0))
def Is64 (n : Int) : Prop := -9223372036854775808 ≤ n ∧ n ≤ 9223372036854775807
end Go.Proofs.Ytfjepkakimhbbaa
