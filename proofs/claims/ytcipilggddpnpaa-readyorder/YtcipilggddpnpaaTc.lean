/-
  timers.Queue: set as one contract; Arm.
-/
import Derived.Test.YtcipilggddpnpaaTb
namespace Go.Proofs.Ytcipilggddpnpaa
open Go.RowKit Go.Shelf Go.Maps
set_option linter.unusedVariables false
set_option linter.unusedSimpArgs false

/-- What is armed behind an Arm that is taken. -/
def armL (L : List Ent) (x : Ent) : List Ent := x :: L.filter (fun y => y.1 != x.1)
/-- There is room for it, or it is armed. -/
def Room (m : Int) (L : List Ent) (id : Int) : Prop := (∃ y ∈ L, y.1 = id) ∨ (L.length : Int) < m

theorem filter_all {L : List Ent} {id : Int} (h : ∀ y ∈ L, y.1 ≠ id) : L.filter (fun y => y.1 != id) = L := List.filter_eq_self.2 fun y hy => by simpa using h y hy
theorem any_no {L : List Ent} {id : Int} (h : ∀ y ∈ L, y.1 ≠ id) : L.any (fun y => y.1 == id) = false := by
  rw [List.any_eq_false]
  intro y hy
  simpa using h y hy

theorem armL_diff {L : List Ent} {x : Ent} (hd : L.Pairwise (fun x y => x.1 ≠ y.1)) : (armL L x).Pairwise (fun x y => x.1 ≠ y.1) :=
  List.pairwise_cons.2 ⟨fun y hy => by have := (List.mem_filter.1 hy).2; simp at this; exact fun e => this e.symm, hd.filter _⟩
end Go.Proofs.Ytcipilggddpnpaa
