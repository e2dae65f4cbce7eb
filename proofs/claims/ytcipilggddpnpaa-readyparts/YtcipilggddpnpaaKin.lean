/-
  What a block's cells are of: two things of different types lie in different blocks. The reference's heap is kept where no block of its types turns.
-/
import Derived.Test.YtcipilggddpnpaaRfD
namespace Go.Proofs.Ytcipilggddpnpaa
open Go.RowKit Go.Sort Go.Shelf Go.Maps
set_option linter.unusedVariables false

/-- What type a block's cells are of. -/
def tyOf : Obj → Option TypeId
  | .cells _ t _ => some t
  | _ => none

theorem RefIs.kept {B : Nat} {w w' : World} {rf : Nat} {L : List Ent} {S : Nat → Prop} (h : RefIs B w rf L) (k : Kept S w w') (hs : ∀ b o, S b → w.heap[b]? = some o → tyOf o ≠ some 48 ∧ tyOf o ≠ some 37) : RefIs B w' rf L := by
  obtain ⟨a, cap, h1, h2⟩ := h
  refine ⟨a, cap, (k.block rf (Array.getElem?_eq_some_iff.1 h1).1 (fun s => (hs rf _ s h1).1 rfl)).trans h1, own_kept h2 (fun g e => ?_)⟩
  refine k.block g (own_lt h2 g e) (fun s => ?_)
  rcases h2.2 with ⟨e2, _⟩ | ⟨g', c, cur, e2, _, h3, _⟩
  · rw [e2] at e; cases e
  · rw [e2] at e
    cases e
    exact (hs _ _ s h3).2 rfl
end Go.Proofs.Ytcipilggddpnpaa
