/-
  ReadyJoins: its walk.
-/
import Derived.Test.YtcipilggddpnpaaQk
namespace Go.Proofs.Ytcipilggddpnpaa
open Go.RowKit Go.Sort Go.Shelf Go.Maps
set_option linter.unusedVariables false
set_option linter.unusedSimpArgs false

/-- The row v holds the first j of l; all else as it was in W0. -/
def RowTo (W0 : World) (l : List Ent) (v : Value) (j : Nat) (W : World) : Prop := W.ownsRow W0.heap.size 37 2 v j (flatR (l.take j)) ∧ Kept (fun _ => False) W0 W
theorem RowTo.next {W0 W w2 : World} {l : List Ent} {v v2 : Value} {j : Nat} (h : RowTo W0 l v j W) (hj : j < l.length) (o : Obj)
    (ho : w2.ownsRow W0.heap.size 37 2 v2 (j + 1) (flatR (l.take j) ++ [.int .i64 (l.getD j (0, 0)).2, .int .i64 (l.getD j (0, 0)).1])) (hg : (W.alloc o).grownBy w2 v.ownBlock) : RowTo W0 l v2 (j + 1) w2 := by
  refine ⟨?_, (h.2.alloc o).grown hg (fun i e => .inr (own_block h.1 i e))⟩
  have : l.take (j + 1) = l.take j ++ [l.getD j (0, 0)] := by
    rw [List.take_add_one, List.getD_eq_getElem?_getD, List.getElem?_eq_getElem hj]; rfl
  rw [this, flatR_append]
  exact ho
theorem rev_getD {l : List Ent} {j : Nat} (hj : j < l.length) : l.reverse.getD j (0, 0) = l.getD (l.length - 1 - j) (0, 0) := by
  rw [List.getD_eq_getElem?_getD, List.getD_eq_getElem?_getD, List.getElem?_reverse hj]

/-- Three queues side by side. -/
structure Tri (B : Nat) (W : World) (qa qb qc : QB) (La Lb Lc : List Ent) : Prop where
  a : Qs B W qa La
  b : Qs B W qb Lb
  c : Qs B W qc Lc
  ab : Aside qa qb
  ac : Aside qa qc
  bc : Aside qb qc
theorem Tri.kept {B : Nat} {W W' : World} {qa qb qc : QB} {La Lb Lc : List Ent} (h : Tri B W qa qb qc La Lb Lc) (k : Kept (fun _ => False) W W') : Tri B W' qa qb qc La Lb Lc :=
  ⟨h.a.kept k (fun _ _ x => x), h.b.kept k (fun _ _ x => x), h.c.kept k (fun _ _ x => x), h.ab, h.ac, h.bc⟩
theorem Tri.turnA {B : Nat} {W W' : World} {qa qa' qb qc : QB} {La La' Lb Lc : List Ent} (h : Tri B W qa qb qc La Lb Lc) (l : LeftQ B W W' qa qa' La') : Tri B W' qa' qb qc La' Lb Lc :=
  ⟨l.queue, h.b.beside l h.ab, h.c.beside l h.ac, h.ab.left l h.b, h.ac.left l h.c, h.bc⟩
theorem Tri.turnB {B : Nat} {W W' : World} {qa qb qb' qc : QB} {La Lb Lb' Lc : List Ent} (h : Tri B W qa qb qc La Lb Lc) (l : LeftQ B W W' qb qb' Lb') : Tri B W' qa qb' qc La Lb' Lc :=
  ⟨h.a.beside l h.ab.symm, l.queue, h.c.beside l h.bc, (h.ab.symm.left l h.a).symm, h.ac, h.bc.left l h.c⟩
theorem Tri.turnC {B : Nat} {W W' : World} {qa qb qc qc' : QB} {La Lb Lc Lc' : List Ent} (h : Tri B W qa qb qc La Lb Lc) (l : LeftQ B W W' qc qc' Lc') : Tri B W' qa qb qc' La Lb Lc' :=
  ⟨h.a.beside l h.ac.symm, h.b.beside l h.bc.symm, l.queue, h.ab, (h.ac.symm.left l h.a).symm, (h.bc.symm.left l h.b).symm⟩

end Go.Proofs.Ytcipilggddpnpaa
