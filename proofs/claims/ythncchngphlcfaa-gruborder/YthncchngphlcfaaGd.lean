/-
  Blocks of three numbers, known whole.
-/
import Derived.Test.YthncchngphlcfaaGc
namespace Go.Proofs.Ythncchngphlcfaa
open Go.RowKit
set_option linter.unusedVariables false
set_option linter.unusedSimpArgs false

/-- A block of three numbers, known whole. -/
def B3 (W : World) (b : Nat) (T : TypeId) (x y z : Int) : Prop := W.heap[b]? = some (.cells #[.int .i64 x, .int .i64 y, .int .i64 z] T (0, 0))
theorem B3.lt {W : World} {b : Nat} {T : TypeId} {x y z : Int} (h : B3 W b T x y z) : b < W.heap.size := (Array.getElem?_eq_some_iff.1 h).1
theorem B3.cells {W : World} {b : Nat} {T : TypeId} {x y z : Int} (h : B3 W b T x y z) : W.cell? ⟨b, 0, none⟩ = some (.int .i64 x) ∧ W.cell? ⟨b, 1, none⟩ = some (.int .i64 y) ∧ W.cell? ⟨b, 2, none⟩ = some (.int .i64 z) := by
  unfold B3 at h
  refine ⟨?_, ?_, ?_⟩ <;> simp [World.cell?, h]
theorem B3.thaw {W : World} {b : Nat} {T : TypeId} {x y z : Int} (h : B3 W b T x y z) : W.frozen? ⟨b, 0, none⟩ = false ∧ W.frozen? ⟨b, 1, none⟩ = false ∧ W.frozen? ⟨b, 2, none⟩ = false := by
  unfold B3 at h
  refine ⟨?_, ?_, ?_⟩ <;> simp [World.frozen?, h]
theorem B3.next {W W' : World} {b : Nat} {T : TypeId} {x y z : Int} (h : B3 W b T x y z) (hb : Below W.heap.size W W') : B3 W' b T x y z := (hb.block b h.lt).trans h
theorem B3.start (w : World) (T : TypeId) (x y z : Int) : B3 (w.alloc (.cells #[.int .i64 x, .int .i64 y, .int .i64 z] T)) w.heap.size T x y z := by
  unfold B3
  show (w.heap.push _)[w.heap.size]? = _
  simp
theorem B3.alloc {W : World} {b : Nat} {T : TypeId} {x y z : Int} (h : B3 W b T x y z) (o : Obj) : B3 (W.alloc o) b T x y z := h.next ((Below.refl _ _).alloc (Nat.le_refl _) _)

theorem B3.set {W : World} {b : Nat} {T : TypeId} {x y z : Int} (h : B3 W b T x y z) (x' y' z' : Int) : B3 (((W.setCell ⟨b, 0, none⟩ (.int .i64 x')).setCell ⟨b, 1, none⟩ (.int .i64 y')).setCell ⟨b, 2, none⟩ (.int .i64 z')) b T x' y' z' := by
  unfold B3 at h ⊢
  simp [World.setCell, Array.getElem?_modify, h]
theorem B3.far {W : World} {b c : Nat} {T : TypeId} {x y z : Int} (h : B3 W b T x y z) (hc : b ≠ c) (o : Nat) (v : Value) : B3 (W.setCell ⟨c, o, none⟩ v) b T x y z := by
  unfold B3 at h ⊢
  rw [Below.heap_setCell _ _ _ _ hc]
  exact h
theorem B3.set0 {W : World} {b : Nat} {T : TypeId} {x y z : Int} (h : B3 W b T x y z) (x' : Int) : B3 (W.setCell ⟨b, 0, none⟩ (.int .i64 x')) b T x' y z := by
  unfold B3 at h ⊢
  simp [World.setCell, Array.getElem?_modify, h]
theorem B3.set1 {W : World} {b : Nat} {T : TypeId} {x y z : Int} (h : B3 W b T x y z) (y' : Int) : B3 (W.setCell ⟨b, 1, none⟩ (.int .i64 y')) b T x y' z := by
  unfold B3 at h ⊢
  simp [World.setCell, Array.getElem?_modify, h]
end Go.Proofs.Ythncchngphlcfaa
