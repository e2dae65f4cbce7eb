/-
  timers.Queue: set.
-/
import Derived.Test.YtcipilggddpnpaaTa
import Derived.Test.YtcipilggddpnpaaLx
import Derived.Deep.RegionHeld3
namespace Go.Proofs.Ytcipilggddpnpaa
open Go.RowKit Go.Shelf Go.Maps
set_option linter.unusedVariables false
set_option linter.unusedSimpArgs false

/-- A key in a block of its own, known whole. -/
def B2 (W : World) (b : Nat) (x y : Int) : Prop := W.heap[b]? = some (.cells #[.int .i64 x, .int .i64 y] 37 (0, 0))
theorem B2.lt {W : World} {b : Nat} {x y : Int} (h : B2 W b x y) : b < W.heap.size := (Array.getElem?_eq_some_iff.1 h).1
theorem B2.cells {W : World} {b : Nat} {x y : Int} (h : B2 W b x y) : W.cell? ⟨b, 0, none⟩ = some (.int .i64 x) ∧ W.cell? ⟨b, 1, none⟩ = some (.int .i64 y) := by
  unfold B2 at h
  refine ⟨?_, ?_⟩ <;> simp [World.cell?, h]
theorem B2.thaw {W : World} {b : Nat} {x y : Int} (h : B2 W b x y) : W.frozen? ⟨b, 0, none⟩ = false ∧ W.frozen? ⟨b, 1, none⟩ = false := by
  unfold B2 at h
  refine ⟨?_, ?_⟩ <;> simp [World.frozen?, h]
theorem B2.next {W W' : World} {b : Nat} {x y : Int} (h : B2 W b x y) (hb : Below W.heap.size W W') : B2 W' b x y := (hb.block b h.lt).trans h
theorem B2.start (w : World) (x y : Int) : B2 (w.alloc (.cells #[.int .i64 x, .int .i64 y] 37)) w.heap.size x y := by
  unfold B2
  show (w.heap.push _)[w.heap.size]? = _
  simp
theorem B2.alloc {W : World} {b : Nat} {x y : Int} (h : B2 W b x y) (o : Obj) : B2 (W.alloc o) b x y := h.next ((Below.refl _ _).alloc (Nat.le_refl _) _)
theorem B2.set {W : World} {b : Nat} {x y : Int} (h : B2 W b x y) (x' y' : Int) : B2 ((W.setCell ⟨b, 0, none⟩ (.int .i64 x')).setCell ⟨b, 1, none⟩ (.int .i64 y')) b x' y' := by
  unfold B2 at h ⊢
  simp [World.setCell, Array.getElem?_modify, h]
theorem B2.far {W : World} {b c : Nat} {x y : Int} (h : B2 W b x y) (hc : b ≠ c) (o : Nat) (v : Value) : B2 (W.setCell ⟨c, o, none⟩ v) b x y := by
  unfold B2 at h ⊢
  rw [Below.heap_setCell _ _ _ _ hc]
  exact h
theorem B2.kept {W W' : World} {b : Nat} {x y : Int} {S : Nat → Prop} (h : B2 W b x y) (k : Kept S W W') (hs : ¬ S b) : B2 W' b x y := (k.block b h.lt hs).trans h
theorem kept_lies {S : Nat → Prop} {W W' : World} (h : Below W.heap.size W W') : Kept S W W' := ⟨h.os, h.tape, h.output, h.size, fun k hk _ => h.block k hk⟩
theorem LeftQ.lies {B : Nat} {w w' : World} {q : QB} {L : List Ent} (h : Qs B w q L) (b : Below w.heap.size w w') : LeftQ B w w' q q L :=
  ⟨h.kept (kept_lies (S := fun _ => False) b) (fun _ _ x => x), ⟨rfl, rfl⟩, kept_lies b, fun _ x => .inl x⟩
theorem below_da (V : World) (o : Obj) : Below V.heap.size V (V.drew.alloc o) := (show Below V.heap.size V V.drew from ⟨rfl, rfl, rfl, Nat.le_refl _, fun _ _ => rfl⟩).alloc (Nat.le_refl _) o
theorem b2_da (V : World) (x y : Int) : B2 (V.drew.alloc (.cells #[.int .i64 x, .int .i64 y] 37)) V.heap.size x y := B2.start V.drew x y
theorem keep1' {W W' : World} {p : Addr} {v : Value} (h : W.cell? p = some v) (hb : Below W.heap.size W W') : W'.cell? p = some v := by
  rcases Nat.lt_or_ge p.block W.heap.size with hlt | hge
  · rw [hb.cell hlt]; exact h
  · simp [World.cell?, Array.getElem?_eq_none hge] at h
theorem keep3 {W W' : World} {p1 p2 p3 : Addr} {v1 v2 v3 : Value} (h : W.cell? p1 = some v1 ∧ W.cell? p2 = some v2 ∧ W.cell? p3 = some v3) (hb : Below W.heap.size W W') : W'.cell? p1 = some v1 ∧ W'.cell? p2 = some v2 ∧ W'.cell? p3 = some v3 :=
  ⟨keep1' h.1 hb, keep1' h.2.1 hb, keep1' h.2.2 hb⟩
end Go.Proofs.Ytcipilggddpnpaa
