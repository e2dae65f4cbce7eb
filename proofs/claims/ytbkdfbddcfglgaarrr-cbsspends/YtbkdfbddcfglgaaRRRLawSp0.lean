/-
  The walk of CbsSpends, what its parts share.
-/
import Derived.Test.YtbkdfbddcfglgaaRRRLawCOrder
import Derived.Test.YtbkdfbddcfglgaaRRRLxA
namespace Go.Proofs.YtbkdfbddcfglgaaRRR
open Go.RowKit
set_option linter.unusedVariables false
set_option linter.unusedSimpArgs false

theorem Two3.far3 {w W : World} {T T' : TypeId} {a b c x y z : Int} (h : Two3 w W T T' a b c x y z) {k : Nat} (hk : w.heap.size + 1 < k) (u v r : Value) : Two3 w (((W.setCell ⟨k, 0, none⟩ u).setCell ⟨k, 1, none⟩ v).setCell ⟨k, 2, none⟩ r) T T' a b c x y z :=
  ⟨((h.1.setCell (by show w.heap.size ≤ k; omega) _).setCell (by show w.heap.size ≤ k; omega) _).setCell (by show w.heap.size ≤ k; omega) _, ((h.2.1.far (by omega) _ _).far (by omega) _ _).far (by omega) _ _, ((h.2.2.far (by omega) _ _).far (by omega) _ _).far (by omega) _ _⟩
theorem keep1 {W W' : World} {p : Addr} {v : Value} (h : W.cell? p = some v) (hb : Below W.heap.size W W') : W'.cell? p = some v := by
  rcases Nat.lt_or_ge p.block W.heap.size with hlt | hge
  · rw [hb.cell hlt]; exact h
  · simp [World.cell?, Array.getElem?_eq_none hge] at h
theorem keep6 {W W' : World} {b : Nat} {v0 v1 v2 v3 v4 v5 : Value} (h : W.cell? ⟨b, 0, none⟩ = some v0 ∧ W.cell? ⟨b, 1, none⟩ = some v1 ∧ W.cell? ⟨b, 2, none⟩ = some v2 ∧ W.cell? ⟨b + 1, 0, none⟩ = some v3 ∧ W.cell? ⟨b + 1, 1, none⟩ = some v4 ∧ W.cell? ⟨b + 1, 2, none⟩ = some v5) (hb : Below W.heap.size W W') :
    W'.cell? ⟨b, 0, none⟩ = some v0 ∧ W'.cell? ⟨b, 1, none⟩ = some v1 ∧ W'.cell? ⟨b, 2, none⟩ = some v2 ∧ W'.cell? ⟨b + 1, 0, none⟩ = some v3 ∧ W'.cell? ⟨b + 1, 1, none⟩ = some v4 ∧ W'.cell? ⟨b + 1, 2, none⟩ = some v5 :=
  ⟨keep1 h.1 hb, keep1 h.2.1 hb, keep1 h.2.2.1 hb, keep1 h.2.2.2.1 hb, keep1 h.2.2.2.2.1 hb, keep1 h.2.2.2.2.2 hb⟩
end Go.Proofs.YtbkdfbddcfglgaaRRR
