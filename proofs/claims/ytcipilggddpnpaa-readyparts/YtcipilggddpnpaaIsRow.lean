/-
  Slices of ints that came in: what they read as, and that callees leave them.
-/
import Derived.Test.YtcipilggddpnpaaBase
import Derived.WalkKit
import Derived.ProofKit
import Derived.OpenShut
namespace Go.Proofs.Ytcipilggddpnpaa
open Go.ChangeShapes Go.WideShapes Go.ChangeAt Go.RowKit
set_option linter.unusedVariables false

theorem RowI.next {W W' : World} {a : Option Addr} {zs : List Int} (h : RowI W a zs) (hb : Below W.heap.size W W') : RowI W' a zs := by
  rcases h with h | ⟨g, o, ha, hg, hc⟩
  · exact .inl h
  · exact .inr ⟨g, o, ha, Nat.lt_of_lt_of_le hg hb.size, fun i hi => (hb.cell (p := ⟨g, o + i, none⟩) hg).trans (hc i hi)⟩

/-- A slice of ints that reads as a list, up to its capacity. -/
def IsRow (w : World) (a : Option Addr) (len cap : Nat) (zs : List Int) : Prop :=
  (a = none ∧ len = 0 ∧ cap = 0 ∧ zs = []) ∨
  ∃ x, a = some x ∧ len ≤ cap ∧ cap ≤ maxLen ∧ zs.length = cap ∧ (∀ i, i < zs.length → w.cell? (x.add i) = some (.int .i64 (zs.getD i 0))) ∧ ∀ n ∈ zs, (Lit.int .i64 n).wf = true

theorem IsRow.row {w : World} {a : Option Addr} {len cap : Nat} {zs : List Int} (h : IsRow w a len cap zs) :
    ∃ ys : List Int, ys.length = len ∧ RowI w a ys ∧ (∀ z ∈ ys, Is64 z) ∧ len ≤ 9223372036854775807 := by
  rcases h with ⟨rfl, rfl, rfl, rfl⟩ | ⟨x, rfl, hl, hm, hz, hc, hw⟩
  · exact ⟨[], rfl, .inl rfl, by simp, by omega⟩
  · refine ⟨zs.take len, by rw [List.length_take]; omega, ?_, fun z hz' => bounds_i64 (hw z (List.mem_of_mem_take hz')), by simp only [maxLen] at hm; omega⟩
    cases len with
    | zero => exact .inl (by simp)
    | succ l =>
      have h0 := hc 0 (by omega)
      obtain ⟨g, o, s⟩ := x
      have hs : s = none := by simpa [Addr.add] using World.cell?_spot h0
      subst hs
      refine .inr ⟨g, o, rfl, World.block_lt_of_cell? w ⟨g, o, none⟩ (by simpa [Addr.add] using h0), fun i hi => ?_⟩
      rw [List.length_take] at hi
      have hi' := hc i (by omega)
      have e1 : (⟨g, o, none⟩ : Addr).add i = ⟨g, o + i, none⟩ := by
        unfold Addr.add
        split
        · subst_vars; rfl
        · rfl
      rw [e1] at hi'
      rw [hi', List.getD_eq_getElem?_getD, List.getD_eq_getElem?_getD, List.getElem?_take_of_lt (by omega)]
end Go.Proofs.Ytcipilggddpnpaa
