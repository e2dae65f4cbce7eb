/-
  ReadyJoins: its argument opened, its ways together.
-/
import Derived.Test.YtcipilggddpnpaaOpen
import Derived.Test.YtcipilggddpnpaaQx1
import Derived.Deep.SlicePairs
import Derived.ChangeSame
import Derived.ChangeArms
namespace Go.Proofs.Ytcipilggddpnpaa
open Go.ChangeShapes Go.WideShapes Go.ChangeAt Go.RowKit Go.Deep
set_option linter.unusedVariables false

theorem add_at (g o i : Nat) : (⟨g, o, none⟩ : Addr).add i = ⟨g, o + i, none⟩ := by
  unfold Addr.add
  split
  · subst_vars; rfl
  · rfl
theorem shape_lt {w : World} {b : Nat} {x : TypeId × Nat} (h : w.shape? b = some x) : b < w.heap.size := by
  unfold World.shape? at h
  split at h
  · rename_i e
    exact (Array.getElem?_eq_some_iff.1 e).1
  · cases h

set_option maxRecDepth 100000 in
theorem open_keys4 {H : Type} {enc : TypeId × Value → H} {W : World} {base b0 : Nat} {r : Reach} {spare : Nat → Bool} {held : Bool} {fuel : Nat} {a : Option Addr} {len cap : Nat} {x : DataW H × List MemPlace}
    (hv : Value.okWide Try.prog W r b0 46 (.slice a len cap)) (h : DataW.trod enc Try.prog W base spare held fuel 46 [.slice a len cap] = some x) : ∃ l, IsKeys W a len cap l := by
  rcases open_slice_pairs Try.underlying46 Try.underlying37 (by kernel_rfl) rfl rfl (by kernel_rfl) (by kernel_rfl) h with ⟨hcs, _⟩ | ⟨ad, l, c, m, n, V0, V1, D0, D1, P0, P1, hcs, _, hl, hm, hmm, _, hx⟩
  · simp at hcs
    obtain ⟨rfl, rfl, rfl⟩ := hcs
    exact ⟨[], rfl, Nat.le_refl _, by omega, .inl rfl, fun x e => (by cases e), fun _ => ⟨rfl, rfl⟩⟩
  · simp at hcs
    obtain ⟨rfl, rfl, rfl⟩ := hcs
    have hb : ad.block < W.heap.size := by
      simp only [Value.okWide, Try.underlying46, Cell.okWide, Cell.ok] at hv
      obtain ⟨_, _, _, _, row, cells, hs, _⟩ := hv
      exact shape_lt hs
    refine ⟨(List.range len).map fun i => (intOf (V1 i), intOf (V0 i)), by simp, hl, by simp only [maxLen] at hm; omega, ?_, fun x e => (by cases e; exact hb), fun e => (by cases e)⟩
    cases len with
    | zero => exact .inl (by simp)
    | succ l =>
      have hmi : ∀ i, i < l + 1 → i < m := fun i hi => by rw [hmm]; split <;> omega
      have h0 := (hx 0 (hmi 0 (by omega))).1
      obtain ⟨g, o, s⟩ := ad
      have hs : s = none := by simpa [Addr.add] using World.cell?_spot h0
      subst hs
      refine .inr ⟨g, o, rfl, hb, fun i hi => ?_⟩
      simp only [List.length_map, List.length_range] at hi
      obtain ⟨c0, c1, t0, t1⟩ := hx i (hmi i hi)
      obtain ⟨b0, e0, _, w0⟩ := DataW.trod_int Try.underlying3 t0
      obtain ⟨b1, e1, _, w1⟩ := DataW.trod_int Try.underlying3 t1
      simp only [List.cons.injEq, and_true] at e0 e1
      have eg : ((List.range (l + 1)).map fun i => (intOf (V1 i), intOf (V0 i))).getD i (0, 0) = (b1, b0) := by
        rw [List.getD_eq_getElem?_getD, List.getElem?_map, List.getElem?_range hi]
        simp [e0, e1, intOf]
      rw [eg]
      rw [add_at] at c0 c1
      exact ⟨⟨by rw [c0, e0], by rw [Nat.add_assoc, c1, e1]⟩, bounds_i64 w1, bounds_i64 w0⟩

end Go.Proofs.Ytcipilggddpnpaa
