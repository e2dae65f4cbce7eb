/-
  Arguments opened: a slice of the law's calls of timers (three numbers each).
-/
import Derived.Test.YtpglkakbiaihdaaLawT5
import Derived.Deep.SlicePairs
import Derived.Deep.Strs
import Derived.ChangeSame
import Derived.ChangeArms
namespace Go.Proofs.Ytpglkakbiaihdaa
open Go.ChangeShapes Go.WideShapes Go.ChangeAt Go.RowKit Go.Deep
set_option linter.unusedVariables false

set_option maxRecDepth 100000 in
theorem open_ops5 {H : Type} {enc : TypeId × Value → H} {W : World} {base : Nat} {spare : Nat → Bool} {held : Bool} {fuel : Nat} {a : Option Addr} {len cap : Nat} {x : DataW H × List MemPlace}
    (h : DataW.trod enc Try.prog W base spare held fuel 66 [.slice a len cap] = some x) : ∃ V, Ops5At W a len V := by
  rcases open_slice Try.underlying66 h with ⟨hcs, _⟩ | ⟨ad, l, c, m, n, D, Pl, hcs, _, hl, hm, hmm, _, hx⟩
  · simp at hcs
    obtain ⟨rfl, rfl, rfl⟩ := hcs
    exact ⟨fun _ => (0, 0, 0), .inl rfl⟩
  · simp at hcs
    obtain ⟨rfl, rfl, rfl⟩ := hcs
    have each : ∀ i, i < m → ∃ q : Int × Int × Int, (W.cell? (ad.add (i * 3)) = some (.int .i64 q.1) ∧ W.cell? (ad.add (i * 3 + 1)) = some (.int .i64 q.2.1) ∧ W.cell? (ad.add (i * 3 + 2)) = some (.int .i64 q.2.2)) ∧ Is64 q.1 ∧ Is64 q.2.1 ∧ Is64 q.2.2 := by
      intro i hi
      obtain ⟨cs', h1, h2⟩ := hx i hi
      have ce : Try.prog.cellsOf 75 = 3 := by kernel_rfl
      rw [ce] at h1
      obtain ⟨_, hlen, hcell⟩ := World.cells?_some h1
      obtain ⟨y0, y1, y2, k, _, _, g0, g1, g2⟩ := trod_struct3 Try.underlying75 h2
      match cs', hlen with
      | [v0, v1, v2], _ =>
        have ci : Try.prog.cellsOf 3 = 1 := by kernel_rfl
        simp [ci] at g0 g1 g2
        obtain ⟨b0, e0, _, w0⟩ := DataW.trod_int Try.underlying3 g0
        obtain ⟨b1, e1, _, w1⟩ := DataW.trod_int Try.underlying3 g1
        obtain ⟨b2, e2, _, w2⟩ := DataW.trod_int Try.underlying3 g2
        simp only [List.cons.injEq, and_true] at e0 e1 e2
        have c0 := hcell 0 (by omega)
        have c1 := hcell 1 (by omega)
        have c2 := hcell 2 (by omega)
        rw [add_add] at c0 c1 c2
        refine ⟨(b0, b1, b2), ⟨?_, ?_, ?_⟩, bounds_i64 w0, bounds_i64 w1, bounds_i64 w2⟩
        · simpa [e0] using c0
        · simpa [e1] using c1
        · simpa [e2] using c2
    obtain ⟨q, hq⟩ := choose_lt each
    refine ⟨q, ?_⟩
    cases len with
    | zero => exact .inl rfl
    | succ l =>
      have hmi : ∀ i, i < l + 1 → i < m := fun i hi => by rw [hmm]; split <;> omega
      have h0 := (hq 0 (hmi 0 (by omega))).1.1
      obtain ⟨g, o, s⟩ := ad
      have hs : s = none := by simpa [Addr.add] using World.cell?_spot h0
      subst hs
      have ea : ∀ i, (⟨g, o, none⟩ : Addr).add i = ⟨g, o + i, none⟩ := fun i => by
        unfold Addr.add
        split
        · subst_vars; rfl
        · rfl
      refine .inr ⟨g, o, rfl, World.block_lt_of_cell? W ⟨g, o, none⟩ (by simpa [ea] using h0), fun i hi => ?_⟩
      obtain ⟨⟨h1, h2, h3⟩, h4⟩ := hq i (hmi i hi)
      rw [ea] at h1 h2 h3
      exact ⟨⟨h1, by rw [← Nat.add_assoc] at h2; exact h2, by rw [← Nat.add_assoc] at h3; exact h3⟩, h4⟩
end Go.Proofs.Ytpglkakbiaihdaa
