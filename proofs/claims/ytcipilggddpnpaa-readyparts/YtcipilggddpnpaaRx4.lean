/-
  Several texts as one.
-/
import Derived.Test.YtcipilggddpnpaaOpen
import Derived.Test.YtcipilggddpnpaaQx1
import Derived.Deep.SlicePairs
import Derived.ChangeSame
import Derived.ChangeArms
import Derived.Test.YtcipilggddpnpaaRx2
import Derived.Deep.Strs
/-
  ReadyJoins: its argument opened, its ways together.
-/
namespace Go.Proofs.Ytcipilggddpnpaa
open Go.ChangeShapes Go.WideShapes Go.ChangeAt Go.RowKit Go.Deep
set_option linter.unusedVariables false

theorem add_at (g o i : Nat) : (⟨g, o, none⟩ : Addr).add i = ⟨g, o + i, none⟩ := by
  unfold Addr.add
  split
  · subst_vars; rfl
  · rfl
theorem shape_lt {w : World} {b : Nat} {x : TypeId × Nat} (h : w.shape? b = some x) : b < w.heap.size := by
  unfold World.shape? at h
  split at h
  · rename_i e
    exact (Array.getElem?_eq_some_iff.1 e).1
  · cases h

set_option maxRecDepth 100000 in
theorem open_keys4 {H : Type} {enc : TypeId × Value → H} {W : World} {base b0 : Nat} {r : Reach} {spare : Nat → Bool} {held : Bool} {fuel : Nat} {a : Option Addr} {len cap : Nat} {x : DataW H × List MemPlace}
    (hv : Value.okWide Try.prog W r b0 46 (.slice a len cap)) (h : DataW.trod enc Try.prog W base spare held fuel 46 [.slice a len cap] = some x) : ∃ l, IsKeys W a len cap l := by
  rcases open_slice_pairs Try.underlying46 Try.underlying37 (by kernel_rfl) rfl rfl (by kernel_rfl) (by kernel_rfl) h with ⟨hcs, _⟩ | ⟨ad, l, c, m, n, V0, V1, D0, D1, P0, P1, hcs, _, hl, hm, hmm, _, hx⟩
  · simp at hcs
    obtain ⟨rfl, rfl, rfl⟩ := hcs
    exact ⟨[], rfl, Nat.le_refl _, by omega, .inl rfl, fun x e => (by cases e), fun _ => ⟨rfl, rfl⟩⟩
  · simp at hcs
    obtain ⟨rfl, rfl, rfl⟩ := hcs
    have hb : ad.block < W.heap.size := by
      simp only [Value.okWide, Try.underlying46, Cell.okWide, Cell.ok] at hv
      obtain ⟨_, _, _, _, row, cells, hs, _⟩ := hv
      exact shape_lt hs
    refine ⟨(List.range len).map fun i => (intOf (V1 i), intOf (V0 i)), by simp, hl, by simp only [maxLen] at hm; omega, ?_, fun x e => (by cases e; exact hb), fun e => (by cases e)⟩
    cases len with
    | zero => exact .inl (by simp)
    | succ l =>
      have hmi : ∀ i, i < l + 1 → i < m := fun i hi => by rw [hmm]; split <;> omega
      have h0 := (hx 0 (hmi 0 (by omega))).1
      obtain ⟨g, o, s⟩ := ad
      have hs : s = none := by simpa [Addr.add] using World.cell?_spot h0
      subst hs
      refine .inr ⟨g, o, rfl, hb, fun i hi => ?_⟩
      simp only [List.length_map, List.length_range] at hi
      obtain ⟨c0, c1, t0, t1⟩ := hx i (hmi i hi)
      obtain ⟨b0, e0, _, w0⟩ := DataW.trod_int Try.underlying3 t0
      obtain ⟨b1, e1, _, w1⟩ := DataW.trod_int Try.underlying3 t1
      simp only [List.cons.injEq, and_true] at e0 e1
      have eg : ((List.range (l + 1)).map fun i => (intOf (V1 i), intOf (V0 i))).getD i (0, 0) = (b1, b0) := by
        rw [List.getD_eq_getElem?_getD, List.getElem?_map, List.getElem?_range hi]
        simp [e0, e1, intOf]
      rw [eg]
      rw [add_at] at c0 c1
      exact ⟨⟨by rw [c0, e0], by rw [Nat.add_assoc, c1, e1]⟩, bounds_i64 w1, bounds_i64 w0⟩

end Go.Proofs.Ytcipilggddpnpaa

/-
  Arguments opened: a slice of the law's calls of queues (what is asked, a key, keys).
-/
namespace Go.Proofs.Ytcipilggddpnpaa
open Go.ChangeShapes Go.WideShapes Go.ChangeAt Go.RowKit Go.Deep
set_option linter.unusedVariables false

set_option maxRecDepth 100000 in
theorem keys_of {H : Type} {enc : TypeId × Value → H} {W : World} {base : Nat} {spare : Nat → Bool} {held : Bool} {fuel : Nat} {cs : List Value} {x : DataW H × List MemPlace}
    (h : DataW.trod enc Try.prog W base spare held fuel 46 cs = some x) : ∃ (a : Option Addr) (len cap : Nat) (l : List Ent), cs = [.slice a len cap] ∧ l.length = len ∧ len ≤ cap ∧ KeysAt W a l := by
  rcases open_slice_pairs Try.underlying46 Try.underlying37 (by kernel_rfl) rfl rfl (by kernel_rfl) (by kernel_rfl) h with ⟨hcs, _⟩ | ⟨ad, len, cap, m, n, V0, V1, D0, D1, P0, P1, hcs, _, hl, hm, hmm, _, hx⟩
  · exact ⟨none, 0, 0, [], hcs, rfl, Nat.le_refl _, .inl rfl⟩
  · refine ⟨some ad, len, cap, (List.range len).map fun i => (intOf (V1 i), intOf (V0 i)), hcs, by simp, hl, ?_⟩
    cases len with
    | zero => exact .inl (by simp)
    | succ l =>
      have hmi : ∀ i, i < l + 1 → i < m := fun i hi => by rw [hmm]; split <;> omega
      have h0 := (hx 0 (hmi 0 (by omega))).1
      obtain ⟨g, o, s⟩ := ad
      have hs : s = none := by simpa [Addr.add] using World.cell?_spot h0
      subst hs
      refine .inr ⟨g, o, rfl, World.block_lt_of_cell? W ⟨g, o, none⟩ (by simpa [add_at] using h0), fun i hi => ?_⟩
      simp only [List.length_map, List.length_range] at hi
      obtain ⟨c0, c1, t0, t1⟩ := hx i (hmi i hi)
      obtain ⟨b0, e0, _, w0⟩ := DataW.trod_int Try.underlying3 t0
      obtain ⟨b1, e1, _, w1⟩ := DataW.trod_int Try.underlying3 t1
      simp only [List.cons.injEq, and_true] at e0 e1
      have eg : ((List.range (l + 1)).map fun i => (intOf (V1 i), intOf (V0 i))).getD i (0, 0) = (b1, b0) := by
        rw [List.getD_eq_getElem?_getD, List.getElem?_map, List.getElem?_range hi]
        simp [e0, e1, intOf]
      rw [eg]
      rw [add_at] at c0 c1
      exact ⟨⟨by rw [c0, e0], by rw [Nat.add_assoc, c1, e1]⟩, bounds_i64 w1, bounds_i64 w0⟩

set_option maxRecDepth 100000 in
theorem open_ops4 {H : Type} {enc : TypeId × Value → H} {W : World} {base : Nat} {spare : Nat → Bool} {held : Bool} {fuel : Nat} {a : Option Addr} {len cap : Nat} {x : DataW H × List MemPlace}
    (h : DataW.trod enc Try.prog W base spare held fuel 40 [.slice a len cap] = some x) : len ≤ 9223372036854775807 ∧ ∃ V A, OpsAt4 W a len V A := by
  rcases open_slice Try.underlying40 h with ⟨hcs, _⟩ | ⟨ad, l, c, m, n, D, Pl, hcs, _, hl, hm, hmm, _, hx⟩
  · simp at hcs
    obtain ⟨rfl, rfl, rfl⟩ := hcs
    exact ⟨by omega, fun _ => (0, (0, 0), []), fun _ => (none, 0), .inl rfl⟩
  · simp at hcs
    obtain ⟨rfl, rfl, rfl⟩ := hcs
    have each : ∀ i, i < m → ∃ q : (Int × Ent × List Ent) × (Option Addr × Nat), (W.cell? (ad.add (i * 4)) = some (.int .i64 q.1.1) ∧ W.cell? (ad.add (i * 4 + 1)) = some (.int .i64 q.1.2.1.2) ∧ W.cell? (ad.add (i * 4 + 2)) = some (.int .i64 q.1.2.1.1) ∧ W.cell? (ad.add (i * 4 + 3)) = some (.slice q.2.1 q.1.2.2.length q.2.2)) ∧
        (Is64 q.1.2.1.1 ∧ Is64 q.1.2.1.2) ∧ KeysAt W q.2.1 q.1.2.2 ∧ q.1.2.2.length ≤ q.2.2 := by
      intro i hi
      obtain ⟨cs', h1, h2⟩ := hx i hi
      have ce : Try.prog.cellsOf 51 = 4 := by kernel_rfl
      rw [ce] at h1
      obtain ⟨_, hlen, hcell⟩ := World.cells?_some h1
      obtain ⟨y0, y1, y2, k, _, _, g0, g1, g2⟩ := trod_struct3 Try.underlying51 h2
      match cs', hlen with
      | [v0, v1, v2, v3], _ =>
        have ci : Try.prog.cellsOf 3 = 1 := by kernel_rfl
        have ck : Try.prog.cellsOf 37 = 2 := by kernel_rfl
        have cl : Try.prog.cellsOf 46 = 1 := by kernel_rfl
        simp [ci, ck, cl] at g0 g1 g2
        obtain ⟨b0, e0, _, w0⟩ := DataW.trod_int Try.underlying3 g0
        obtain ⟨z0, z1, k2, _, _, q0, q1⟩ := trod_struct2 Try.underlying37 g1
        simp [ci] at q0 q1
        obtain ⟨b1, e1, _, w1⟩ := DataW.trod_int Try.underlying3 q0
        obtain ⟨b2, e2, _, w2⟩ := DataW.trod_int Try.underlying3 q1
        obtain ⟨ka, kl, kc, kk, e3, f1, f2, f3⟩ := keys_of g2
        simp only [List.cons.injEq, and_true] at e0 e1 e2 e3
        have c0 := hcell 0 (by omega)
        have c1 := hcell 1 (by omega)
        have c2 := hcell 2 (by omega)
        have c3 := hcell 3 (by omega)
        rw [add_add] at c0 c1 c2 c3
        refine ⟨((b0, (b2, b1), kk), (ka, kc)), ⟨?_, ?_, ?_, ?_⟩, ⟨bounds_i64 w2, bounds_i64 w1⟩, f3, by rw [f1]; exact f2⟩
        · simpa [e0] using c0
        · simpa [e1] using c1
        · simpa [e2] using c2
        · simpa [e3, f1] using c3
    obtain ⟨q, hq⟩ := choose_lt each
    refine ⟨by simp only [maxLen] at hm; omega, fun i => (q i).1, fun i => (q i).2, ?_⟩
    cases len with
    | zero => exact .inl rfl
    | succ l =>
      have hmi : ∀ i, i < l + 1 → i < m := fun i hi => by rw [hmm]; split <;> omega
      have h0 := (hq 0 (hmi 0 (by omega))).1.1
      obtain ⟨g, o, s⟩ := ad
      have hs : s = none := by simpa [Addr.add] using World.cell?_spot h0
      subst hs
      refine .inr ⟨g, o, rfl, World.block_lt_of_cell? W ⟨g, o, none⟩ (by simpa [add_at] using h0), fun i hi => ?_⟩
      obtain ⟨⟨h1, h2, h3, h4⟩, h5⟩ := hq i (hmi i hi)
      rw [add_at] at h1 h2 h3 h4
      exact ⟨⟨h1, by rw [← Nat.add_assoc] at h2; exact h2, by rw [← Nat.add_assoc] at h3; exact h3, by rw [← Nat.add_assoc] at h4; exact h4⟩, h5⟩
end Go.Proofs.Ytcipilggddpnpaa
