/-
  Arguments opened: a rule, a slice of params, a turn.
-/
import Derived.Test.YtfjepkakimhbbaaOpen
import Derived.Test.YtfjepkakimhbbaaAb
import Derived.Deep.SlicePairs
import Derived.Deep.Strs
import Derived.ChangeSame
import Derived.ChangeArms
namespace Go.Proofs.Ytfjepkakimhbbaa
open Go.ChangeShapes Go.WideShapes Go.ChangeAt Go.RowKit Go.Joins Go.Deep
set_option linter.unusedVariables false

section
variable {H : Type} {enc : TypeId × Value → H} {P : Program} {w : World} {base : Nat} {spare : Nat → Bool} {held : Bool}
/-- A struct of a bool and two numbers. -/
theorem open_rule {r : Reach} {b0 : Nat} {t e e2 : TypeId} {k : IntKind} {f0 f1 f2 : Field} {v : Value} {d : DataW H} {p : List MemPlace} (hs : P.underlying t = some (.struct #[f0, f1, f2])) (hone : oneCellFields P #[f0, f1, f2] = true) (hC : P.cellsOf t = 3)
    (h0 : f0.type = e2) (h1 : f1.type = e) (h2 : f2.type = e) (he2 : P.underlying e2 = some .bool) (he : P.underlying e = some (.int k))
    (hv : Value.okWide P w r b0 t v) (h : DataW.Trod enc P w base spare held t v d p) :
    ∃ (a : Bool) (b c : Int), v = .agg #[.bool a, .int k b, .int k c] ∧ (Lit.int k b).wf = true ∧ (Lit.int k c).wf = true := by
  obtain ⟨c0, c1, c2, y0, y1, y2, m, rfl, _, _, hy0, hy1, hy2⟩ := open_agg3 hs hone hC hv h
  rw [h0] at hy0
  rw [h1] at hy1
  rw [h2] at hy2
  obtain ⟨a, e0, _⟩ := DataW.trod_bool he2 hy0
  obtain ⟨b, e1, _, wb⟩ := DataW.trod_int he hy1
  obtain ⟨c, e2, _, wc⟩ := DataW.trod_int he hy2
  simp at e0 e1 e2
  subst e0 e1 e2
  exact ⟨a, b, c, rfl, wb, wc⟩
end

/-- A slice of params that came in. -/
structure ParIn (W : World) (a : Option Addr) (len cap : Nat) (L : List Pa) : Prop where
  len_ : L.length = len
  at_ : PAt W a L
  cap_ : len ≤ cap
  big : cap ≤ 9223372036854775807
  nil : a = none → len = 0 ∧ cap = 0
  fit : ∀ p ∈ L, Fit p

set_option maxRecDepth 100000 in
theorem open_pars {H : Type} {enc : TypeId × Value → H} {W : World} {base : Nat} {spare : Nat → Bool} {held : Bool} {fuel : Nat} {a : Option Addr} {len cap : Nat} {x : DataW H × List MemPlace}
    (h : DataW.trod enc Try.prog W base spare held fuel 24 [.slice a len cap] = some x) : ∃ L, ParIn W a len cap L := by
  rcases open_slice Try.underlying24 h with ⟨hcs, _⟩ | ⟨ad, l, c, m, n, D, Pl, hcs, _, hl, hm, hmm, _, hx⟩
  · simp at hcs
    obtain ⟨rfl, rfl, rfl⟩ := hcs
    exact ⟨[], rfl, .inl rfl, Nat.le_refl _, by omega, fun _ => ⟨rfl, rfl⟩, fun p hp => by cases hp⟩
  · simp at hcs
    obtain ⟨rfl, rfl, rfl⟩ := hcs
    have each : ∀ i, i < m → ∃ q : Int × Int × Int, (W.cell? (ad.add (i * 3)) = some (.int .i64 q.1) ∧ W.cell? (ad.add (i * 3 + 1)) = some (.int .i64 q.2.1) ∧ W.cell? (ad.add (i * 3 + 2)) = some (.int .i64 q.2.2)) ∧ Fit q := by
      intro i hi
      obtain ⟨cs', h1, h2⟩ := hx i hi
      have ce : Try.prog.cellsOf 40 = 3 := by kernel_rfl
      rw [ce] at h1
      obtain ⟨_, hlen, hcell⟩ := World.cells?_some h1
      obtain ⟨y0, y1, y2, k, _, _, g0, g1, g2⟩ := trod_struct3 Try.underlying40 h2
      match cs', hlen with
      | [v0, v1, v2], _ =>
        have ci : Try.prog.cellsOf 3 = 1 := by kernel_rfl
        simp [ci] at g0 g1 g2
        obtain ⟨b0, e0, _, w0⟩ := DataW.trod_int Try.underlying3 g0
        obtain ⟨b1, e1, _, w1⟩ := DataW.trod_int Try.underlying3 g1
        obtain ⟨b2, e2, _, w2⟩ := DataW.trod_int Try.underlying3 g2
        simp only [List.cons.injEq, and_true] at e0 e1 e2
        have c0 := hcell 0 (by omega)
        have c1 := hcell 1 (by omega)
        have c2 := hcell 2 (by omega)
        rw [add_add] at c0 c1 c2
        refine ⟨(b0, b1, b2), ⟨?_, ?_, ?_⟩, bounds_i64 w0, bounds_i64 w1, bounds_i64 w2⟩
        · simpa [e0] using c0
        · simpa [e1] using c1
        · simpa [e2] using c2
    obtain ⟨q, hq⟩ := choose_lt each
    have hmi : ∀ i, i < len → i < m := fun i hi => by rw [hmm]; split <;> omega
    have eg : ∀ i, i < len → ((List.range len).map q).getD i p0 = q i := fun i hi => by
      rw [List.getD_eq_getElem?_getD, List.getElem?_map, List.getElem?_range hi]
      rfl
    refine ⟨(List.range len).map q, by simp, ?_, hl, by simp only [maxLen] at hm; omega, (fun e => by cases e), fun p hp => ?_⟩
    · cases len with
      | zero => exact .inl (by simp)
      | succ l =>
        have h0 := (hq 0 (hmi 0 (by omega))).1.1
        obtain ⟨g, o, s⟩ := ad
        have hs : s = none := by simpa [Addr.add] using World.cell?_spot h0
        subst hs
        have ea : ∀ i, (⟨g, o, none⟩ : Addr).add i = ⟨g, o + i, none⟩ := fun i => by
          unfold Addr.add
          split
          · subst_vars; rfl
          · rfl
        refine .inr ⟨g, o, rfl, World.block_lt_of_cell? W ⟨g, o, none⟩ (by simpa [ea] using h0), fun i hi => ?_⟩
        have hi' : i < l + 1 := by simpa using hi
        rw [eg i hi']
        obtain ⟨⟨h1, h2, h3⟩, h4⟩ := hq i (hmi i hi')
        rw [ea] at h1 h2 h3
        exact ⟨⟨h1, by rw [← Nat.add_assoc] at h2; exact h2, by rw [← Nat.add_assoc] at h3; exact h3⟩, h4⟩
    · obtain ⟨i, hi, rfl⟩ := List.mem_map.1 hp
      exact (hq i (hmi i (List.mem_range.1 hi))).2

/-- A number and params. -/
theorem open_turn {H : Type} {enc : TypeId × Value → H} {W : World} {base b0 : Nat} {r : Reach} {spare : Nat → Bool} {held : Bool} {v : Value} {d : DataW H} {p : List MemPlace}
    (hv : Value.okWide Try.prog W r b0 46 v) (h : DataW.Trod enc Try.prog W base spare held 46 v d p) :
    ∃ i x y z : Int, v = .agg #[.int .i64 i, .int .i64 x, .int .i64 y, .int .i64 z] ∧ Is64 i ∧ Is64 x ∧ Is64 y ∧ Is64 z := by
  obtain ⟨cs, rfl, hsz⟩ := okWide_struct Try.underlying46 hv
  have hC : Try.prog.cellsOf 46 = 4 := by kernel_rfl
  have ci : Try.prog.cellsOf 3 = 1 := by kernel_rfl
  have cp : Try.prog.cellsOf 40 = 3 := by kernel_rfl
  obtain ⟨c0, c1, c2, c3, rfl⟩ := array4 (hsz.trans hC)
  obtain ⟨fuel, hf⟩ := h
  obtain ⟨y0, y1, n, _, _, h0, h1⟩ := trod_struct2 Try.underlying46 hf
  simp [ci, cp, Value.cells] at h0 h1
  obtain ⟨z0, z1, z2, k, _, _, g0, g1, g2⟩ := trod_struct3 Try.underlying40 h1
  simp [ci] at g0 g1 g2
  obtain ⟨i, e0, _, w0⟩ := DataW.trod_int Try.underlying3 h0
  obtain ⟨x, e1, _, w1⟩ := DataW.trod_int Try.underlying3 g0
  obtain ⟨y, e2, _, w2⟩ := DataW.trod_int Try.underlying3 g1
  obtain ⟨z, e3, _, w3⟩ := DataW.trod_int Try.underlying3 g2
  simp at e0 e1 e2 e3
  subst e0 e1 e2 e3
  exact ⟨i, x, y, z, rfl, bounds_i64 w0, bounds_i64 w1, bounds_i64 w2, bounds_i64 w3⟩
end Go.Proofs.Ytfjepkakimhbbaa
