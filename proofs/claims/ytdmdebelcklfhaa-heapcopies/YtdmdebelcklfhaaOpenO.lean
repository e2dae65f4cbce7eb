/-
  Arguments opened: a slice of the law's calls (three numbers each, the last two a key).
-/
import Derived.Test.YtdmdebelcklfhaaOpsI
import Derived.Deep.SlicePairs
import Derived.ChangeSame
import Derived.ChangeArms
namespace Go.Proofs.Ytdmdebelcklfhaa
open Go.ChangeShapes Go.WideShapes Go.ChangeAt Go.RowKit Go.Deep
set_option linter.unusedVariables false

set_option maxRecDepth 100000 in
theorem open_ops {H : Type} {enc : TypeId × Value → H} {W : World} {base : Nat} {spare : Nat → Bool} {held : Bool} {fuel : Nat} {a : Option Addr} {len cap : Nat} {x : DataW H × List MemPlace}
    (h : DataW.trod enc Try.prog W base spare held fuel 22 [.slice a len cap] = some x) : IsOps W a len cap := by
  rcases open_slice Try.underlying22 h with ⟨hcs, _⟩ | ⟨ad, l, c, m, n, D, Pl, hcs, _, hl, hm, hmm, _, hx⟩
  · simp at hcs
    obtain ⟨rfl, rfl, rfl⟩ := hcs
    exact .inl ⟨rfl, rfl, rfl⟩
  · simp at hcs
    obtain ⟨rfl, rfl, rfl⟩ := hcs
    have each : ∀ i, i < m → ∃ q : Int × Int × Int, W.cell? (ad.add (i * 3)) = some (.int .i64 q.1) ∧ W.cell? (ad.add (i * 3 + 1)) = some (.int .i64 q.2.1) ∧ W.cell? (ad.add (i * 3 + 2)) = some (.int .i64 q.2.2) ∧ (Lit.int .i64 q.2.1).wf = true ∧ (Lit.int .i64 q.2.2).wf = true := by
      intro i hi
      obtain ⟨cs', h1, h2⟩ := hx i hi
      have ce : Try.prog.cellsOf 38 = 3 := by kernel_rfl
      rw [ce] at h1
      obtain ⟨_, hlen, hcell⟩ := World.cells?_some h1
      obtain ⟨y0, y1, k, _, _, g0, g1⟩ := trod_struct2 Try.underlying38 h2
      match cs', hlen with
      | [v0, v1, v2], _ =>
        have ci : Try.prog.cellsOf 3 = 1 := by kernel_rfl
        have ck : Try.prog.cellsOf 36 = 2 := by kernel_rfl
        simp [ci, ck] at g0 g1
        obtain ⟨z0, z1, k2, _, _, g2, g3⟩ := trod_struct2 Try.underlying36 g1
        simp [ci] at g2 g3
        obtain ⟨b0, e0, _, w0⟩ := DataW.trod_int Try.underlying3 g0
        obtain ⟨b1, e1, _, w1⟩ := DataW.trod_int Try.underlying3 g2
        obtain ⟨b2, e2, _, w2⟩ := DataW.trod_int Try.underlying3 g3
        simp only [List.cons.injEq, and_true] at e0 e1 e2
        have c0 := hcell 0 (by omega)
        have c1 := hcell 1 (by omega)
        have c2 := hcell 2 (by omega)
        rw [add_add] at c0 c1 c2
        refine ⟨(b0, b1, b2), ?_, ?_, ?_, w1, w2⟩
        · simpa [e0] using c0
        · simpa [e1] using c1
        · simpa [e2] using c2
    obtain ⟨q, hq⟩ := choose_lt each
    refine .inr ⟨ad, q, rfl, hl, hm, fun i hi => hq i ?_⟩
    rw [hmm]; split <;> omega
end Go.Proofs.Ytdmdebelcklfhaa
