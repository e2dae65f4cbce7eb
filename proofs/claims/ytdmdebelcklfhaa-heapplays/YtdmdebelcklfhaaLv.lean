/-
  Ways to leave, and counters, in functions that range over a function.
-/
import Derived.Test.YtdmdebelcklfhaaRq3
import Derived.Test.YtdmdebelcklfhaaRng
namespace Go.Proofs.Ytdmdebelcklfhaa
open Go.RowKit Go.Sort Go.Shelf Go.Maps
set_option linter.unusedVariables false
set_option linter.unusedSimpArgs false

/-- A counter in a block of its own. -/
def NumAt (W : World) (b : Nat) (k : Int) : Prop := W.heap[b]? = some (.cells #[.int .i64 k] 3 (0, 0))
theorem NumAt.cell {W : World} {b : Nat} {k : Int} (h : NumAt W b k) : W.cell? ⟨b, 0, none⟩ = some (.int .i64 k) ∧ W.frozen? ⟨b, 0, none⟩ = false := by
  unfold NumAt at h
  exact ⟨by simp [World.cell?, h], by simp [World.frozen?, h]⟩
theorem NumAt.set {W : World} {b : Nat} {k : Int} (h : NumAt W b k) (k' : Int) : NumAt (W.setCell ⟨b, 0, none⟩ (.int .i64 k')) b k' := by
  unfold NumAt at *
  simp [World.setCell, Array.getElem?_modify, h]

/-- Between two rounds: the counter stands at k, all else is as it was. -/
def CntI (W4 : World) (b : Nat) (k : Nat) (W : World) : Prop := Kept (fun i => i = b) W4 W ∧ NumAt W b k
theorem cntI_own {W4 : World} {b : Nat} (hb : b < W4.heap.size) : OwnFrom W4.heap.size (CntI W4 b) := fun k A B row hs hg hr => by
  obtain ⟨h1, h2⟩ := hs
  refine ⟨h1.grown hg (fun k e => .inr (hr k e).1), ?_⟩
  unfold NumAt at *
  rw [hg.block b (Array.getElem?_eq_some_iff.1 h2).1 (fun e => by have := (hr b e.symm).1; omega)]
  exact h2
theorem CntI.next {W4 W : World} {b k : Nat} (h : CntI W4 b k W) : CntI W4 b (k + 1) (W.setCell ⟨b, 0, none⟩ (.int .i64 ((k : Int) + 1))) :=
  ⟨h.1.setCell (.inl rfl) _, by have := h.2.set ((k : Int) + 1); exact this⟩

theorem CntI.grew {W4 W W' : World} {b k : Nat} (h : CntI W4 b k W) (hb : b < W4.heap.size) (g : Grew W W') : CntI W4 b k W' :=
  ⟨h.1.trans (g.kept _), (g.block (Nat.lt_of_lt_of_le hb h.1.size)).trans h.2⟩
theorem Kept.from {S : Nat → Prop} {a b : World} (h : Kept S a b) (B : Nat) (hs : ∀ k, S k → k < B) : KeepsFrom B a b :=
  ⟨h.size, fun k o hk ho _ => (h.block k (Array.getElem?_eq_some_iff.1 ho).1 (fun s => by have := hs k s; omega)).trans ho⟩

theorem leave_one {P : Program} {fn : Func} {tmps : Array Value} {R : Ending → World → Prop} {n D : Nat} {W : World} (hD : W.heap[D]? = some (.deferred (some [])))
    (h : ∃ v, (results fn tmps).run P (W.putObj D (.deferred none)) = .ok v (W.putObj D (.deferred none)) ∧ R (.returned v) (W.putObj D (.deferred none))) : LeavesInM Fence.wide n P fn tmps R [{ target := .collected D, args := #[] }] .returning W :=
  ⟨by simp, .inl ⟨D, _, rfl, run_takeDeferred hD, h⟩⟩

end Go.Proofs.Ytdmdebelcklfhaa
