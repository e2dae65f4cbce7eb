/-
  TimersPlays: its walk; what several laws of timers share.
-/
import Derived.Test.YtpglkakbiaihdaaTz
import Derived.Deep.LoopGhost
import Derived.Deep.Cut
namespace Go.Proofs.Ytpglkakbiaihdaa
open Go.RowKit Go.Shelf Go.Maps
set_option linter.unusedVariables false
set_option linter.unusedSimpArgs false

/-- Calls that lie at a: what is asked, the timer, the time. -/
def Ops5At (w : World) (a : Option Addr) (n : Nat) (V : Nat → Int × Int × Int) : Prop :=
  n = 0 ∨ ∃ g o, a = some ⟨g, o, none⟩ ∧ g < w.heap.size ∧ ∀ i, i < n → (w.cell? ⟨g, o + i * 3, none⟩ = some (.int .i64 (V i).1) ∧ w.cell? ⟨g, o + i * 3 + 1, none⟩ = some (.int .i64 (V i).2.1) ∧ w.cell? ⟨g, o + i * 3 + 2, none⟩ = some (.int .i64 (V i).2.2)) ∧ Is64 (V i).1 ∧ Is64 (V i).2.1 ∧ Is64 (V i).2.2
theorem Ops5At.below {w w' : World} {a : Option Addr} {n : Nat} {V : Nat → Int × Int × Int} (h : Ops5At w a n V) (b : Below w.heap.size w w') : Ops5At w' a n V := by
  rcases h with h | ⟨g, o, rfl, hg, hc⟩
  · exact .inl h
  · refine .inr ⟨g, o, rfl, Nat.lt_of_lt_of_le hg b.size, fun i hi => ?_⟩
    obtain ⟨⟨h1, h2, h3⟩, h4⟩ := hc i hi
    exact ⟨⟨(b.cell (p := ⟨g, o + i * 3, none⟩) hg).trans h1, (b.cell (p := ⟨g, o + i * 3 + 1, none⟩) hg).trans h2, (b.cell (p := ⟨g, o + i * 3 + 2, none⟩) hg).trans h3⟩, h4⟩

set_option maxHeartbeats 400000 in
theorem few5_any (a : Option Addr) (n cap : Nat) (w : World) : Calls Try.prog 38 #[.slice a n cap] w fun e w' => e = .returned (.bool (decide (n ≤ 60))) ∧ w' = w := by
  have e : decide ((n : Int) ≤ 60) = decide (n ≤ 60) := decide_eq_decide.2 (by omega)
  go_enter Try.func38, Try.ntmps38
  go_wp2
  go_ret
  simp [e]

set_option maxHeartbeats 400000 in
/-- The reference's New. -/
theorem rnew5 (B : Nat) (w : World) (hB : B ≤ w.heap.size) (m : Int) : Calls Try.prog 39 #[.int .i64 m] w fun E w' => ∃ rq rh, E = .returned (.pointer (some ⟨rq, 0, none⟩)) ∧ Rq B w' rq rh m 0 0 [] ∧ Grew w w' ∧ B ≤ rh := by
  have E1 := Lib.hid (heap_alloc_new w (.cells #[.slice none 0 0] 48))
  have E2 := Lib.hid (heap_alloc_new (w.alloc (.cells #[.slice none 0 0] 48)) (.cells #[.int .i64 m, .pointer (some ⟨w.heap.size, 0, none⟩), .int .i64 0, .int .i64 0] 125))
  have HB := Lib.hid hB
  clear hB
  go_enter Try.func39, Try.ntmps39
  go_wp2
  go_ret
  have g1 : Grew w (w.alloc (.cells #[.slice none 0 0] 48)) := (Grew.refl w).alloc _
  have e2 := E2.out
  have s1 : (w.alloc (.cells #[.slice none 0 0] 48)).heap.size = w.heap.size + 1 := by simp
  rw [s1] at e2
  refine ⟨w.heap.size + 1, w.heap.size, rfl, ⟨e2, ⟨none, 0, ?_, ⟨rfl, .inl ⟨rfl, rfl⟩⟩⟩, by have := HB.out; omega⟩, g1.alloc _, HB.out⟩
  exact (((Grew.refl _).alloc _).block (Array.getElem?_eq_some_iff.1 E1.out).1).trans E1.out
end Go.Proofs.Ytpglkakbiaihdaa
