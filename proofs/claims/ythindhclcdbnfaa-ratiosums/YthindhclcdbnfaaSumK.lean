/-
  num.Sum of one, two and three numbers that are written out.
-/
import Derived.Test.YthindhclcdbnfaaSum
namespace Go.Proofs.Ythindhclcdbnfaa
open Go.RowKit

/-- A block of the call's own that holds one, two or three ints. -/
def OneAt (W : World) (G : Nat) (x : Int) : Prop := G < W.heap.size ∧ W.cell? ⟨G, 0, none⟩ = some (.int .i64 x)
def TwoAt (W : World) (G : Nat) (x y : Int) : Prop := G < W.heap.size ∧ W.cell? ⟨G, 0, none⟩ = some (.int .i64 x) ∧ W.cell? ⟨G, 1, none⟩ = some (.int .i64 y)
def ThreeAt (W : World) (G : Nat) (x y z : Int) : Prop := G < W.heap.size ∧ W.cell? ⟨G, 0, none⟩ = some (.int .i64 x) ∧ W.cell? ⟨G, 1, none⟩ = some (.int .i64 y) ∧ W.cell? ⟨G, 2, none⟩ = some (.int .i64 z)

theorem sum_one_at (x : Int) (hx : Is64 x) (G cap : Nat) (W : World) (hW : OneAt W G x) :
    Calls Try.prog 26 #[.slice (some ⟨G, 0, none⟩) 1 cap] W fun E w' => E = .returned (.tuple #[.int .i64 (sumR 0 [x]).1, .int .i64 (sumR 0 [x]).2]) ∧ W = w' := by
  refine sum_any (some ⟨G, 0, none⟩) [x] cap W (.inr ⟨G, 0, rfl, hW.1, ?_⟩) ?_ (by simp)
  · intro i hi
    match i, hi with
    | 0, _ => exact hW.2
  · intro z hz
    simp at hz
    rw [hz]; exact hx

theorem sum_two_at (x y : Int) (hx : Is64 x) (hy : Is64 y) (G cap : Nat) (W : World) (hW : TwoAt W G x y) :
    Calls Try.prog 26 #[.slice (some ⟨G, 0, none⟩) 2 cap] W fun E w' => E = .returned (.tuple #[.int .i64 (sumR 0 [x, y]).1, .int .i64 (sumR 0 [x, y]).2]) ∧ W = w' := by
  refine sum_any (some ⟨G, 0, none⟩) [x, y] cap W (.inr ⟨G, 0, rfl, hW.1, ?_⟩) ?_ (by simp)
  · intro i hi
    match i, hi with
    | 0, _ => exact hW.2.1
    | 1, _ => exact hW.2.2
  · intro z hz
    simp at hz
    rcases hz with h | h
    · rw [h]; exact hx
    · rw [h]; exact hy

theorem sum_three_at (x y z : Int) (hx : Is64 x) (hy : Is64 y) (hz : Is64 z) (G cap : Nat) (W : World) (hW : ThreeAt W G x y z) :
    Calls Try.prog 26 #[.slice (some ⟨G, 0, none⟩) 3 cap] W fun E w' => E = .returned (.tuple #[.int .i64 (sumR 0 [x, y, z]).1, .int .i64 (sumR 0 [x, y, z]).2]) ∧ W = w' := by
  refine sum_any (some ⟨G, 0, none⟩) [x, y, z] cap W (.inr ⟨G, 0, rfl, hW.1, ?_⟩) ?_ (by simp)
  · intro i hi
    match i, hi with
    | 0, _ => exact hW.2.1
    | 1, _ => exact hW.2.2.1
    | 2, _ => exact hW.2.2.2
  · intro u hu
    simp at hu
    rcases hu with h | h | h
    · rw [h]; exact hx
    · rw [h]; exact hy
    · rw [h]; exact hz

theorem sumR_pair (x y : Int) : sumR 0 [x, y] = if -9223372036854775808 ≤ 0 + x ∧ 0 + x ≤ 9223372036854775807 then (if -9223372036854775808 ≤ 0 + x + y ∧ 0 + x + y ≤ 9223372036854775807 then (0 + x + y, 0) else (0, 11)) else (0, 11) := rfl
theorem sumR_pair_ok {x y : Int} (hx : Is64 x) (_hy : Is64 y) (h : (sumR 0 [x, y]).2 = 0) : (sumR 0 [x, y]).1 = x + y ∧ x + y ≤ 9223372036854775807 := by
  obtain ⟨h0, h1⟩ := hx
  rw [sumR_pair, if_pos (by omega)] at h ⊢
  by_cases hf : -9223372036854775808 ≤ 0 + x + y ∧ 0 + x + y ≤ 9223372036854775807
  · rw [if_pos hf]
    exact ⟨show 0 + x + y = x + y by omega, by omega⟩
  · rw [if_neg hf] at h
    exact absurd h (by decide)
theorem sumR_pair_over {x y : Int} (hx : Is64 x) (_hy : Is64 y) (h : ¬ (sumR 0 [x, y]).2 = 0) : x + y < -9223372036854775808 ∨ 9223372036854775807 < x + y := by
  obtain ⟨h0, h1⟩ := hx
  rw [sumR_pair, if_pos (by omega)] at h
  by_cases hf : -9223372036854775808 ≤ 0 + x + y ∧ 0 + x + y ≤ 9223372036854775807
  · rw [if_pos hf] at h
    exact absurd rfl h
  · omega
end Go.Proofs.Ythindhclcdbnfaa
