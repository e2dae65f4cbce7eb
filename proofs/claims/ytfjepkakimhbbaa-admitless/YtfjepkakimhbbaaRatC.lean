/-
  Contracts of ratio's calls where they answer a number, a block of two numbers, and what quotients are next to one another.
-/
import Derived.Test.YtfjepkakimhbbaaRatW
namespace Go.Proofs.Ytfjepkakimhbbaa
open Go.RowKit
set_option linter.unusedVariables false

/-- An answer of a ratio. -/
def RatC (f : Nat) (args : Array Value) (n : Int) : Prop := Hid (∀ W, Calls Try.prog f args W fun E w' => E = .returned (.tuple #[.int .i64 n, .int .i64 0]) ∧ Below W.heap.size W w')
theorem divR_ok {a b c : Nat} {up : Bool} (hc : 0 < c) (h : divQ a b c up ≤ 9223372036854775807) : divR a b c up = ((divQ a b c up : Int), 0) := by
  rw [divR_of a b c up hc, if_pos h]
theorem upC (q t n : Nat) (hq : q ≤ 9223372036854775807) (ht : t ≤ 9223372036854775807) (h0 : 0 < t) (e : divQ q 1048576 t true = n) (hn : n ≤ 9223372036854775807) : RatC 43 #[.int .i64 (q : Int), .int .i64 (t : Int)] n := by
  have c := fun W => up_any (q : Int) (t : Int) ⟨by omega, by omega⟩ ⟨by omega, by omega⟩ W
  have d := divR_ok (a := q) (b := 1048576) (c := t) (up := true) h0 (by omega)
  rw [e] at d
  rw [show ((1048576 : Int)) = ((1048576 : Nat) : Int) from rfl, d] at c
  exact c
theorem wrap64_nat (p : Nat) (h : p ≤ 9223372036854775807) : wrap64 (p : Int) = p := by unfold wrap64; omega
theorem wrap64_mulN (n a : Nat) (h : n * a ≤ 9223372036854775807) : wrap64 ((n : Int) * (a : Int)) = ((n * a : Nat) : Int) := by
  rw [← Int.natCast_mul]
  exact wrap64_nat _ h

theorem divQ_near (a b c : Nat) : divQ a b c false ≤ divQ a b c true ∧ divQ a b c true ≤ divQ a b c false + 1 := by
  rw [divQ_down]
  unfold divQ
  split <;> omega
theorem divQ_mono {a b c a' b' : Nat} (hc : 0 < c) (h : a * b ≤ a' * b') : divQ a b c true ≤ divQ a' b' c true := by
  have h1 := (divQ_up (a := a) (b := b) hc).2
  have h2 := (divQ_up (a := a') (b := b') hc).1
  have h3 : divQ a b c true * c < (divQ a' b' c true + 1) * c := by
    rw [Nat.add_mul, Nat.one_mul]
    omega
  have := Nat.lt_of_mul_lt_mul_right h3
  omega
theorem divQ_whole (t : Nat) (up : Bool) : divQ 1048576 t 1048576 up = t := by
  unfold divQ
  rw [Nat.mul_div_cancel_left t (by omega), if_neg (by rw [Nat.mul_comm t]; simp)]

/-- What a block of two numbers holds, while callees make blocks behind it. -/
def Arr2 (w W : World) (a b : Int) : Prop :=
  w.heap.size < W.heap.size ∧ Below w.heap.size w W ∧ W.cell? ⟨w.heap.size, 0, none⟩ = some (.int .i64 a) ∧ W.cell? ⟨w.heap.size, 1, none⟩ = some (.int .i64 b)
theorem Arr2.next {w W W' : World} {a b : Int} (h : Arr2 w W a b) (hb : Below W.heap.size W W') : Arr2 w W' a b := by
  obtain ⟨hz, hB, p0, p1⟩ := h
  have hk : ∀ o, W'.cell? ⟨w.heap.size, o, none⟩ = W.cell? ⟨w.heap.size, o, none⟩ := fun o => hb.cell (p := ⟨w.heap.size, o, none⟩) hz
  exact ⟨Nat.lt_of_lt_of_le hz hb.size, hB.trans (hb.mono hB.size), (hk 0).trans p0, (hk 1).trans p1⟩
theorem Arr2.start (w : World) (a b : Int) (t : TypeId) : Arr2 w (w.alloc (.cells #[.int .i64 a, .int .i64 b] t)) a b :=
  ⟨by simp, (Below.refl _ _).alloc (Nat.le_refl _) _, by simp [go_sem], by simp [go_sem]⟩
theorem Arr2.done {w W W' : World} {a b : Int} (h : Arr2 w W a b) (hb : Below W.heap.size W W') : Below w.heap.size w W' := (h.next hb).2.1
end Go.Proofs.Ytfjepkakimhbbaa
