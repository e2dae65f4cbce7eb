/-
  The walk of RatioShares.
-/
import Derived.Test.YthindhclcdbnfaaRatC
namespace Go.Proofs.Ythindhclcdbnfaa
open Go.RowKit
set_option linter.unusedVariables false

set_option maxRecDepth 20000 in
theorem shares_core (n t a b x y na nb nx ny : Int) (h1 : decide (n < 1) = false) (h2 : decide (1000 < n) = false) (h3 : decide (t < 0) = false) (h4 : decide (1099511627776 < t) = false)
    (e1 : wrap64 (n * a) = na) (e2 : wrap64 (n * b) = nb) (e3 : wrap64 (n * x) = nx) (e4 : wrap64 (n * y) = ny)
    (f1 : decide (1048576 ≤ na) = true) (f2 : decide (nb ≤ 1048576) = true) (f3 : decide (t ≤ nx) = true) (f4 : decide (ny ≤ t) = true)
    (c1 : RatC 10 #[.int .i64 1, .int .i64 n] a) (c2 : RatC 11 #[.int .i64 1, .int .i64 n] b)
    (c3 : RatC 12 #[.int .i64 a, .int .i64 t, .bool true] x) (c4 : RatC 12 #[.int .i64 b, .int .i64 t, .bool false] y) (cA : AwC) (w : World) :
    Calls Try.prog 9 #[.int .i64 n, .int .i64 t] w fun E w' => E = .returned (.bool true) ∧ Below w.heap.size w w' := by
  go_enter Try.func9, Try.ntmps9
  go_wp2_with fail
  refine (Hid.out c1 _).mono ?_
  rintro E w1 ⟨rfl, b1⟩
  go_wp2_with fail
  refine (Hid.out c2 _).mono ?_
  rintro E w2 ⟨rfl, b2⟩
  go_wp2_with fail
  refine (Hid.out c3 _).mono ?_
  rintro E w3 ⟨rfl, b3⟩
  go_wp2_with fail
  refine (Hid.out c4 _).mono ?_
  rintro E w4 ⟨rfl, b4⟩
  go_wp2_with fail
  refine (Hid.out cA _).mono ?_
  rintro E w5 ⟨rfl, b5⟩
  go_wp2
  go_ret
  have q2 := b1.trans (b2.mono b1.size)
  have q3 := q2.trans (b3.mono q2.size)
  have q4 := q3.trans (b4.mono q3.size)
  exact ⟨rfl, q4.trans (b5.mono q4.size)⟩

theorem shares_out (n t : Int) (h : n < 1 ∨ 1000 < n ∨ t < 0 ∨ 1099511627776 < t) (cA : AwC) (w : World) :
    Calls Try.prog 9 #[.int .i64 n, .int .i64 t] w fun E w' => E = .returned (.bool true) ∧ Below w.heap.size w w' := by
  by_cases h1 : n < 1
  · have h1' : decide (n < 1) = true := by simpa using h1
    go_enter Try.func9, Try.ntmps9
    go_wp2_with (go_at_call 14; refine (Hid.out cA _).mono ?_; rintro E w1 ⟨rfl, b1⟩)
    go_ret
    exact ⟨rfl, b1⟩
  have h1' : decide (n < 1) = false := by simpa using h1
  by_cases h2 : 1000 < n
  · have h2' : decide (1000 < n) = true := by simpa using h2
    go_enter Try.func9, Try.ntmps9
    go_wp2_with (go_at_call 14; refine (Hid.out cA _).mono ?_; rintro E w1 ⟨rfl, b1⟩)
    go_ret
    exact ⟨rfl, b1⟩
  have h2' : decide (1000 < n) = false := by simpa using h2
  by_cases h3 : t < 0
  · have h3' : decide (t < 0) = true := by simpa using h3
    go_enter Try.func9, Try.ntmps9
    go_wp2_with (go_at_call 14; refine (Hid.out cA _).mono ?_; rintro E w1 ⟨rfl, b1⟩)
    go_ret
    exact ⟨rfl, b1⟩
  have h3' : decide (t < 0) = false := by simpa using h3
  have h4' : decide (1099511627776 < t) = true := by simp; omega
  go_enter Try.func9, Try.ntmps9
  go_wp2_with (go_at_call 14; refine (Hid.out cA _).mono ?_; rintro E w1 ⟨rfl, b1⟩)
  go_ret
  exact ⟨rfl, b1⟩

theorem walk_RatioShares (n t : Int) (w : World) (hn : -9223372036854775808 ≤ n ∧ n ≤ 9223372036854775807) (ht : -9223372036854775808 ≤ t ∧ t ≤ 9223372036854775807) :
    Calls Try.prog 9 #[.int .i64 n, .int .i64 t] w fun E w' => E = .returned (.bool true) ∧ Below w.heap.size w w' := by
  by_cases h : n < 1 ∨ 1000 < n ∨ t < 0 ∨ 1099511627776 < t
  · exact shares_out n t h awC w
  obtain ⟨n, rfl⟩ := Int.eq_ofNat_of_zero_le (by omega : 0 ≤ n)
  obtain ⟨t, rfl⟩ := Int.eq_ofNat_of_zero_le (by omega : 0 ≤ t)
  have n0 : 0 < n := by omega
  have n1 : n ≤ 1000 := by omega
  have t1 : t ≤ 1099511627776 := by omega
  obtain ⟨a, ea⟩ : ∃ a, divQ 1 1048576 n true = a := ⟨_, rfl⟩
  obtain ⟨b, eb⟩ : ∃ b, divQ 1 1048576 n false = b := ⟨_, rfl⟩
  obtain ⟨x, ex⟩ : ∃ x, divQ a t 1048576 true = x := ⟨_, rfl⟩
  obtain ⟨y, ey⟩ : ∃ y, divQ b t 1048576 false = y := ⟨_, rfl⟩
  have A := divQ_up (a := 1) (b := 1048576) (c := n) n0
  have B := divQ_down_le (P := 1 * 1048576) (c := n) n0
  have X := divQ_up (a := a) (b := t) (c := 1048576) (by omega)
  have Y := divQ_down_le (P := b * t) (c := 1048576) (by omega)
  rw [← divQ_down] at B Y
  rw [ea] at A
  rw [eb] at B
  rw [ex] at X
  rw [ey] at Y
  have a1 : a ≤ a * n := Nat.le_mul_of_pos_right _ n0
  have b1 : b ≤ b * n := Nat.le_mul_of_pos_right _ n0
  have at1 : a * t ≤ 1049576 * 1099511627776 := Nat.mul_le_mul (by omega) t1
  have bt1 : b * t ≤ 1049576 * 1099511627776 := Nat.mul_le_mul (by omega) t1
  have nx1 : n * x ≤ 1000 * 1100560252929 := Nat.mul_le_mul n1 (by omega)
  have ny1 : n * y ≤ 1000 * 1100560252929 := Nat.mul_le_mul n1 (by omega)
  rw [Nat.mul_comm a n] at A
  rw [Nat.mul_comm b n] at B
  rw [Nat.mul_comm a n] at a1
  rw [Nat.mul_comm b n] at b1
  have an : n * (a * t) = n * a * t := (Nat.mul_assoc _ _ _).symm
  have bn : n * (b * t) = n * b * t := (Nat.mul_assoc _ _ _).symm
  have k1 : n * (a * t) ≤ n * (x * 1048576) := Nat.mul_le_mul_left _ X.1
  have k2 : n * (y * 1048576) ≤ n * (b * t) := Nat.mul_le_mul_left _ Y.1
  have k3 : 1048576 * t ≤ n * a * t := Nat.mul_le_mul_right _ (by omega)
  have k4 : n * b * t ≤ 1048576 * t := Nat.mul_le_mul_right _ (by omega)
  rw [an, ← Nat.mul_assoc n x] at k1
  rw [bn, ← Nat.mul_assoc n y] at k2
  have f3 : t ≤ n * x := by omega
  have f4 : n * y ≤ t := by omega
  exact shares_core n t a b x y _ _ _ _ (by simp; omega) (by simp; omega) (by simp) (by simp; omega)
    (wrap64_mulN n a (by omega)) (wrap64_mulN n b (by omega)) (wrap64_mulN n x (by omega)) (wrap64_mulN n y (by omega))
    (decide_eq_true (by omega)) (decide_eq_true (by omega)) (decide_eq_true (by omega)) (decide_eq_true (by omega))
    (upC 1 n a (by omega) (by omega) n0 ea (by omega)) (downC 1 n b (by omega) (by omega) n0 eb (by omega))
    (partC a t x true (by omega) (by omega) ex (by omega)) (partC b t y false (by omega) (by omega) ey (by omega)) awC w
end Go.Proofs.Ythindhclcdbnfaa
