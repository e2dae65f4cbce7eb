/-
  The walk of RatioOrder.
-/
import Derived.Test.YthindhclcdbnfaaRatC
namespace Go.Proofs.Ythindhclcdbnfaa
open Go.RowKit
set_option linter.unusedVariables false

set_option maxRecDepth 20000 in
theorem rorder_out (q t m n : Int) (h : q < 0 ∨ 1099511627776 < q ∨ t < 1 ∨ 1099511627776 < t ∨ m < 0 ∨ 1099511627776 < m ∨ n < 0 ∨ 1099511627776 < n) (cA : AwC) (w : World) :
    Calls Try.prog 6 #[.int .i64 q, .int .i64 t, .agg #[.int .i64 m, .int .i64 n]] w fun E w' => E = .returned (.bool true) ∧ Below w.heap.size w w' := by
  by_cases h0 : q < 0
  · have h0' : decide (q < 0) = true := by simpa using h0
    clear h
    go_enter Try.func6, Try.ntmps6
    go_wp2_with (go_at_call 14; refine (Hid.out cA _).mono ?_; rintro E w1 ⟨rfl, b1⟩)
    go_ret
    exact ⟨rfl, below_alloc b1⟩
  have h0' : decide (q < 0) = false := by simpa using h0
  by_cases h1 : 1099511627776 < q
  · have h1' : decide (1099511627776 < q) = true := by simpa using h1
    clear h
    go_enter Try.func6, Try.ntmps6
    go_wp2_with (go_at_call 14; refine (Hid.out cA _).mono ?_; rintro E w1 ⟨rfl, b1⟩)
    go_ret
    exact ⟨rfl, below_alloc b1⟩
  have h1' : decide (1099511627776 < q) = false := by simpa using h1
  by_cases h2 : t < 1
  · have h2' : decide (t < 1) = true := by simpa using h2
    clear h
    go_enter Try.func6, Try.ntmps6
    go_wp2_with (go_at_call 14; refine (Hid.out cA _).mono ?_; rintro E w1 ⟨rfl, b1⟩)
    go_ret
    exact ⟨rfl, below_alloc b1⟩
  have h2' : decide (t < 1) = false := by simpa using h2
  by_cases h3 : 1099511627776 < t
  · have h3' : decide (1099511627776 < t) = true := by simpa using h3
    clear h
    go_enter Try.func6, Try.ntmps6
    go_wp2_with (go_at_call 14; refine (Hid.out cA _).mono ?_; rintro E w1 ⟨rfl, b1⟩)
    go_ret
    exact ⟨rfl, below_alloc b1⟩
  have h3' : decide (1099511627776 < t) = false := by simpa using h3
  by_cases h4 : m < 0
  · have h4' : decide (m < 0) = true := by simpa using h4
    clear h
    go_enter Try.func6, Try.ntmps6
    go_wp2_with (go_at_call 14; refine (Hid.out cA _).mono ?_; rintro E w1 ⟨rfl, b1⟩)
    go_ret
    exact ⟨rfl, below_alloc b1⟩
  have h4' : decide (m < 0) = false := by simpa using h4
  by_cases h5 : 1099511627776 < m
  · have h5' : decide (1099511627776 < m) = true := by simpa using h5
    clear h
    go_enter Try.func6, Try.ntmps6
    go_wp2_with (go_at_call 14; refine (Hid.out cA _).mono ?_; rintro E w1 ⟨rfl, b1⟩)
    go_ret
    exact ⟨rfl, below_alloc b1⟩
  have h5' : decide (1099511627776 < m) = false := by simpa using h5
  by_cases h6 : n < 0
  · have h6' : decide (n < 0) = true := by simpa using h6
    clear h
    go_enter Try.func6, Try.ntmps6
    go_wp2_with (go_at_call 14; refine (Hid.out cA _).mono ?_; rintro E w1 ⟨rfl, b1⟩)
    go_ret
    exact ⟨rfl, below_alloc b1⟩
  have h6' : decide (n < 0) = false := by simpa using h6
  have h7' : decide (1099511627776 < n) = true := by simp; omega
  clear h h0 h1 h2 h3 h4 h5 h6
  go_enter Try.func6, Try.ntmps6
  go_wp2_with (go_at_call 14; refine (Hid.out cA _).mono ?_; rintro E w1 ⟨rfl, b1⟩)
  go_ret
  exact ⟨rfl, below_alloc b1⟩

set_option maxRecDepth 20000 in
set_option maxHeartbeats 1000000 in
theorem rorder_core (q t m n a b c d y z : Int) (q0 : 0 ≤ q) (q1 : q ≤ 1099511627776) (t0 : 1 ≤ t) (t1 : t ≤ 1099511627776) (m0 : 0 ≤ m) (m1 : m ≤ 1099511627776) (n0 : 0 ≤ n) (n1 : n ≤ 1099511627776)
    (b0 : 0 ≤ b) (b1 : b ≤ 1152921504606846976)
    (f1 : decide (b ≤ a) = true) (f2 : decide (a ≤ b + 1) = true) (f3 : decide (a ≤ c) = true) (f4 : decide (d ≤ b) = true) (f5 : decide (q ≤ y) = true) (f6 : decide (z ≤ q) = true)
    (c1 : RatC 10 #[.int .i64 q, .int .i64 t] a) (c2 : RatC 11 #[.int .i64 q, .int .i64 t] b)
    (c3 : RatC 10 #[.int .i64 (q + m), .int .i64 t] c) (c4 : RatC 11 #[.int .i64 q, .int .i64 (t + n)] d)
    (c5 : RatC 12 #[.int .i64 1048576, .int .i64 t, .bool true] t) (c6 : RatC 12 #[.int .i64 a, .int .i64 t, .bool true] y) (c7 : RatC 12 #[.int .i64 b, .int .i64 t, .bool false] z) (cA : AwC) (w : World) :
    Calls Try.prog 6 #[.int .i64 q, .int .i64 t, .agg #[.int .i64 m, .int .i64 n]] w fun E w' => E = .returned (.bool true) ∧ Below w.heap.size w w' := by
  have g1 : decide (q < 0) = false := by simp; omega
  have g2 : decide (1099511627776 < q) = false := by simp; omega
  have g3 : decide (t < 1) = false := by simp; omega
  have g4 : decide (1099511627776 < t) = false := by simp; omega
  have g5 : decide (m < 0) = false := by simp; omega
  have g6 : decide (1099511627776 < m) = false := by simp; omega
  have g7 : decide (n < 0) = false := by simp; omega
  have g8 : decide (1099511627776 < n) = false := by simp; omega
  go_enter Try.func6, Try.ntmps6
  go_wp2_with fail
  refine (Hid.out c1 _).mono ?_
  rintro E w1 ⟨rfl, d1⟩
  have H1 := Lib.hid ((Arr2.start w m n 42).next d1)
  go_wp2_with fail
  refine (Hid.out c2 _).mono ?_
  rintro E w2 ⟨rfl, d2⟩
  have H2 := Lib.hid (H1.out.next d2)
  obtain ⟨_, _, p0, p1⟩ := H2.out
  go_wp2_with fail
  refine (Hid.out c3 _).mono ?_
  rintro E w3 ⟨rfl, d3⟩
  have H3 := Lib.hid (H2.out.next d3)
  clear p0 p1
  obtain ⟨_, _, p0, p1⟩ := H3.out
  go_wp2_with fail
  refine (Hid.out c4 _).mono ?_
  rintro E w4 ⟨rfl, d4⟩
  have H4 := Lib.hid (H3.out.next d4)
  clear p0 p1
  go_wp2_with fail
  refine (Hid.out c5 _).mono ?_
  rintro E w5 ⟨rfl, d5⟩
  go_wp2_with fail
  refine (Hid.out c6 _).mono ?_
  rintro E w6 ⟨rfl, d6⟩
  go_wp2_with fail
  refine (Hid.out c7 _).mono ?_
  rintro E w7 ⟨rfl, d7⟩
  go_wp2_with fail
  refine (Hid.out cA _).mono ?_
  rintro E w8 ⟨rfl, d8⟩
  go_wp2
  go_ret
  exact ⟨rfl, (((H4.out.next d5).next d6).next d7).done d8⟩

theorem walk_RatioOrder (q t m n : Int) (w : World) (hq : -9223372036854775808 ≤ q ∧ q ≤ 9223372036854775807) (ht : -9223372036854775808 ≤ t ∧ t ≤ 9223372036854775807) (hm : -9223372036854775808 ≤ m ∧ m ≤ 9223372036854775807) (hn : -9223372036854775808 ≤ n ∧ n ≤ 9223372036854775807) :
    Calls Try.prog 6 #[.int .i64 q, .int .i64 t, .agg #[.int .i64 m, .int .i64 n]] w fun E w' => E = .returned (.bool true) ∧ Below w.heap.size w w' := by
  by_cases h : q < 0 ∨ 1099511627776 < q ∨ t < 1 ∨ 1099511627776 < t ∨ m < 0 ∨ 1099511627776 < m ∨ n < 0 ∨ 1099511627776 < n
  · exact rorder_out q t m n h awC w
  obtain ⟨q, rfl⟩ := Int.eq_ofNat_of_zero_le (by omega : 0 ≤ q)
  obtain ⟨t, rfl⟩ := Int.eq_ofNat_of_zero_le (by omega : 0 ≤ t)
  obtain ⟨m, rfl⟩ := Int.eq_ofNat_of_zero_le (by omega : 0 ≤ m)
  obtain ⟨n, rfl⟩ := Int.eq_ofNat_of_zero_le (by omega : 0 ≤ n)
  have t0 : 0 < t := by omega
  obtain ⟨a, ea⟩ : ∃ a, divQ q 1048576 t true = a := ⟨_, rfl⟩
  obtain ⟨b, eb⟩ : ∃ b, divQ q 1048576 t false = b := ⟨_, rfl⟩
  obtain ⟨c, ec⟩ : ∃ c, divQ (q + m) 1048576 t true = c := ⟨_, rfl⟩
  obtain ⟨d, ed⟩ : ∃ d, divQ q 1048576 (t + n) false = d := ⟨_, rfl⟩
  obtain ⟨y, ey⟩ : ∃ y, divQ a t 1048576 true = y := ⟨_, rfl⟩
  obtain ⟨z, ez⟩ : ∃ z, divQ b t 1048576 false = z := ⟨_, rfl⟩
  have N := divQ_near q 1048576 t
  have M := divQ_mono (a := q) (b := 1048576) (a' := q + m) (b' := 1048576) t0 (by omega)
  have D : q * 1048576 / (t + n) ≤ q * 1048576 / t := Nat.div_le_div_left (by omega) t0
  have A := divQ_up (a := q) (b := 1048576) (c := t) t0
  have B := divQ_down_le (P := q * 1048576) (c := t) t0
  have C := divQ_up (a := q + m) (b := 1048576) (c := t) t0
  have Y := divQ_up (a := a) (b := t) (c := 1048576) (by omega)
  have Z := divQ_down_le (P := b * t) (c := 1048576) (by omega)
  rw [← divQ_down, ← divQ_down] at D
  rw [← divQ_down] at B Z
  rw [ea, eb] at N
  rw [ea, ec] at M
  rw [eb, ed] at D
  rw [ea] at A
  rw [eb] at B
  rw [ec] at C
  rw [ey] at Y
  rw [ez] at Z
  have a1 : a ≤ a * t := Nat.le_mul_of_pos_right _ t0
  have c1 : c ≤ c * t := Nat.le_mul_of_pos_right _ t0
  have b1 : b ≤ b * t := Nat.le_mul_of_pos_right _ t0
  have e3 : (q : Int) + (m : Int) = ((q + m : Nat) : Int) := by omega
  have e4 : (t : Int) + (n : Int) = ((t + n : Nat) : Int) := by omega
  exact rorder_core q t m n a b c d y z (by omega) (by omega) (by omega) (by omega) (by omega) (by omega) (by omega) (by omega) (by omega) (by omega)
    (decide_eq_true (by omega)) (decide_eq_true (by omega)) (decide_eq_true (by omega)) (decide_eq_true (by omega)) (decide_eq_true (by omega)) (decide_eq_true (by omega))
    (upC q t a (by omega) (by omega) t0 ea (by omega)) (downC q t b (by omega) (by omega) t0 eb (by omega))
    (by rw [e3]; exact upC (q + m) t c (by omega) (by omega) t0 ec (by omega)) (by rw [e4]; exact downC q (t + n) d (by omega) (by omega) (by omega) ed (by omega))
    (partC 1048576 t t true (by omega) (by omega) (divQ_whole t true) (by omega))
    (partC a t y true (by omega) (by omega) ey (by omega)) (partC b t z false (by omega) (by omega) ez (by omega)) awC w
end Go.Proofs.Ythindhclcdbnfaa
