/-
  The walk of GrubMore.
-/
import Derived.Test.YthncchngphlcfaaWalkG2
namespace Go.Proofs.Ythncchngphlcfaa
open Go.RowKit
set_option linter.unusedVariables false
set_option linter.unusedSimpArgs false

/-- A meter and two arrays of two, in three blocks that a function made at its beginning. -/
def One22 (w W : World) (r t m x y : Int) : Prop := w.heap.size + 1 + 1 < W.heap.size ∧ Below w.heap.size w W ∧ W.cell? ⟨w.heap.size, 0, none⟩ = some (.int .i64 r) ∧ (W.cell? ⟨w.heap.size + 1, 0, none⟩ = some (.int .i64 t) ∧ W.cell? ⟨w.heap.size + 1, 1, none⟩ = some (.int .i64 m)) ∧ W.cell? ⟨w.heap.size + 1 + 1, 0, none⟩ = some (.int .i64 x) ∧ W.cell? ⟨w.heap.size + 1 + 1, 1, none⟩ = some (.int .i64 y)
theorem One22.next {w W W' : World} {r t m x y : Int} (h : One22 w W r t m x y) (hb : Below W.heap.size W W') : One22 w W' r t m x y := by
  obtain ⟨hz, hB, p0, ⟨p1, p2⟩, p3, p4⟩ := h
  have hm : ∀ b o, b ≤ w.heap.size + 1 + 1 → W'.cell? ⟨b, o, none⟩ = W.cell? ⟨b, o, none⟩ := fun b o h => hb.cell (p := ⟨b, o, none⟩) (by show b < _; omega)
  exact ⟨Nat.lt_of_lt_of_le hz hb.size, hB.trans (hb.mono hB.size), (hm _ 0 (by omega)).trans p0, ⟨(hm _ 0 (by omega)).trans p1, (hm _ 1 (by omega)).trans p2⟩, (hm _ 0 (by omega)).trans p3, (hm _ 1 (by omega)).trans p4⟩
theorem One22.alloc {w W : World} {r t m x y : Int} (h : One22 w W r t m x y) (o : Obj) : One22 w (W.alloc o) r t m x y := h.next ((Below.refl _ _).alloc (Nat.le_refl _) _)
theorem One22.start (w : World) (r t m x y : Int) (T T' : TypeId) : One22 w (((w.alloc (.cells #[.int .i64 r] T)).alloc (.cells #[.int .i64 t, .int .i64 m] T')).alloc (.cells #[.int .i64 x, .int .i64 y] T')) r t m x y :=
  ⟨by simp, (((Below.refl _ _).alloc (Nat.le_refl _) _).alloc (by simp) _).alloc (by simp; omega) _, by simp [go_sem], ⟨by simp [go_sem], by simp [go_sem]⟩, by simp [go_sem], by simp [go_sem]⟩

set_option maxRecDepth 20000 in
theorem more_o0 (r t m x y : Int) (h0 : decide (r < 0) = true) (cA : AwG) (w : World) :
    Calls Try.prog 8 #[.agg #[.int .i64 r], .agg #[.int .i64 t, .int .i64 m], .agg #[.int .i64 x, .int .i64 y]] w fun E w' => E = .returned (.bool true) ∧ Below w.heap.size w w' := by
  have S0 := Lib.hid (One22.start w r t m x y 34 35)
  go_enter Try.func8, Try.ntmps8
  go_wp2_with fail
  refine (Hid.out cA _).mono ?_
  rintro e w1 ⟨rfl, b1⟩
  go_wp2
  go_ret
  exact ⟨rfl, (S0.out.next b1).2.1⟩

set_option maxRecDepth 20000 in
theorem more_o1 (r t m x y : Int) (h0 : decide (r < 0) = false) (h1 : decide (1048575 < r) = true) (cA : AwG) (w : World) :
    Calls Try.prog 8 #[.agg #[.int .i64 r], .agg #[.int .i64 t, .int .i64 m], .agg #[.int .i64 x, .int .i64 y]] w fun E w' => E = .returned (.bool true) ∧ Below w.heap.size w w' := by
  have S0 := Lib.hid (One22.start w r t m x y 34 35)
  go_enter Try.func8, Try.ntmps8
  go_wp2_with fail
  refine (Hid.out cA _).mono ?_
  rintro e w1 ⟨rfl, b1⟩
  go_wp2
  go_ret
  exact ⟨rfl, (S0.out.next b1).2.1⟩

set_option maxRecDepth 20000 in
theorem more_o2 (r t m x y : Int) (h0 : decide (r < 0) = false) (h1 : decide (1048575 < r) = false) (h2 : decide (t < 0) = true) (cA : AwG) (w : World) :
    Calls Try.prog 8 #[.agg #[.int .i64 r], .agg #[.int .i64 t, .int .i64 m], .agg #[.int .i64 x, .int .i64 y]] w fun E w' => E = .returned (.bool true) ∧ Below w.heap.size w w' := by
  have S0 := Lib.hid (One22.start w r t m x y 34 35)
  go_enter Try.func8, Try.ntmps8
  go_wp2_with fail
  refine (Hid.out cA _).mono ?_
  rintro e w1 ⟨rfl, b1⟩
  go_wp2
  go_ret
  exact ⟨rfl, (S0.out.next b1).2.1⟩

set_option maxRecDepth 20000 in
theorem more_o3 (r t m x y : Int) (h0 : decide (r < 0) = false) (h1 : decide (1048575 < r) = false) (h2 : decide (t < 0) = false) (h3 : decide (m < 0) = true) (cA : AwG) (w : World) :
    Calls Try.prog 8 #[.agg #[.int .i64 r], .agg #[.int .i64 t, .int .i64 m], .agg #[.int .i64 x, .int .i64 y]] w fun E w' => E = .returned (.bool true) ∧ Below w.heap.size w w' := by
  have S0 := Lib.hid (One22.start w r t m x y 34 35)
  go_enter Try.func8, Try.ntmps8
  go_wp2_with fail
  refine (Hid.out cA _).mono ?_
  rintro e w1 ⟨rfl, b1⟩
  go_wp2
  go_ret
  exact ⟨rfl, (S0.out.next b1).2.1⟩

set_option maxRecDepth 20000 in
theorem more_o4 (r t m x y : Int) (h0 : decide (r < 0) = false) (h1 : decide (1048575 < r) = false) (h2 : decide (t < 0) = false) (h3 : decide (m < 0) = false) (h4 : decide (549755813888 ≤ t) = true) (cA : AwG) (w : World) :
    Calls Try.prog 8 #[.agg #[.int .i64 r], .agg #[.int .i64 t, .int .i64 m], .agg #[.int .i64 x, .int .i64 y]] w fun E w' => E = .returned (.bool true) ∧ Below w.heap.size w w' := by
  have S0 := Lib.hid (One22.start w r t m x y 34 35)
  go_enter Try.func8, Try.ntmps8
  go_wp2_with fail
  refine (Hid.out cA _).mono ?_
  rintro e w1 ⟨rfl, b1⟩
  go_wp2
  go_ret
  exact ⟨rfl, (S0.out.next b1).2.1⟩

set_option maxRecDepth 20000 in
theorem more_o5 (r t m x y : Int) (h0 : decide (r < 0) = false) (h1 : decide (1048575 < r) = false) (h2 : decide (t < 0) = false) (h3 : decide (m < 0) = false) (h4 : decide (549755813888 ≤ t) = false) (h5 : decide (549755813888 ≤ m) = true) (cA : AwG) (w : World) :
    Calls Try.prog 8 #[.agg #[.int .i64 r], .agg #[.int .i64 t, .int .i64 m], .agg #[.int .i64 x, .int .i64 y]] w fun E w' => E = .returned (.bool true) ∧ Below w.heap.size w w' := by
  have S0 := Lib.hid (One22.start w r t m x y 34 35)
  go_enter Try.func8, Try.ntmps8
  go_wp2_with fail
  refine (Hid.out cA _).mono ?_
  rintro e w1 ⟨rfl, b1⟩
  go_wp2
  go_ret
  exact ⟨rfl, (S0.out.next b1).2.1⟩

set_option maxRecDepth 20000 in
theorem more_o6 (r t m x y : Int) (h0 : decide (r < 0) = false) (h1 : decide (1048575 < r) = false) (h2 : decide (t < 0) = false) (h3 : decide (m < 0) = false) (h4 : decide (549755813888 ≤ t) = false) (h5 : decide (549755813888 ≤ m) = false) (h6 : decide (x < 0) = true) (cA : AwG) (w : World) :
    Calls Try.prog 8 #[.agg #[.int .i64 r], .agg #[.int .i64 t, .int .i64 m], .agg #[.int .i64 x, .int .i64 y]] w fun E w' => E = .returned (.bool true) ∧ Below w.heap.size w w' := by
  have S0 := Lib.hid (One22.start w r t m x y 34 35)
  go_enter Try.func8, Try.ntmps8
  go_wp2_with fail
  refine (Hid.out cA _).mono ?_
  rintro e w1 ⟨rfl, b1⟩
  go_wp2
  go_ret
  exact ⟨rfl, (S0.out.next b1).2.1⟩

set_option maxRecDepth 20000 in
theorem more_o7 (r t m x y : Int) (h0 : decide (r < 0) = false) (h1 : decide (1048575 < r) = false) (h2 : decide (t < 0) = false) (h3 : decide (m < 0) = false) (h4 : decide (549755813888 ≤ t) = false) (h5 : decide (549755813888 ≤ m) = false) (h6 : decide (x < 0) = false) (h7 : decide (y < x) = true) (cA : AwG) (w : World) :
    Calls Try.prog 8 #[.agg #[.int .i64 r], .agg #[.int .i64 t, .int .i64 m], .agg #[.int .i64 x, .int .i64 y]] w fun E w' => E = .returned (.bool true) ∧ Below w.heap.size w w' := by
  have S0 := Lib.hid (One22.start w r t m x y 34 35)
  go_enter Try.func8, Try.ntmps8
  go_wp2_with fail
  refine (Hid.out cA _).mono ?_
  rintro e w1 ⟨rfl, b1⟩
  go_wp2
  go_ret
  exact ⟨rfl, (S0.out.next b1).2.1⟩

set_option maxRecDepth 20000 in
theorem more_o8 (r t m x y : Int) (h0 : decide (r < 0) = false) (h1 : decide (1048575 < r) = false) (h2 : decide (t < 0) = false) (h3 : decide (m < 0) = false) (h4 : decide (549755813888 ≤ t) = false) (h5 : decide (549755813888 ≤ m) = false) (h6 : decide (x < 0) = false) (h7 : decide (y < x) = false) (h8 : decide (1048576 < y) = true) (cA : AwG) (w : World) :
    Calls Try.prog 8 #[.agg #[.int .i64 r], .agg #[.int .i64 t, .int .i64 m], .agg #[.int .i64 x, .int .i64 y]] w fun E w' => E = .returned (.bool true) ∧ Below w.heap.size w w' := by
  have S0 := Lib.hid (One22.start w r t m x y 34 35)
  go_enter Try.func8, Try.ntmps8
  go_wp2_with fail
  refine (Hid.out cA _).mono ?_
  rintro e w1 ⟨rfl, b1⟩
  go_wp2
  go_ret
  exact ⟨rfl, (S0.out.next b1).2.1⟩

set_option maxRecDepth 20000 in
theorem more_core (r t m x y : Int) (t0 : 0 ≤ t) (t1 : t < 549755813888) (m0 : 0 ≤ m) (m1 : m < 549755813888) (a b c d a' b' c' d' : Int) (a0 : 0 ≤ a) (a1 : a ≤ 1099511627776) (b0 : 0 ≤ b) (b1 : b ≤ 1099511627776) (h0 : decide (r < 0) = false) (h1 : decide (1048575 < r) = false) (h2 : decide (t < 0) = false) (h3 : decide (m < 0) = false) (h4 : decide (549755813888 ≤ t) = false) (h5 : decide (549755813888 ≤ m) = false) (h6 : decide (x < 0) = false) (h7 : decide (y < x) = false) (h8 : decide (1048576 < y) = false) (CA : ChC r t x a a' 0) (CB : ChC r (t + m) x b b' 0) (CC : ChC r t y c c' 0) (CD : ChC r (t + 1) x d d' 0) (g1 : decide (a ≤ b) = true) (g2 : decide (b - a ≤ m) = true) (g3 : decide (a ≤ c) = true) (g4 : decide (a ≤ d) = true) (g5 : decide (d ≤ a + 1) = true) (cA : AwG) (w : World) :
    Calls Try.prog 8 #[.agg #[.int .i64 r], .agg #[.int .i64 t, .int .i64 m], .agg #[.int .i64 x, .int .i64 y]] w fun E w' => E = .returned (.bool true) ∧ Below w.heap.size w w' := by
  have S0 := Lib.hid (One22.start w r t m x y 34 35)
  go_enter Try.func8, Try.ntmps8
  go_wp2_with fail
  refine (Hid.out CA _).mono ?_
  rintro e w1 ⟨rfl, e1⟩
  have S1 := Lib.hid ((S0.out.next e1).alloc (.cells #[.int .i64 a'] 34))
  obtain ⟨_, _, p0, ⟨p1, p2⟩, p3, p4⟩ := (S0.out.next e1)
  have lt0 : w.heap.size < w1.heap.size := by have := (S0.out.next e1).1; omega
  have lt1 : w.heap.size + 1 < w1.heap.size := by have := (S0.out.next e1).1; omega
  have lt2 : w.heap.size + 1 + 1 < w1.heap.size := by have := (S0.out.next e1).1; omega
  go_wp2_with fail
  refine (Hid.out CB _).mono ?_
  rintro e w2 ⟨rfl, e2⟩
  have S2 := Lib.hid ((S1.out.next e2).alloc (.cells #[.int .i64 b'] 34))
  obtain ⟨_, _, p0, ⟨p1, p2⟩, p3, p4⟩ := (S1.out.next e2)
  have lt0 : w.heap.size < w2.heap.size := by have := (S1.out.next e2).1; omega
  have lt1 : w.heap.size + 1 < w2.heap.size := by have := (S1.out.next e2).1; omega
  have lt2 : w.heap.size + 1 + 1 < w2.heap.size := by have := (S1.out.next e2).1; omega
  go_wp2_with fail
  refine (Hid.out CC _).mono ?_
  rintro e w3 ⟨rfl, e3⟩
  have S3 := Lib.hid ((S2.out.next e3).alloc (.cells #[.int .i64 c'] 34))
  obtain ⟨_, _, p0, ⟨p1, p2⟩, p3, p4⟩ := (S2.out.next e3)
  have lt0 : w.heap.size < w3.heap.size := by have := (S2.out.next e3).1; omega
  have lt1 : w.heap.size + 1 < w3.heap.size := by have := (S2.out.next e3).1; omega
  have lt2 : w.heap.size + 1 + 1 < w3.heap.size := by have := (S2.out.next e3).1; omega
  go_wp2_with fail
  refine (Hid.out CD _).mono ?_
  rintro e w4 ⟨rfl, e4⟩
  have S4 := Lib.hid ((S3.out.next e4).alloc (.cells #[.int .i64 d'] 34))
  obtain ⟨_, _, p0, ⟨p1, p2⟩, p3, p4⟩ := (S3.out.next e4)
  have lt0 : w.heap.size < w4.heap.size := by have := (S3.out.next e4).1; omega
  have lt1 : w.heap.size + 1 < w4.heap.size := by have := (S3.out.next e4).1; omega
  have lt2 : w.heap.size + 1 + 1 < w4.heap.size := by have := (S3.out.next e4).1; omega
  go_wp2_with fail
  refine (Hid.out cA _).mono ?_
  rintro e w5 ⟨rfl, e5⟩
  go_wp2
  go_ret
  exact ⟨rfl, (S4.out.next e5).2.1⟩

theorem div_grow {A B m : Int} (h0 : 0 ≤ B) (h : B ≤ m * 1048576) : A / 1048576 ≤ (A + B) / 1048576 ∧ (A + B) / 1048576 - A / 1048576 ≤ m := by omega
theorem walk_GrubMore (r t m x y : Int) (w : World) (hr : -9223372036854775808 ≤ r ∧ r ≤ 9223372036854775807) (ht : -9223372036854775808 ≤ t ∧ t ≤ 9223372036854775807) (hm : -9223372036854775808 ≤ m ∧ m ≤ 9223372036854775807) (hx : -9223372036854775808 ≤ x ∧ x ≤ 9223372036854775807) (hy : -9223372036854775808 ≤ y ∧ y ≤ 9223372036854775807) :
    Calls Try.prog 8 #[.agg #[.int .i64 r], .agg #[.int .i64 t, .int .i64 m], .agg #[.int .i64 x, .int .i64 y]] w fun E w' => E = .returned (.bool true) ∧ Below w.heap.size w w' := by
  by_cases h0 : r < 0
  · exact more_o0 r t m x y (decide_eq_true h0) awG w
  by_cases h1 : 1048575 < r
  · exact more_o1 r t m x y (decide_eq_false h0) (decide_eq_true h1) awG w
  by_cases h2 : t < 0
  · exact more_o2 r t m x y (decide_eq_false h0) (decide_eq_false h1) (decide_eq_true h2) awG w
  by_cases h3 : m < 0
  · exact more_o3 r t m x y (decide_eq_false h0) (decide_eq_false h1) (decide_eq_false h2) (decide_eq_true h3) awG w
  by_cases h4 : 549755813888 ≤ t
  · exact more_o4 r t m x y (decide_eq_false h0) (decide_eq_false h1) (decide_eq_false h2) (decide_eq_false h3) (decide_eq_true h4) awG w
  by_cases h5 : 549755813888 ≤ m
  · exact more_o5 r t m x y (decide_eq_false h0) (decide_eq_false h1) (decide_eq_false h2) (decide_eq_false h3) (decide_eq_false h4) (decide_eq_true h5) awG w
  by_cases h6 : x < 0
  · exact more_o6 r t m x y (decide_eq_false h0) (decide_eq_false h1) (decide_eq_false h2) (decide_eq_false h3) (decide_eq_false h4) (decide_eq_false h5) (decide_eq_true h6) awG w
  by_cases h7 : y < x
  · exact more_o7 r t m x y (decide_eq_false h0) (decide_eq_false h1) (decide_eq_false h2) (decide_eq_false h3) (decide_eq_false h4) (decide_eq_false h5) (decide_eq_false h6) (decide_eq_true h7) awG w
  by_cases h8 : 1048576 < y
  · exact more_o8 r t m x y (decide_eq_false h0) (decide_eq_false h1) (decide_eq_false h2) (decide_eq_false h3) (decide_eq_false h4) (decide_eq_false h5) (decide_eq_false h6) (decide_eq_false h7) (decide_eq_true h8) awG w
  have x1 : x ≤ 1048576 := by omega
  have CA := chC_ok (r := r) (t := t) (x := x) (chE_ok (by omega) (by omega) (by omega) (by omega) (by omega) (by omega))
  have CB := chC_ok (r := r) (t := t + m) (x := x) (chE_ok (by omega) (by omega) (by omega) (by omega) (by omega) (by omega))
  have CC := chC_ok (r := r) (t := t) (x := y) (chE_ok (by omega) (by omega) (by omega) (by omega) (by omega) (by omega))
  have CD := chC_ok (r := r) (t := t + 1) (x := x) (chE_ok (by omega) (by omega) (by omega) (by omega) (by omega) (by omega))
  have k0 : 0 ≤ t * x := Int.mul_nonneg (by omega) (by omega)
  have k1 : t * x ≤ 549755813888 * 1048576 := Int.mul_le_mul (by omega) x1 (by omega) (by omega)
  have k2 : 0 ≤ m * x := Int.mul_nonneg (by omega) (by omega)
  have k3 : m * x ≤ m * 1048576 := Int.mul_le_mul_of_nonneg_left x1 (by omega)
  have k4 : t * x ≤ t * y := Int.mul_le_mul_of_nonneg_left (by omega) (by omega)
  have e1 : (t + m) * x + r = t * x + r + m * x := by rw [Int.add_mul]; omega
  have e2 : (t + 1) * x + r = t * x + r + x := by rw [Int.add_mul, Int.one_mul]; omega
  obtain ⟨f1, f2⟩ := div_grow (A := t * x + r) k2 k3
  obtain ⟨f3, f4⟩ := div_grow (A := t * x + r) (B := x) (m := 1) (by omega) (by omega)
  have f5 : (t * x + r) / 1048576 ≤ (t * y + r) / 1048576 := Int.ediv_le_ediv (by omega) (by omega)
  rw [e1] at CB
  rw [e2] at CD
  exact more_core r t m x y (by omega) (by omega) (by omega) (by omega) _ _ _ _ _ _ _ _ (by omega) (by omega) (by omega) (by omega) (decide_eq_false h0) (decide_eq_false h1) (decide_eq_false h2) (decide_eq_false h3) (decide_eq_false h4) (decide_eq_false h5) (decide_eq_false h6) (decide_eq_false h7) (decide_eq_false h8) CA CB CC CD (decide_eq_true f1) (decide_eq_true f2) (decide_eq_true f5) (decide_eq_true f3) (decide_eq_true (by omega)) awG w
end Go.Proofs.Ythncchngphlcfaa
