/-
  The walk of GrubUntil.
-/
import Derived.Test.YthncchngphlcfaaWalkG2
namespace Go.Proofs.Ythncchngphlcfaa
open Go.RowKit
set_option linter.unusedVariables false
set_option linter.unusedSimpArgs false

theorem Arr1.alloc {w W : World} {a : Int} (h : Arr1 w W a) (o : Obj) : Arr1 w (W.alloc o) a := h.next ((Below.refl _ _).alloc (Nat.le_refl _) _)
set_option maxRecDepth 20000 in
theorem until_o0 (r l x : Int) (h0 : decide (r < 0) = true) (cA : AwG) (w : World) :
    Calls Try.prog 7 #[.agg #[.int .i64 r], .int .i64 l, .int .i64 x] w fun E w' => E = .returned (.bool true) ∧ Below w.heap.size w w' := by
  have S0 := Lib.hid (Arr1.start w r 34)
  go_enter Try.func7, Try.ntmps7
  go_wp2_with fail
  refine (Hid.out cA _).mono ?_
  rintro e w1 ⟨rfl, b1⟩
  go_wp2
  go_ret
  exact ⟨rfl, (S0.out.next b1).2.1⟩

set_option maxRecDepth 20000 in
theorem until_o1 (r l x : Int) (h0 : decide (r < 0) = false) (h1 : decide (1048575 < r) = true) (cA : AwG) (w : World) :
    Calls Try.prog 7 #[.agg #[.int .i64 r], .int .i64 l, .int .i64 x] w fun E w' => E = .returned (.bool true) ∧ Below w.heap.size w w' := by
  have S0 := Lib.hid (Arr1.start w r 34)
  go_enter Try.func7, Try.ntmps7
  go_wp2_with fail
  refine (Hid.out cA _).mono ?_
  rintro e w1 ⟨rfl, b1⟩
  go_wp2
  go_ret
  exact ⟨rfl, (S0.out.next b1).2.1⟩

set_option maxRecDepth 20000 in
theorem until_o2 (r l x : Int) (h0 : decide (r < 0) = false) (h1 : decide (1048575 < r) = false) (h2 : decide (l < 0) = true) (cA : AwG) (w : World) :
    Calls Try.prog 7 #[.agg #[.int .i64 r], .int .i64 l, .int .i64 x] w fun E w' => E = .returned (.bool true) ∧ Below w.heap.size w w' := by
  have S0 := Lib.hid (Arr1.start w r 34)
  go_enter Try.func7, Try.ntmps7
  go_wp2_with fail
  refine (Hid.out cA _).mono ?_
  rintro e w1 ⟨rfl, b1⟩
  go_wp2
  go_ret
  exact ⟨rfl, (S0.out.next b1).2.1⟩

set_option maxRecDepth 20000 in
theorem until_o3 (r l x : Int) (h0 : decide (r < 0) = false) (h1 : decide (1048575 < r) = false) (h2 : decide (l < 0) = false) (h3 : decide (1073741824 < l) = true) (cA : AwG) (w : World) :
    Calls Try.prog 7 #[.agg #[.int .i64 r], .int .i64 l, .int .i64 x] w fun E w' => E = .returned (.bool true) ∧ Below w.heap.size w w' := by
  have S0 := Lib.hid (Arr1.start w r 34)
  go_enter Try.func7, Try.ntmps7
  go_wp2_with fail
  refine (Hid.out cA _).mono ?_
  rintro e w1 ⟨rfl, b1⟩
  go_wp2
  go_ret
  exact ⟨rfl, (S0.out.next b1).2.1⟩

set_option maxRecDepth 20000 in
theorem until_o4 (r l x : Int) (h0 : decide (r < 0) = false) (h1 : decide (1048575 < r) = false) (h2 : decide (l < 0) = false) (h3 : decide (1073741824 < l) = false) (h4 : decide (x < 1) = true) (cA : AwG) (w : World) :
    Calls Try.prog 7 #[.agg #[.int .i64 r], .int .i64 l, .int .i64 x] w fun E w' => E = .returned (.bool true) ∧ Below w.heap.size w w' := by
  have S0 := Lib.hid (Arr1.start w r 34)
  go_enter Try.func7, Try.ntmps7
  go_wp2_with fail
  refine (Hid.out cA _).mono ?_
  rintro e w1 ⟨rfl, b1⟩
  go_wp2
  go_ret
  exact ⟨rfl, (S0.out.next b1).2.1⟩

set_option maxRecDepth 20000 in
theorem until_o5 (r l x : Int) (h0 : decide (r < 0) = false) (h1 : decide (1048575 < r) = false) (h2 : decide (l < 0) = false) (h3 : decide (1073741824 < l) = false) (h4 : decide (x < 1) = false) (h5 : decide (1048576 < x) = true) (cA : AwG) (w : World) :
    Calls Try.prog 7 #[.agg #[.int .i64 r], .int .i64 l, .int .i64 x] w fun E w' => E = .returned (.bool true) ∧ Below w.heap.size w w' := by
  have S0 := Lib.hid (Arr1.start w r 34)
  go_enter Try.func7, Try.ntmps7
  go_wp2_with fail
  refine (Hid.out cA _).mono ?_
  rintro e w1 ⟨rfl, b1⟩
  go_wp2
  go_ret
  exact ⟨rfl, (S0.out.next b1).2.1⟩

set_option maxRecDepth 20000 in
theorem until_far (r l x : Int) (h0 : decide (r < 0) = false) (h1 : decide (1048575 < r) = false) (h2 : decide (l < 0) = false) (h3 : decide (1073741824 < l) = false) (h4 : decide (x < 1) = false) (h5 : decide (1048576 < x) = false) (CU : UnC r l x 0 21) (cA : AwG) (w : World) :
    Calls Try.prog 7 #[.agg #[.int .i64 r], .int .i64 l, .int .i64 x] w fun E w' => E = .returned (.bool true) ∧ Below w.heap.size w w' := by
  have S0 := Lib.hid (Arr1.start w r 34)
  go_enter Try.func7, Try.ntmps7
  go_wp2_with fail
  refine (Hid.out CU _).mono ?_
  rintro e w1 ⟨rfl, e1⟩
  have S1 := Lib.hid (S0.out.next e1)
  obtain ⟨_, _, p0⟩ := S1.out
  go_wp2_with fail
  refine (Hid.out cA _).mono ?_
  rintro e w2 ⟨rfl, e2⟩
  go_wp2
  go_ret
  exact ⟨rfl, (S1.out.next e2).2.1⟩

set_option maxRecDepth 20000 in
theorem until_zero (r l x : Int) (h0 : decide (r < 0) = false) (h1 : decide (1048575 < r) = false) (h2 : decide (l < 0) = false) (h3 : decide (1073741824 < l) = false) (h4 : decide (x < 1) = false) (h5 : decide (1048576 < x) = false) (l0 : (l == 0) = true) (l1 : decide (l ≤ 0) = true) (l2 : decide (0 < l) = false) (y : Int) (CU : UnC r l x 0 0) (C1 : ChC r 0 x 0 y 0) (g0 : decide (0 < l) = false) (C3 : ChC r 0 1048576 0 r 0) (C4 : UnC 0 l 1048576 l 0) (cA : AwG) (w : World) :
    Calls Try.prog 7 #[.agg #[.int .i64 r], .int .i64 l, .int .i64 x] w fun E w' => E = .returned (.bool true) ∧ Below w.heap.size w w' := by
  have S0 := Lib.hid (Arr1.start w r 34)
  go_enter Try.func7, Try.ntmps7
  go_wp2_with fail
  refine (Hid.out CU _).mono ?_
  rintro e w1 ⟨rfl, e1⟩
  have S1 := Lib.hid (S0.out.next e1)
  obtain ⟨_, _, p0⟩ := S1.out
  go_wp2_with fail
  refine (Hid.out C1 _).mono ?_
  rintro e w2 ⟨rfl, e2⟩
  have S2 := Lib.hid ((S1.out.next e2).alloc (.cells #[.int .i64 y] 34))
  clear p0
  obtain ⟨_, _, p0⟩ := (S1.out.next e2)
  have lt2 : w.heap.size < w2.heap.size := (S1.out.next e2).1
  go_wp2_with fail
  refine (Hid.out C3 _).mono ?_
  rintro e w3 ⟨rfl, e3⟩
  have S3 := Lib.hid ((S2.out.next e3).alloc (.cells #[.int .i64 r] 34))
  clear p0
  obtain ⟨_, _, p0⟩ := (S2.out.next e3)
  have lt3 : w.heap.size < w3.heap.size := (S2.out.next e3).1
  have B3 := Lib.hid (B1.start w3 34 r)
  go_wp2_with fail
  refine (Hid.out C4 _).mono ?_
  rintro e w4 ⟨rfl, e4⟩
  have S4 := Lib.hid (S3.out.next e4)
  obtain ⟨_, _, p0⟩ := S4.out
  have B4 := Lib.hid (B3.out.next e4)
  have q0 := B4.out.cell
  go_wp2_with fail
  refine (Hid.out cA _).mono ?_
  rintro e w5 ⟨rfl, e5⟩
  go_wp2
  go_ret
  exact ⟨rfl, (S4.out.next e5).2.1⟩

set_option maxRecDepth 20000 in
theorem until_core (r l x : Int) (h0 : decide (r < 0) = false) (h1 : decide (1048575 < r) = false) (h2 : decide (l < 0) = false) (h3 : decide (1073741824 < l) = false) (h4 : decide (x < 1) = false) (h5 : decide (1048576 < x) = false) (q n k y z : Int) (q0 : 1 ≤ q) (q1 : q < 1099511627776) (CU : UnC r l x q 0) (C1 : ChC r q x n y 0) (g0 : decide (n < l) = false) (C2 : ChC r (q - 1) x k z 0) (g1 : decide (l ≤ k) = false) (C3 : ChC r q 1048576 q r 0) (C4 : UnC 0 l 1048576 l 0) (cA : AwG) (w : World) :
    Calls Try.prog 7 #[.agg #[.int .i64 r], .int .i64 l, .int .i64 x] w fun E w' => E = .returned (.bool true) ∧ Below w.heap.size w w' := by
  have S0 := Lib.hid (Arr1.start w r 34)
  go_enter Try.func7, Try.ntmps7
  go_wp2_with fail
  refine (Hid.out CU _).mono ?_
  rintro e w1 ⟨rfl, e1⟩
  have S1 := Lib.hid (S0.out.next e1)
  obtain ⟨_, _, p0⟩ := S1.out
  go_wp2_with fail
  refine (Hid.out C1 _).mono ?_
  rintro e w2 ⟨rfl, e2⟩
  have S2 := Lib.hid ((S1.out.next e2).alloc (.cells #[.int .i64 y] 34))
  clear p0
  obtain ⟨_, _, p0⟩ := (S1.out.next e2)
  have lt2 : w.heap.size < w2.heap.size := (S1.out.next e2).1
  go_wp2_with fail
  refine (Hid.out C2 _).mono ?_
  rintro e w3 ⟨rfl, e3⟩
  have S3 := Lib.hid ((S2.out.next e3).alloc (.cells #[.int .i64 z] 34))
  clear p0
  obtain ⟨_, _, p0⟩ := (S2.out.next e3)
  have lt3 : w.heap.size < w3.heap.size := (S2.out.next e3).1
  go_wp2_with fail
  refine (Hid.out C3 _).mono ?_
  rintro e w4 ⟨rfl, e4⟩
  have S4 := Lib.hid ((S3.out.next e4).alloc (.cells #[.int .i64 r] 34))
  clear p0
  obtain ⟨_, _, p0⟩ := (S3.out.next e4)
  have lt4 : w.heap.size < w4.heap.size := (S3.out.next e4).1
  have B4 := Lib.hid (B1.start w4 34 r)
  go_wp2_with fail
  refine (Hid.out C4 _).mono ?_
  rintro e w5 ⟨rfl, e5⟩
  have S5 := Lib.hid (S4.out.next e5)
  obtain ⟨_, _, p0⟩ := S5.out
  have B5 := Lib.hid (B4.out.next e5)
  have q2 := B5.out.cell
  go_wp2_with fail
  refine (Hid.out cA _).mono ?_
  rintro e w6 ⟨rfl, e6⟩
  go_wp2
  go_ret
  exact ⟨rfl, (S5.out.next e6).2.1⟩

theorem walk_GrubUntil (r l x : Int) (w : World) (hr : -9223372036854775808 ≤ r ∧ r ≤ 9223372036854775807) (hl : -9223372036854775808 ≤ l ∧ l ≤ 9223372036854775807) (hx : -9223372036854775808 ≤ x ∧ x ≤ 9223372036854775807) :
    Calls Try.prog 7 #[.agg #[.int .i64 r], .int .i64 l, .int .i64 x] w fun E w' => E = .returned (.bool true) ∧ Below w.heap.size w w' := by
  by_cases h0 : r < 0
  · exact until_o0 r l x (decide_eq_true h0) awG w
  by_cases h1 : 1048575 < r
  · exact until_o1 r l x (decide_eq_false h0) (decide_eq_true h1) awG w
  by_cases h2 : l < 0
  · exact until_o2 r l x (decide_eq_false h0) (decide_eq_false h1) (decide_eq_true h2) awG w
  by_cases h3 : 1073741824 < l
  · exact until_o3 r l x (decide_eq_false h0) (decide_eq_false h1) (decide_eq_false h2) (decide_eq_true h3) awG w
  by_cases h4 : x < 1
  · exact until_o4 r l x (decide_eq_false h0) (decide_eq_false h1) (decide_eq_false h2) (decide_eq_false h3) (decide_eq_true h4) awG w
  by_cases h5 : 1048576 < x
  · exact until_o5 r l x (decide_eq_false h0) (decide_eq_false h1) (decide_eq_false h2) (decide_eq_false h3) (decide_eq_false h4) (decide_eq_true h5) awG w
  have hm : metE r = 0 := metE_ok (by omega) (by omega)
  have hx0 : ratE x = 0 := ratE_ok (by omega) (by omega)
  by_cases l0 : l = 0
  · have C1 := chC_ok (r := r) (t := 0) (x := x) (chE_ok (by omega) (by omega) (by omega) (by omega) (by omega) (by omega))
    have C3 := chC_ok (r := r) (t := 0) (x := 1048576) (chE_ok (by omega) (by omega) (by omega) (by omega) (by omega) (by omega))
    rw [Int.zero_mul, show (0 + r) / 1048576 = 0 by omega] at C1 C3
    rw [show (0 + r) % 1048576 = r by omega] at C3
    subst l0
    exact until_zero r 0 x (decide_eq_false h0) (decide_eq_false h1) (decide_eq_false h2) (decide_eq_false h3) (decide_eq_false h4) (decide_eq_false h5) (by rfl) (by rfl) (by rfl) _ (unC r 0 x (by unfold unR; rw [if_pos hm, if_pos hx0, if_neg (by omega), if_pos rfl])) C1 (by rfl) C3 (unC 0 0 1048576 (by decide)) awG w
  obtain ⟨q, q0, q1, q2, eq⟩ := unR_pos (r := r) (l := l) (x := x) (by omega) (by omega) (by omega) (by omega) (by omega) (by omega)
  obtain ⟨u, u0, u1, u2, eu⟩ := unR_pos (r := 0) (l := l) (x := 1048576) (by omega) (by omega) (by omega) (by omega) (by omega) (by omega)
  obtain rfl : u = l := by omega
  rw [if_pos (by omega)] at eu
  by_cases hq : q < 1099511627776
  · rw [if_pos hq] at eq
    have C1 := chC_ok (r := r) (t := q) (x := x) (chE_ok (by omega) (by omega) (by omega) (by omega) (by omega) (by omega))
    have C2 := chC_ok (r := r) (t := q - 1) (x := x) (chE_ok (by omega) (by omega) (by omega) (by omega) (by omega) (by omega))
    have C3 := chC_ok (r := r) (t := q) (x := 1048576) (chE_ok (by omega) (by omega) (by omega) (by omega) (by omega) (by omega))
    rw [show (q * 1048576 + r) / 1048576 = q by omega, show (q * 1048576 + r) % 1048576 = r by omega] at C3
    exact until_core r u x (decide_eq_false h0) (decide_eq_false h1) (decide_eq_false h2) (decide_eq_false h3) (decide_eq_false h4) (decide_eq_false h5) q _ _ _ _ q0 hq (unC r u x eq) C1 (decide_eq_false (by have := charged_ge q1; omega)) C2 (decide_eq_false (by have := charged_lt q2; omega)) C3 (unC 0 u 1048576 eu) awG w
  · rw [if_neg hq] at eq
    exact until_far r u x (decide_eq_false h0) (decide_eq_false h1) (decide_eq_false h2) (decide_eq_false h3) (decide_eq_false h4) (decide_eq_false h5) (unC r u x eq) awG w
end Go.Proofs.Ythncchngphlcfaa
