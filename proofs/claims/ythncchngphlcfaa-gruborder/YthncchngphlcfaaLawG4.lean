/-
  The walk of GrubOrder.
-/
import Derived.Test.YthncchngphlcfaaGd
namespace Go.Proofs.Ythncchngphlcfaa
open Go.RowKit
set_option linter.unusedVariables false
set_option linter.unusedSimpArgs false

set_option maxRecDepth 20000 in
theorem gorder_o1 (a c k u m : Int)  (CM : Hid (∀ W, Calls Try.prog 11 #[.agg #[.int .i64 a, .int .i64 c, .int .i64 k]] W fun E w' => E = .returned (.bool false) ∧ Below W.heap.size W w')) (cA : AwG) (w : World) :
    Calls Try.prog 6 #[.agg #[.int .i64 a, .int .i64 c, .int .i64 k], .int .i64 u, .int .i64 m] w fun E w' => E = .returned (.bool true) ∧ Below w.heap.size w w' := by
  have S0 := Lib.hid (B3.start w 23 a c k)
  have B0 := Lib.hid ((Below.refl w.heap.size w).alloc (Nat.le_refl _) (.cells #[.int .i64 a, .int .i64 c, .int .i64 k] 23))
  go_enter Try.func6, Try.ntmps6
  go_wp2_with fail
  refine (Hid.out CM _).mono ?_
  rintro e w1 ⟨rfl, b1⟩
  have S1 := Lib.hid (S0.out.next b1)
  have B1' := Lib.hid (B0.out.trans (b1.mono B0.out.size))
  obtain ⟨p0, p1, p2⟩ := S1.out.cells
  go_wp2_with fail
  refine (Hid.out cA _).mono ?_
  rintro e w2 ⟨rfl, b2⟩
  go_wp2
  go_ret
  exact ⟨rfl, B1'.out.trans (b2.mono B1'.out.size)⟩

set_option maxRecDepth 20000 in
theorem gorder_o2 (a c k u m : Int) (u0 : decide (u < 0) = true) (CM : Hid (∀ W, Calls Try.prog 11 #[.agg #[.int .i64 a, .int .i64 c, .int .i64 k]] W fun E w' => E = .returned (.bool true) ∧ Below W.heap.size W w')) (cA : AwG) (w : World) :
    Calls Try.prog 6 #[.agg #[.int .i64 a, .int .i64 c, .int .i64 k], .int .i64 u, .int .i64 m] w fun E w' => E = .returned (.bool true) ∧ Below w.heap.size w w' := by
  have S0 := Lib.hid (B3.start w 23 a c k)
  have B0 := Lib.hid ((Below.refl w.heap.size w).alloc (Nat.le_refl _) (.cells #[.int .i64 a, .int .i64 c, .int .i64 k] 23))
  go_enter Try.func6, Try.ntmps6
  go_wp2_with fail
  refine (Hid.out CM _).mono ?_
  rintro e w1 ⟨rfl, b1⟩
  have S1 := Lib.hid (S0.out.next b1)
  have B1' := Lib.hid (B0.out.trans (b1.mono B0.out.size))
  obtain ⟨p0, p1, p2⟩ := S1.out.cells
  go_wp2_with fail
  refine (Hid.out cA _).mono ?_
  rintro e w2 ⟨rfl, b2⟩
  go_wp2
  go_ret
  exact ⟨rfl, B1'.out.trans (b2.mono B1'.out.size)⟩

set_option maxRecDepth 20000 in
theorem gorder_o3 (a c k u m : Int) (u0 : decide (u < 0) = false) (u1 : decide (1048576 < u) = true) (CM : Hid (∀ W, Calls Try.prog 11 #[.agg #[.int .i64 a, .int .i64 c, .int .i64 k]] W fun E w' => E = .returned (.bool true) ∧ Below W.heap.size W w')) (cA : AwG) (w : World) :
    Calls Try.prog 6 #[.agg #[.int .i64 a, .int .i64 c, .int .i64 k], .int .i64 u, .int .i64 m] w fun E w' => E = .returned (.bool true) ∧ Below w.heap.size w w' := by
  have S0 := Lib.hid (B3.start w 23 a c k)
  have B0 := Lib.hid ((Below.refl w.heap.size w).alloc (Nat.le_refl _) (.cells #[.int .i64 a, .int .i64 c, .int .i64 k] 23))
  go_enter Try.func6, Try.ntmps6
  go_wp2_with fail
  refine (Hid.out CM _).mono ?_
  rintro e w1 ⟨rfl, b1⟩
  have S1 := Lib.hid (S0.out.next b1)
  have B1' := Lib.hid (B0.out.trans (b1.mono B0.out.size))
  obtain ⟨p0, p1, p2⟩ := S1.out.cells
  go_wp2_with fail
  refine (Hid.out cA _).mono ?_
  rintro e w2 ⟨rfl, b2⟩
  go_wp2
  go_ret
  exact ⟨rfl, B1'.out.trans (b2.mono B1'.out.size)⟩

set_option maxRecDepth 20000 in
theorem gorder_o4 (a c k u m : Int) (u0 : decide (u < 0) = false) (u1 : decide (1048576 < u) = false) (m0 : decide (m < 0) = true) (CM : Hid (∀ W, Calls Try.prog 11 #[.agg #[.int .i64 a, .int .i64 c, .int .i64 k]] W fun E w' => E = .returned (.bool true) ∧ Below W.heap.size W w')) (cA : AwG) (w : World) :
    Calls Try.prog 6 #[.agg #[.int .i64 a, .int .i64 c, .int .i64 k], .int .i64 u, .int .i64 m] w fun E w' => E = .returned (.bool true) ∧ Below w.heap.size w w' := by
  have S0 := Lib.hid (B3.start w 23 a c k)
  have B0 := Lib.hid ((Below.refl w.heap.size w).alloc (Nat.le_refl _) (.cells #[.int .i64 a, .int .i64 c, .int .i64 k] 23))
  go_enter Try.func6, Try.ntmps6
  go_wp2_with fail
  refine (Hid.out CM _).mono ?_
  rintro e w1 ⟨rfl, b1⟩
  have S1 := Lib.hid (S0.out.next b1)
  have B1' := Lib.hid (B0.out.trans (b1.mono B0.out.size))
  obtain ⟨p0, p1, p2⟩ := S1.out.cells
  go_wp2_with fail
  refine (Hid.out cA _).mono ?_
  rintro e w2 ⟨rfl, b2⟩
  go_wp2
  go_ret
  exact ⟨rfl, B1'.out.trans (b2.mono B1'.out.size)⟩

set_option maxRecDepth 20000 in
theorem gorder_o5 (a c k u m : Int) (a0 : 0 ≤ a) (a1 : a ≤ 67108864) (u0 : decide (u < 0) = false) (u1 : decide (1048576 < u) = false) (m0 : decide (m < 0) = false) (m1 : decide (67108864 - a < m) = true) (CM : Hid (∀ W, Calls Try.prog 11 #[.agg #[.int .i64 a, .int .i64 c, .int .i64 k]] W fun E w' => E = .returned (.bool true) ∧ Below W.heap.size W w')) (cA : AwG) (w : World) :
    Calls Try.prog 6 #[.agg #[.int .i64 a, .int .i64 c, .int .i64 k], .int .i64 u, .int .i64 m] w fun E w' => E = .returned (.bool true) ∧ Below w.heap.size w w' := by
  have S0 := Lib.hid (B3.start w 23 a c k)
  have B0 := Lib.hid ((Below.refl w.heap.size w).alloc (Nat.le_refl _) (.cells #[.int .i64 a, .int .i64 c, .int .i64 k] 23))
  go_enter Try.func6, Try.ntmps6
  go_wp2_with fail
  refine (Hid.out CM _).mono ?_
  rintro e w1 ⟨rfl, b1⟩
  have S1 := Lib.hid (S0.out.next b1)
  have B1' := Lib.hid (B0.out.trans (b1.mono B0.out.size))
  obtain ⟨p0, p1, p2⟩ := S1.out.cells
  go_wp2_with fail
  refine (Hid.out cA _).mono ?_
  rintro e w2 ⟨rfl, b2⟩
  go_wp2
  go_ret
  exact ⟨rfl, B1'.out.trans (b2.mono B1'.out.size)⟩

set_option maxRecDepth 20000 in
theorem gorder_core (a c k u m : Int) (ra rb rc : Int) (a0 : 0 ≤ a) (a1 : a ≤ 67108864) (c0 : 0 ≤ c) (c1 : c ≤ 1048576) (k0 : 1 ≤ k) (k1 : k ≤ 16) (x0 : 0 ≤ c * k) (x1 : c * k ≤ 16777216) (u0 : decide (u < 0) = false) (u1 : decide (1048576 < u) = false) (m0 : decide (m < 0) = false) (m1 : decide (67108864 - a < m) = false) (m2 : 0 ≤ m) (m3 : m ≤ 67108864) (g0 : decide (u ≤ ra) = true) (g1 : decide (ra ≤ 1048576) = true) (g2 : decide (ra ≤ rb) = true) (g3 : decide (ra ≤ rc) = true) (CM : Hid (∀ W, Calls Try.prog 11 #[.agg #[.int .i64 a, .int .i64 c, .int .i64 k]] W fun E w' => E = .returned (.bool true) ∧ Below W.heap.size W w')) (CR1 : Hid (∀ W, Calls Try.prog 10 #[.int .i64 u, .agg #[.int .i64 a, .int .i64 c, .int .i64 k]] W fun E w' => E = .returned (.tuple #[.int .i64 ra, .int .i64 0]) ∧ Below W.heap.size W w')) (CR2 : Hid (∀ W, Calls Try.prog 10 #[.int .i64 u, .agg #[.int .i64 (a + m), .int .i64 c, .int .i64 k]] W fun E w' => E = .returned (.tuple #[.int .i64 rb, .int .i64 0]) ∧ Below W.heap.size W w')) (CR3 : Hid (∀ W, Calls Try.prog 10 #[.int .i64 u, .agg #[.int .i64 a, .int .i64 (c / 2), .int .i64 k]] W fun E w' => E = .returned (.tuple #[.int .i64 rc, .int .i64 0]) ∧ Below W.heap.size W w')) (CR4 : Hid (∀ W, Calls Try.prog 10 #[.int .i64 u, .agg #[.int .i64 (c * k), .int .i64 c, .int .i64 k]] W fun E w' => E = .returned (.tuple #[.int .i64 1048576, .int .i64 0]) ∧ Below W.heap.size W w')) (cA : AwG) (w : World) :
    Calls Try.prog 6 #[.agg #[.int .i64 a, .int .i64 c, .int .i64 k], .int .i64 u, .int .i64 m] w fun E w' => E = .returned (.bool true) ∧ Below w.heap.size w w' := by
  have S0 := Lib.hid (B3.start w 23 a c k)
  have B0 := Lib.hid ((Below.refl w.heap.size w).alloc (Nat.le_refl _) (.cells #[.int .i64 a, .int .i64 c, .int .i64 k] 23))
  go_enter Try.func6, Try.ntmps6
  go_wp2_with fail
  refine (Hid.out CM _).mono ?_
  rintro e w1 ⟨rfl, b1⟩
  have S1 := Lib.hid (S0.out.next b1)
  have B1' := Lib.hid (B0.out.trans (b1.mono B0.out.size))
  obtain ⟨p0, p1, p2⟩ := S1.out.cells
  go_wp2_with fail
  refine (Hid.out CR1 _).mono ?_
  rintro e w2 ⟨rfl, b2⟩
  have S2 := Lib.hid (S1.out.next b2)
  have B2' := Lib.hid (B1'.out.trans (b2.mono B1'.out.size))
  clear p0 p1 p2
  obtain ⟨p0, p1, p2⟩ := S2.out.cells
  have lt2 := S2.out.lt
  go_wp2_with fail
  refine (Hid.out CR2 _).mono ?_
  rintro e w3 ⟨rfl, b3⟩
  have S3 := Lib.hid ((S2.out.alloc (.cells #[.int .i64 (a + m), .int .i64 c, .int .i64 k] 23)).next b3)
  have B3' := Lib.hid ((B2'.out.alloc B2'.out.size (.cells #[.int .i64 (a + m), .int .i64 c, .int .i64 k] 23)).trans (b3.mono (by have := B2'.out.size; simp; omega)))
  clear p0 p1 p2
  obtain ⟨p0, p1, p2⟩ := S3.out.cells
  have lt3 := S3.out.lt
  go_wp2_with fail
  refine (Hid.out CR3 _).mono ?_
  rintro e w4 ⟨rfl, b4⟩
  have S4 := Lib.hid ((S3.out.alloc (.cells #[.int .i64 a, .int .i64 (c / 2), .int .i64 k] 23)).next b4)
  have N4 := Lib.hid ((B3.start w3 23 a (c / 2) k).next b4)
  have B4' := Lib.hid ((B3'.out.alloc B3'.out.size (.cells #[.int .i64 a, .int .i64 (c / 2), .int .i64 k] 23)).trans (b4.mono (by have := B3'.out.size; simp; omega)))
  have lt4 := B3'.out.size
  clear p0 p1 p2
  obtain ⟨p0, p1, p2⟩ := S4.out.cells
  obtain ⟨q0, q1, q2⟩ := N4.out.cells
  obtain ⟨f0, f1, f2⟩ := N4.out.thaw
  go_wp2_with fail
  refine (Hid.out CR4 _).mono ?_
  rintro e w5 ⟨rfl, b5⟩
  have B5' := Lib.hid (((B4'.out.setCell (p := ⟨w3.heap.size, 1, none⟩) lt4 (.int .i64 c)).setCell (p := ⟨w3.heap.size, 0, none⟩) lt4 (.int .i64 (c * k))).trans (b5.mono (by have := B4'.out.size; simp; omega)))
  go_wp2_with fail
  refine (Hid.out cA _).mono ?_
  rintro e w6 ⟨rfl, b6⟩
  go_wp2
  go_ret
  exact ⟨rfl, B5'.out.trans (b6.mono B5'.out.size)⟩

theorem spareN_mono {x y k : Int} (h : x ≤ y) (k0 : 1 ≤ k) : max x 0 / k ≤ max y 0 / k := Int.ediv_le_ediv (by omega) (by omega)
theorem rateR_ok {u a c k : Int} (hu : ratE u = 0) (h : loadE a c k = 0) : rateR u a c k = (max (1048576 - spareN a c k) u, 0) := by unfold rateR; rw [if_pos hu, if_pos h]
theorem loadE_ok {a c k : Int} (a0 : 0 ≤ a) (a1 : a ≤ 67108864) (c0 : 0 ≤ c) (c1 : c ≤ 1048576) (k0 : 1 ≤ k) (k1 : k ≤ 16) : loadE a c k = 0 := if_neg (by omega)
theorem grateC {u a c k : Int} (hu : ratE u = 0) (h : loadE a c k = 0) {n : Int} (hn : max (1048576 - spareN a c k) u = n) : Hid (∀ W, Calls Try.prog 10 #[.int .i64 u, .agg #[.int .i64 a, .int .i64 c, .int .i64 k]] W fun E w' => E = .returned (.tuple #[.int .i64 n, .int .i64 0]) ∧ Below W.heap.size W w') := by
  have k := fun W => grate_any u a c k W
  rw [rateR_ok hu h, hn] at k
  exact Lib.hid k

theorem walk_GrubOrder (a c k u m : Int) (w : World) (ha : -9223372036854775808 ≤ a ∧ a ≤ 9223372036854775807) (hc : -9223372036854775808 ≤ c ∧ c ≤ 9223372036854775807) (hk : -9223372036854775808 ≤ k ∧ k ≤ 9223372036854775807) (hu : -9223372036854775808 ≤ u ∧ u ≤ 9223372036854775807) (hm : -9223372036854775808 ≤ m ∧ m ≤ 9223372036854775807) :
    Calls Try.prog 6 #[.agg #[.int .i64 a, .int .i64 c, .int .i64 k], .int .i64 u, .int .i64 m] w fun E w' => E = .returned (.bool true) ∧ Below w.heap.size w w' := by
  have cM := fun W => gmay_any a c k W
  rcases loadE_two a c k with h | h
  · rw [decide_eq_true h] at cM
    obtain ⟨a0, a1, c0, c1, k0, k1⟩ := loadE_may h
    by_cases u0 : u < 0
    · exact gorder_o2 a c k u m (decide_eq_true u0) (Lib.hid cM) awG w
    by_cases u1 : 1048576 < u
    · exact gorder_o3 a c k u m (decide_eq_false u0) (decide_eq_true u1) (Lib.hid cM) awG w
    by_cases m0 : m < 0
    · exact gorder_o4 a c k u m (decide_eq_false u0) (decide_eq_false u1) (decide_eq_true m0) (Lib.hid cM) awG w
    by_cases m1 : 67108864 - a < m
    · exact gorder_o5 a c k u m a0 a1 (decide_eq_false u0) (decide_eq_false u1) (decide_eq_false m0) (decide_eq_true m1) (Lib.hid cM) awG w
    have hr := ratE_ok (r := u) (by omega) (by omega)
    have x0 : 0 ≤ c * k := Int.mul_nonneg c0 (by omega)
    have x1 : c * k ≤ 1048576 * 16 := Int.mul_le_mul c1 k1 (by omega) (by omega)
    have y1 : c / 2 * k ≤ c * k := Int.mul_le_mul_of_nonneg_right (by omega) (by omega)
    have l2 := loadE_ok (a := a + m) (c := c) (k := k) (by omega) (by omega) c0 c1 k0 k1
    have l3 := loadE_ok (a := a) (c := c / 2) (k := k) a0 a1 (by omega) (by omega) k0 k1
    have l4 := loadE_ok (a := c * k) (c := c) (k := k) x0 (by omega) c0 c1 k0 k1
    have s1 := spareN_le h
    have s2 : spareN (a + m) c k ≤ spareN a c k := spareN_mono (by omega) k0
    have s3 : spareN a (c / 2) k ≤ spareN a c k := spareN_mono (by omega) k0
    have s4 : spareN (c * k) c k = 0 := by unfold spareN; rw [Int.sub_self]; simp
    exact gorder_core a c k u m _ _ _ a0 a1 c0 c1 k0 k1 x0 (by omega) (decide_eq_false u0) (decide_eq_false u1) (decide_eq_false m0) (decide_eq_false m1) (by omega) (by omega) (decide_eq_true (by omega)) (decide_eq_true (by omega)) (decide_eq_true (by omega)) (decide_eq_true (by omega)) (Lib.hid cM)
      (grateC hr h rfl) (grateC hr l2 rfl) (grateC hr l3 rfl) (grateC hr l4 (by rw [s4]; omega)) awG w
  · rw [decide_eq_false (by omega)] at cM
    exact gorder_o1 a c k u m (Lib.hid cM) awG w
end Go.Proofs.Ythncchngphlcfaa
