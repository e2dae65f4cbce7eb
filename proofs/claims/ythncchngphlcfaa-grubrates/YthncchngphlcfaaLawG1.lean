/-
  The walk of GrubRates.
-/
import Derived.Test.YthncchngphlcfaaGc
namespace Go.Proofs.Ythncchngphlcfaa
open Go.RowKit
set_option linter.unusedVariables false
set_option linter.unusedSimpArgs false

set_option maxRecDepth 20000 in
theorem rates_a1 (a c k u : Int) (u0 : decide (u < 0) = true) (CS : Hid (∀ W, Calls Try.prog 9 #[.agg #[.int .i64 a, .int .i64 c, .int .i64 k]] W fun E w' => E = .returned (.tuple #[.int .i64 0, .int .i64 1]) ∧ Below W.heap.size W w')) (CR : Hid (∀ W, Calls Try.prog 10 #[.int .i64 u, .agg #[.int .i64 a, .int .i64 c, .int .i64 k]] W fun E w' => E = .returned (.tuple #[.int .i64 0, .int .i64 10]) ∧ Below W.heap.size W w')) (CM : Hid (∀ W, Calls Try.prog 11 #[.agg #[.int .i64 a, .int .i64 c, .int .i64 k]] W fun E w' => E = .returned (.bool false) ∧ Below W.heap.size W w')) (CC : Hid (∀ W, Calls Try.prog 12 #[.agg #[.int .i64 a, .int .i64 c, .int .i64 k]] W fun E w' => E = .returned (.int .i64 1) ∧ Below W.heap.size W w')) (cA : AwG) (w : World) :
    Calls Try.prog 3 #[.agg #[.int .i64 a, .int .i64 c, .int .i64 k], .int .i64 u] w fun E w' => E = .returned (.bool true) ∧ Below w.heap.size w w' := by
  go_enter Try.func3, Try.ntmps3
  go_wp2_with fail
  refine (Hid.out CS _).mono ?_
  rintro e w1 ⟨rfl, b1⟩
  have H1 := Lib.hid ((Arr3.start w a c k 23).next b1)
  obtain ⟨_, _, p0, p1, p2⟩ := H1.out
  go_wp2_with fail
  refine (Hid.out CR _).mono ?_
  rintro e w2 ⟨rfl, b2⟩
  have H2 := Lib.hid (H1.out.next b2)
  clear p0 p1 p2
  obtain ⟨_, _, p0, p1, p2⟩ := H2.out
  go_wp2_with fail
  refine (Hid.out CM _).mono ?_
  rintro e w3 ⟨rfl, b3⟩
  have H3 := Lib.hid (H2.out.next b3)
  clear p0 p1 p2
  obtain ⟨_, _, p0, p1, p2⟩ := H3.out
  go_wp2_with fail
  refine (Hid.out CC _).mono ?_
  rintro e w4 ⟨rfl, b4⟩
  have H4 := Lib.hid (H3.out.next b4)
  clear p0 p1 p2
  obtain ⟨_, _, p0, p1, p2⟩ := H4.out
  go_wp2_with fail
  refine (Hid.out cA _).mono ?_
  rintro e w5 ⟨rfl, b5⟩
  have H5 := Lib.hid (H4.out.next b5)
  clear p0 p1 p2
  obtain ⟨_, _, p0, p1, p2⟩ := H5.out
  go_wp2
  go_ret
  exact ⟨rfl, H5.out.2.1⟩

set_option maxRecDepth 20000 in
theorem rates_a2 (a c k u : Int) (u0 : decide (u < 0) = false) (u1 : decide (1048576 < u) = true) (CS : Hid (∀ W, Calls Try.prog 9 #[.agg #[.int .i64 a, .int .i64 c, .int .i64 k]] W fun E w' => E = .returned (.tuple #[.int .i64 0, .int .i64 1]) ∧ Below W.heap.size W w')) (CR : Hid (∀ W, Calls Try.prog 10 #[.int .i64 u, .agg #[.int .i64 a, .int .i64 c, .int .i64 k]] W fun E w' => E = .returned (.tuple #[.int .i64 0, .int .i64 10]) ∧ Below W.heap.size W w')) (CM : Hid (∀ W, Calls Try.prog 11 #[.agg #[.int .i64 a, .int .i64 c, .int .i64 k]] W fun E w' => E = .returned (.bool false) ∧ Below W.heap.size W w')) (CC : Hid (∀ W, Calls Try.prog 12 #[.agg #[.int .i64 a, .int .i64 c, .int .i64 k]] W fun E w' => E = .returned (.int .i64 1) ∧ Below W.heap.size W w')) (cA : AwG) (w : World) :
    Calls Try.prog 3 #[.agg #[.int .i64 a, .int .i64 c, .int .i64 k], .int .i64 u] w fun E w' => E = .returned (.bool true) ∧ Below w.heap.size w w' := by
  go_enter Try.func3, Try.ntmps3
  go_wp2_with fail
  refine (Hid.out CS _).mono ?_
  rintro e w1 ⟨rfl, b1⟩
  have H1 := Lib.hid ((Arr3.start w a c k 23).next b1)
  obtain ⟨_, _, p0, p1, p2⟩ := H1.out
  go_wp2_with fail
  refine (Hid.out CR _).mono ?_
  rintro e w2 ⟨rfl, b2⟩
  have H2 := Lib.hid (H1.out.next b2)
  clear p0 p1 p2
  obtain ⟨_, _, p0, p1, p2⟩ := H2.out
  go_wp2_with fail
  refine (Hid.out CM _).mono ?_
  rintro e w3 ⟨rfl, b3⟩
  have H3 := Lib.hid (H2.out.next b3)
  clear p0 p1 p2
  obtain ⟨_, _, p0, p1, p2⟩ := H3.out
  go_wp2_with fail
  refine (Hid.out CC _).mono ?_
  rintro e w4 ⟨rfl, b4⟩
  have H4 := Lib.hid (H3.out.next b4)
  clear p0 p1 p2
  obtain ⟨_, _, p0, p1, p2⟩ := H4.out
  go_wp2_with fail
  refine (Hid.out cA _).mono ?_
  rintro e w5 ⟨rfl, b5⟩
  have H5 := Lib.hid (H4.out.next b5)
  clear p0 p1 p2
  obtain ⟨_, _, p0, p1, p2⟩ := H5.out
  go_wp2
  go_ret
  exact ⟨rfl, H5.out.2.1⟩

set_option maxRecDepth 20000 in
theorem rates_a3 (a c k u : Int) (u0 : decide (u < 0) = false) (u1 : decide (1048576 < u) = false) (CS : Hid (∀ W, Calls Try.prog 9 #[.agg #[.int .i64 a, .int .i64 c, .int .i64 k]] W fun E w' => E = .returned (.tuple #[.int .i64 0, .int .i64 1]) ∧ Below W.heap.size W w')) (CR : Hid (∀ W, Calls Try.prog 10 #[.int .i64 u, .agg #[.int .i64 a, .int .i64 c, .int .i64 k]] W fun E w' => E = .returned (.tuple #[.int .i64 0, .int .i64 1]) ∧ Below W.heap.size W w')) (CM : Hid (∀ W, Calls Try.prog 11 #[.agg #[.int .i64 a, .int .i64 c, .int .i64 k]] W fun E w' => E = .returned (.bool false) ∧ Below W.heap.size W w')) (CC : Hid (∀ W, Calls Try.prog 12 #[.agg #[.int .i64 a, .int .i64 c, .int .i64 k]] W fun E w' => E = .returned (.int .i64 1) ∧ Below W.heap.size W w')) (cA : AwG) (w : World) :
    Calls Try.prog 3 #[.agg #[.int .i64 a, .int .i64 c, .int .i64 k], .int .i64 u] w fun E w' => E = .returned (.bool true) ∧ Below w.heap.size w w' := by
  go_enter Try.func3, Try.ntmps3
  go_wp2_with fail
  refine (Hid.out CS _).mono ?_
  rintro e w1 ⟨rfl, b1⟩
  have H1 := Lib.hid ((Arr3.start w a c k 23).next b1)
  obtain ⟨_, _, p0, p1, p2⟩ := H1.out
  go_wp2_with fail
  refine (Hid.out CR _).mono ?_
  rintro e w2 ⟨rfl, b2⟩
  have H2 := Lib.hid (H1.out.next b2)
  clear p0 p1 p2
  obtain ⟨_, _, p0, p1, p2⟩ := H2.out
  go_wp2_with fail
  refine (Hid.out CM _).mono ?_
  rintro e w3 ⟨rfl, b3⟩
  have H3 := Lib.hid (H2.out.next b3)
  clear p0 p1 p2
  obtain ⟨_, _, p0, p1, p2⟩ := H3.out
  go_wp2_with fail
  refine (Hid.out CC _).mono ?_
  rintro e w4 ⟨rfl, b4⟩
  have H4 := Lib.hid (H3.out.next b4)
  clear p0 p1 p2
  obtain ⟨_, _, p0, p1, p2⟩ := H4.out
  go_wp2_with fail
  refine (Hid.out cA _).mono ?_
  rintro e w5 ⟨rfl, b5⟩
  have H5 := Lib.hid (H4.out.next b5)
  clear p0 p1 p2
  obtain ⟨_, _, p0, p1, p2⟩ := H5.out
  go_wp2
  go_ret
  exact ⟨rfl, H5.out.2.1⟩

set_option maxRecDepth 20000 in
theorem rates_b1 (a c k u : Int) (s : Int) (u0 : decide (u < 0) = true) (CS : Hid (∀ W, Calls Try.prog 9 #[.agg #[.int .i64 a, .int .i64 c, .int .i64 k]] W fun E w' => E = .returned (.tuple #[.int .i64 s, .int .i64 0]) ∧ Below W.heap.size W w')) (CR : Hid (∀ W, Calls Try.prog 10 #[.int .i64 u, .agg #[.int .i64 a, .int .i64 c, .int .i64 k]] W fun E w' => E = .returned (.tuple #[.int .i64 0, .int .i64 10]) ∧ Below W.heap.size W w')) (CM : Hid (∀ W, Calls Try.prog 11 #[.agg #[.int .i64 a, .int .i64 c, .int .i64 k]] W fun E w' => E = .returned (.bool true) ∧ Below W.heap.size W w')) (CC : Hid (∀ W, Calls Try.prog 12 #[.agg #[.int .i64 a, .int .i64 c, .int .i64 k]] W fun E w' => E = .returned (.int .i64 0) ∧ Below W.heap.size W w')) (CP : Hid (∀ W, Calls Try.prog 14 #[.int .i64 a, .int .i64 c, .int .i64 k] W fun E w' => E = .returned (.int .i64 s) ∧ W = w')) (cA : AwG) (w : World) :
    Calls Try.prog 3 #[.agg #[.int .i64 a, .int .i64 c, .int .i64 k], .int .i64 u] w fun E w' => E = .returned (.bool true) ∧ Below w.heap.size w w' := by
  go_enter Try.func3, Try.ntmps3
  go_wp2_with fail
  refine (Hid.out CS _).mono ?_
  rintro e w1 ⟨rfl, b1⟩
  have H1 := Lib.hid ((Arr3.start w a c k 23).next b1)
  obtain ⟨_, _, p0, p1, p2⟩ := H1.out
  go_wp2_with fail
  refine (Hid.out CR _).mono ?_
  rintro e w2 ⟨rfl, b2⟩
  have H2 := Lib.hid (H1.out.next b2)
  clear p0 p1 p2
  obtain ⟨_, _, p0, p1, p2⟩ := H2.out
  go_wp2_with fail
  refine (Hid.out CM _).mono ?_
  rintro e w3 ⟨rfl, b3⟩
  have H3 := Lib.hid (H2.out.next b3)
  clear p0 p1 p2
  obtain ⟨_, _, p0, p1, p2⟩ := H3.out
  go_wp2_with fail
  refine (Hid.out CP _).mono ?_
  rintro e w4 ⟨rfl, rfl⟩
  go_wp2_with fail
  refine (Hid.out CC _).mono ?_
  rintro e w5 ⟨rfl, b5⟩
  have H5 := Lib.hid (H3.out.next b5)
  clear p0 p1 p2
  obtain ⟨_, _, p0, p1, p2⟩ := H5.out
  go_wp2_with fail
  refine (Hid.out cA _).mono ?_
  rintro e w6 ⟨rfl, b6⟩
  have H6 := Lib.hid (H5.out.next b6)
  clear p0 p1 p2
  obtain ⟨_, _, p0, p1, p2⟩ := H6.out
  go_wp2
  go_ret
  exact ⟨rfl, H6.out.2.1⟩

set_option maxRecDepth 20000 in
theorem rates_b2 (a c k u : Int) (s : Int) (u0 : decide (u < 0) = false) (u1 : decide (1048576 < u) = true) (CS : Hid (∀ W, Calls Try.prog 9 #[.agg #[.int .i64 a, .int .i64 c, .int .i64 k]] W fun E w' => E = .returned (.tuple #[.int .i64 s, .int .i64 0]) ∧ Below W.heap.size W w')) (CR : Hid (∀ W, Calls Try.prog 10 #[.int .i64 u, .agg #[.int .i64 a, .int .i64 c, .int .i64 k]] W fun E w' => E = .returned (.tuple #[.int .i64 0, .int .i64 10]) ∧ Below W.heap.size W w')) (CM : Hid (∀ W, Calls Try.prog 11 #[.agg #[.int .i64 a, .int .i64 c, .int .i64 k]] W fun E w' => E = .returned (.bool true) ∧ Below W.heap.size W w')) (CC : Hid (∀ W, Calls Try.prog 12 #[.agg #[.int .i64 a, .int .i64 c, .int .i64 k]] W fun E w' => E = .returned (.int .i64 0) ∧ Below W.heap.size W w')) (CP : Hid (∀ W, Calls Try.prog 14 #[.int .i64 a, .int .i64 c, .int .i64 k] W fun E w' => E = .returned (.int .i64 s) ∧ W = w')) (cA : AwG) (w : World) :
    Calls Try.prog 3 #[.agg #[.int .i64 a, .int .i64 c, .int .i64 k], .int .i64 u] w fun E w' => E = .returned (.bool true) ∧ Below w.heap.size w w' := by
  go_enter Try.func3, Try.ntmps3
  go_wp2_with fail
  refine (Hid.out CS _).mono ?_
  rintro e w1 ⟨rfl, b1⟩
  have H1 := Lib.hid ((Arr3.start w a c k 23).next b1)
  obtain ⟨_, _, p0, p1, p2⟩ := H1.out
  go_wp2_with fail
  refine (Hid.out CR _).mono ?_
  rintro e w2 ⟨rfl, b2⟩
  have H2 := Lib.hid (H1.out.next b2)
  clear p0 p1 p2
  obtain ⟨_, _, p0, p1, p2⟩ := H2.out
  go_wp2_with fail
  refine (Hid.out CM _).mono ?_
  rintro e w3 ⟨rfl, b3⟩
  have H3 := Lib.hid (H2.out.next b3)
  clear p0 p1 p2
  obtain ⟨_, _, p0, p1, p2⟩ := H3.out
  go_wp2_with fail
  refine (Hid.out CP _).mono ?_
  rintro e w4 ⟨rfl, rfl⟩
  go_wp2_with fail
  refine (Hid.out CC _).mono ?_
  rintro e w5 ⟨rfl, b5⟩
  have H5 := Lib.hid (H3.out.next b5)
  clear p0 p1 p2
  obtain ⟨_, _, p0, p1, p2⟩ := H5.out
  go_wp2_with fail
  refine (Hid.out cA _).mono ?_
  rintro e w6 ⟨rfl, b6⟩
  have H6 := Lib.hid (H5.out.next b6)
  clear p0 p1 p2
  obtain ⟨_, _, p0, p1, p2⟩ := H6.out
  go_wp2
  go_ret
  exact ⟨rfl, H6.out.2.1⟩

set_option maxRecDepth 20000 in
theorem rates_b3 (a c k u : Int) (s : Int) (s0 : 0 ≤ s) (s1 : s ≤ 1048576) (u0 : decide (u < 0) = false) (u1 : decide (1048576 < u) = false) (CS : Hid (∀ W, Calls Try.prog 9 #[.agg #[.int .i64 a, .int .i64 c, .int .i64 k]] W fun E w' => E = .returned (.tuple #[.int .i64 s, .int .i64 0]) ∧ Below W.heap.size W w')) (CR : Hid (∀ W, Calls Try.prog 10 #[.int .i64 u, .agg #[.int .i64 a, .int .i64 c, .int .i64 k]] W fun E w' => E = .returned (.tuple #[.int .i64 (max (1048576 - s) u), .int .i64 0]) ∧ Below W.heap.size W w')) (CM : Hid (∀ W, Calls Try.prog 11 #[.agg #[.int .i64 a, .int .i64 c, .int .i64 k]] W fun E w' => E = .returned (.bool true) ∧ Below W.heap.size W w')) (CC : Hid (∀ W, Calls Try.prog 12 #[.agg #[.int .i64 a, .int .i64 c, .int .i64 k]] W fun E w' => E = .returned (.int .i64 0) ∧ Below W.heap.size W w')) (CP : Hid (∀ W, Calls Try.prog 14 #[.int .i64 a, .int .i64 c, .int .i64 k] W fun E w' => E = .returned (.int .i64 s) ∧ W = w')) (cA : AwG) (w : World) :
    Calls Try.prog 3 #[.agg #[.int .i64 a, .int .i64 c, .int .i64 k], .int .i64 u] w fun E w' => E = .returned (.bool true) ∧ Below w.heap.size w w' := by
  go_enter Try.func3, Try.ntmps3
  go_wp2_with fail
  refine (Hid.out CS _).mono ?_
  rintro e w1 ⟨rfl, b1⟩
  have H1 := Lib.hid ((Arr3.start w a c k 23).next b1)
  obtain ⟨_, _, p0, p1, p2⟩ := H1.out
  go_wp2_with fail
  refine (Hid.out CR _).mono ?_
  rintro e w2 ⟨rfl, b2⟩
  have H2 := Lib.hid (H1.out.next b2)
  clear p0 p1 p2
  obtain ⟨_, _, p0, p1, p2⟩ := H2.out
  go_wp2_with fail
  refine (Hid.out CM _).mono ?_
  rintro e w3 ⟨rfl, b3⟩
  have H3 := Lib.hid (H2.out.next b3)
  clear p0 p1 p2
  obtain ⟨_, _, p0, p1, p2⟩ := H3.out
  go_wp2_with fail
  refine (Hid.out CP _).mono ?_
  rintro e w4 ⟨rfl, rfl⟩
  go_wp2_with fail
  refine (Hid.out CC _).mono ?_
  rintro e w5 ⟨rfl, b5⟩
  have H5 := Lib.hid (H3.out.next b5)
  clear p0 p1 p2
  obtain ⟨_, _, p0, p1, p2⟩ := H5.out
  go_wp2_with fail
  refine (Hid.out cA _).mono ?_
  rintro e w6 ⟨rfl, b6⟩
  have H6 := Lib.hid (H5.out.next b6)
  clear p0 p1 p2
  obtain ⟨_, _, p0, p1, p2⟩ := H6.out
  go_wp2
  go_ret
  exact ⟨rfl, H6.out.2.1⟩

theorem walk_GrubRates (a c k u : Int) (w : World) (ha : -9223372036854775808 ≤ a ∧ a ≤ 9223372036854775807) (hc : -9223372036854775808 ≤ c ∧ c ≤ 9223372036854775807) (hk : -9223372036854775808 ≤ k ∧ k ≤ 9223372036854775807) (hu : -9223372036854775808 ≤ u ∧ u ≤ 9223372036854775807) :
    Calls Try.prog 3 #[.agg #[.int .i64 a, .int .i64 c, .int .i64 k], .int .i64 u] w fun E w' => E = .returned (.bool true) ∧ Below w.heap.size w w' := by
  have cS := fun W => gspare_any a c k W
  have cR := fun W => grate_any u a c k W
  have cM := fun W => gmay_any a c k W
  have cC := fun W => gcheck_any a c k W
  have fR : ∀ x y, rateR u a c k = (x, y) → ∀ W, Calls Try.prog 10 #[.int .i64 u, .agg #[.int .i64 a, .int .i64 c, .int .i64 k]] W fun E w' => E = .returned (.tuple #[.int .i64 x, .int .i64 y]) ∧ Below W.heap.size W w' := by
    intro x y h W
    have := cR W
    rw [h] at this
    exact this
  have out : ∀ {u}, (u < 0 ∨ 1048576 < u) → ratE u ≠ 0 := fun h => by unfold ratE; rw [if_pos h]; decide
  rcases loadE_two a c k with h | h
  · have cP := Lib.hid fun W => rspare_ok a c k h W
    obtain ⟨s0, s1⟩ := spareN_le h
    have s2 := (loadE_may h).2.2.2.1
    have e1 : spareR a c k = (spareN a c k, 0) := if_pos h
    rw [e1] at cS
    rw [h] at cC
    rw [decide_eq_true h] at cM
    by_cases u0 : u < 0
    · exact rates_b1 a c k u _ (decide_eq_true u0) (Lib.hid cS) (Lib.hid (fR 0 10 (if_neg (out (.inl u0))))) (Lib.hid cM) (Lib.hid cC) cP awG w
    by_cases u1 : 1048576 < u
    · exact rates_b2 a c k u _ (decide_eq_false u0) (decide_eq_true u1) (Lib.hid cS) (Lib.hid (fR 0 10 (if_neg (out (.inr u1))))) (Lib.hid cM) (Lib.hid cC) cP awG w
    · have e2 : rateR u a c k = (max (1048576 - spareN a c k) u, 0) := by
        unfold rateR
        rw [if_pos (ratE_ok (by omega) (by omega)), if_pos h]
      exact rates_b3 a c k u _ s0 (by omega) (decide_eq_false u0) (decide_eq_false u1) (Lib.hid cS) (Lib.hid (fR _ _ e2)) (Lib.hid cM) (Lib.hid cC) cP awG w
  · have e1 : spareR a c k = (0, 1) := if_neg (by omega)
    rw [e1] at cS
    rw [h] at cC
    rw [decide_eq_false (by omega)] at cM
    by_cases u0 : u < 0
    · exact rates_a1 a c k u (decide_eq_true u0) (Lib.hid cS) (Lib.hid (fR 0 10 (if_neg (out (.inl u0))))) (Lib.hid cM) (Lib.hid cC) awG w
    by_cases u1 : 1048576 < u
    · exact rates_a2 a c k u (decide_eq_false u0) (decide_eq_true u1) (Lib.hid cS) (Lib.hid (fR 0 10 (if_neg (out (.inr u1))))) (Lib.hid cM) (Lib.hid cC) awG w
    · have e2 : rateR u a c k = (0, 1) := by
        unfold rateR
        rw [if_pos (ratE_ok (by omega) (by omega)), if_neg (by omega)]
      exact rates_a3 a c k u (decide_eq_false u0) (decide_eq_false u1) (Lib.hid cS) (Lib.hid (fR _ _ e2)) (Lib.hid cM) (Lib.hid cC) awG w
end Go.Proofs.Ythncchngphlcfaa
