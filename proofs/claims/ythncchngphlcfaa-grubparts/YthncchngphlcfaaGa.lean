/-
  The walks of grub's checks: Check of a load, checkRatio, check of a meter; Spare and Rate.
-/
import Derived.Test.YthncchngphlcfaaDivA
namespace Go.Proofs.Ythncchngphlcfaa
open Go.RowKit
set_option linter.unusedVariables false

theorem wrap_in {x : Int} (h : -9223372036854775808 ≤ x) (h' : x ≤ 9223372036854775807) : wrap64 x = x := by unfold wrap64; omega

/-- What grub.Check answers. -/
def loadE (a c k : Int) : Int := if a < 0 ∨ 67108864 < a ∨ c < 0 ∨ 1048576 < c ∨ k < 1 ∨ 16 < k then 1 else 0
theorem loadE_two (a c k : Int) : loadE a c k = 0 ∨ loadE a c k = 1 := by unfold loadE; split <;> simp
theorem loadE_may {a c k : Int} (h : loadE a c k = 0) : 0 ≤ a ∧ a ≤ 67108864 ∧ 0 ≤ c ∧ c ≤ 1048576 ∧ 1 ≤ k ∧ k ≤ 16 := by
  unfold loadE at h
  split at h
  · cases h
  · omega

theorem gcheck_any (a c k : Int) (w : World) :
    Calls Try.prog 12 #[.agg #[.int .i64 a, .int .i64 c, .int .i64 k]] w fun e w' => e = .returned (.int .i64 (loadE a c k)) ∧ Below w.heap.size w w' := by
  have B := fun o => (Below.refl w.heap.size w).alloc (Nat.le_refl _) o
  by_cases h0 : a < 0
  · have e : loadE a c k = 1 := if_pos (by omega)
    rw [e]
    have h0' : decide (a < 0) = true := by simpa using h0
    go_enter Try.func12, Try.ntmps12
    go_wp2
    go_ret
    exact ⟨rfl, B _⟩
  have h0' : decide (a < 0) = false := by simpa using h0
  by_cases h1 : 67108864 < a
  · have e : loadE a c k = 1 := if_pos (by omega)
    rw [e]
    have h1' : decide (67108864 < a) = true := by simpa using h1
    go_enter Try.func12, Try.ntmps12
    go_wp2
    go_ret
    exact ⟨rfl, B _⟩
  have h1' : decide (67108864 < a) = false := by simpa using h1
  by_cases h2 : c < 0
  · have e : loadE a c k = 1 := if_pos (by omega)
    rw [e]
    have h2' : decide (c < 0) = true := by simpa using h2
    go_enter Try.func12, Try.ntmps12
    go_wp2
    go_ret
    exact ⟨rfl, B _⟩
  have h2' : decide (c < 0) = false := by simpa using h2
  by_cases h3 : 1048576 < c
  · have e : loadE a c k = 1 := if_pos (by omega)
    rw [e]
    have h3' : decide (1048576 < c) = true := by simpa using h3
    go_enter Try.func12, Try.ntmps12
    go_wp2
    go_ret
    exact ⟨rfl, B _⟩
  have h3' : decide (1048576 < c) = false := by simpa using h3
  by_cases h4 : k < 1
  · have e : loadE a c k = 1 := if_pos (by omega)
    rw [e]
    have h4' : decide (k < 1) = true := by simpa using h4
    go_enter Try.func12, Try.ntmps12
    go_wp2
    go_ret
    exact ⟨rfl, B _⟩
  have h4' : decide (k < 1) = false := by simpa using h4
  by_cases h5 : 16 < k
  · have e : loadE a c k = 1 := if_pos (by omega)
    rw [e]
    have h5' : decide (16 < k) = true := by simpa using h5
    go_enter Try.func12, Try.ntmps12
    go_wp2
    go_ret
    exact ⟨rfl, B _⟩
  have h5' : decide (16 < k) = false := by simpa using h5
  have e : loadE a c k = 0 := if_neg (by omega)
  rw [e]
  go_enter Try.func12, Try.ntmps12
  go_wp2
  go_ret
  exact ⟨rfl, B _⟩

/-- What checkRatio answers. -/
def ratE (r : Int) : Int := if r < 0 ∨ 1048576 < r then 10 else 0
theorem ratE_two (r : Int) : ratE r = 0 ∨ ratE r = 10 := by unfold ratE; split <;> simp
theorem ratE_may {r : Int} (h : ratE r = 0) : 0 ≤ r ∧ r ≤ 1048576 := by
  unfold ratE at h
  split at h
  · cases h
  · omega
theorem ratE_ok {r : Int} (h : 0 ≤ r) (h' : r ≤ 1048576) : ratE r = 0 := if_neg (by omega)
theorem grat_any (r : Int) (w : World) :
    Calls Try.prog 21 #[.int .i64 r] w fun e w' => e = .returned (.int .i64 (ratE r)) ∧ w = w' := by
  by_cases h0 : r < 0
  · have e : ratE r = 10 := if_pos (by omega)
    rw [e]
    have h0' : decide (r < 0) = true := by simpa using h0
    go_enter Try.func21, Try.ntmps21
    go_wp2
    go_ret
    exact ⟨rfl, rfl⟩
  have h0' : decide (r < 0) = false := by simpa using h0
  by_cases h1 : 1048576 < r
  · have e : ratE r = 10 := if_pos (by omega)
    rw [e]
    have h1' : decide (1048576 < r) = true := by simpa using h1
    go_enter Try.func21, Try.ntmps21
    go_wp2
    go_ret
    exact ⟨rfl, rfl⟩
  have h1' : decide (1048576 < r) = false := by simpa using h1
  have e : ratE r = 0 := if_neg (by omega)
  rw [e]
  go_enter Try.func21, Try.ntmps21
  go_wp2
  go_ret
  exact ⟨rfl, rfl⟩

/-- What a meter's check answers. -/
def metE (r : Int) : Int := if r < 0 ∨ 1048576 ≤ r then 1 else 0
theorem metE_two (r : Int) : metE r = 0 ∨ metE r = 1 := by unfold metE; split <;> simp
theorem metE_may {r : Int} (h : metE r = 0) : 0 ≤ r ∧ r < 1048576 := by
  unfold metE at h
  split at h
  · cases h
  · omega
theorem metE_ok {r : Int} (h : 0 ≤ r) (h' : r < 1048576) : metE r = 0 := if_neg (by omega)
theorem gmet_any (r : Int) (w : World) :
    Calls Try.prog 23 #[.agg #[.int .i64 r]] w fun e w' => e = .returned (.int .i64 (metE r)) ∧ Below w.heap.size w w' := by
  have B := fun o => (Below.refl w.heap.size w).alloc (Nat.le_refl _) o
  by_cases h0 : r < 0
  · have e : metE r = 1 := if_pos (by omega)
    rw [e]
    have h0' : decide (r < 0) = true := by simpa using h0
    go_enter Try.func23, Try.ntmps23
    go_wp2
    go_ret
    exact ⟨rfl, B _⟩
  have h0' : decide (r < 0) = false := by simpa using h0
  by_cases h1 : 1048576 ≤ r
  · have e : metE r = 1 := if_pos (by omega)
    rw [e]
    have h1' : decide (1048576 ≤ r) = true := by simpa using h1
    go_enter Try.func23, Try.ntmps23
    go_wp2
    go_ret
    exact ⟨rfl, B _⟩
  have h1' : decide (1048576 ≤ r) = false := by simpa using h1
  have e : metE r = 0 := if_neg (by omega)
  rw [e]
  go_enter Try.func23, Try.ntmps23
  go_wp2
  go_ret
  exact ⟨rfl, B _⟩

/-- How much of each worker is spare. -/
def spareN (a c k : Int) : Int := max (c * k - a) 0 / k
def spareR (a c k : Int) : Int × Int := if loadE a c k = 0 then (spareN a c k, 0) else (0, 1)
theorem spareN_le {a c k : Int} (h : loadE a c k = 0) : 0 ≤ spareN a c k ∧ spareN a c k ≤ c := by
  obtain ⟨a0, a1, c0, c1, k0, k1⟩ := loadE_may h
  unfold spareN
  refine ⟨Int.ediv_nonneg (by omega) (by omega), ?_⟩
  refine Int.ediv_le_of_le_mul (by omega) ?_
  have : 0 ≤ c * k := Int.mul_nonneg c0 (by omega)
  omega

theorem gspare_any (a c k : Int) (w : World) :
    Calls Try.prog 9 #[.agg #[.int .i64 a, .int .i64 c, .int .i64 k]] w fun e w' => e = .returned (.tuple #[.int .i64 (spareR a c k).1, .int .i64 (spareR a c k).2]) ∧ Below w.heap.size w w' := by
  have c1 := fun W => gcheck_any a c k W
  rcases loadE_two a c k with h | h
  · have e : spareR a c k = (spareN a c k, 0) := if_pos h
    obtain ⟨a0, a1, c0, c2, k0, k1⟩ := loadE_may h
    rw [e]
    rw [h] at c1
    have C1 := Lib.hid c1
    have p0 : 0 ≤ c * k := Int.mul_nonneg c0 (by omega)
    have p1 : c * k ≤ 1048576 * 16 := Int.mul_le_mul c2 k1 (by omega) (by omega)
    have m0 : 0 ≤ max (c * k - a) 0 := by omega
    have m1 : max (c * k - a) 0 ≤ 16777216 := by omega
    have hk : (k == 0) = false := by simp; omega
    have hq0 : 0 ≤ max (c * k - a) 0 / k := Int.ediv_nonneg m0 (by omega)
    have hq1 : max (c * k - a) 0 / k ≤ 16777216 := Int.ediv_le_of_le_mul (by omega) (by
      have : 16777216 * 1 ≤ 16777216 * k := Int.mul_le_mul_of_nonneg_left (by omega) (by omega)
      omega)
    have ed : (max (c * k - a) 0).tdiv k = spareN a c k := by rw [Int.tdiv_eq_ediv_of_nonneg m0]; rfl
    have q0 : 0 ≤ spareN a c k := hq0
    have q1 : spareN a c k ≤ 16777216 := hq1
    have ew : wrap64 (wrap64 (c * k) - a) = c * k - a := by rw [wrap_in (x := c * k) (by omega) (by omega), wrap_in (by omega) (by omega)]
    have EW := Lib.hid ew
    clear c1 h e hq0 hq1 ew
    generalize spareN a c k = s at *
    go_enter Try.func9, Try.ntmps9
    go_wp2_with fail
    refine (C1.out _).mono ?_
    rintro e w1 ⟨rfl, b1⟩
    have H1 := Lib.hid ((Arr3.start w a c k 23).next b1)
    obtain ⟨_, _, p0, p1, p2⟩ := H1.out
    go_wp2
    go_ret2
    exact ⟨rfl, H1.out.2.1⟩
  · have e : spareR a c k = (0, 1) := if_neg (by omega)
    rw [e]
    rw [h] at c1
    have C1 := Lib.hid c1
    clear c1 h e
    go_enter Try.func9, Try.ntmps9
    go_wp2_with fail
    refine (C1.out _).mono ?_
    rintro e w1 ⟨rfl, b1⟩
    have H1 := Lib.hid ((Arr3.start w a c k 23).next b1)
    go_wp2
    go_ret2
    exact ⟨rfl, H1.out.2.1⟩

/-- What Rate answers. -/
def rateR (u a c k : Int) : Int × Int := if ratE u = 0 then (if loadE a c k = 0 then (max (1048576 - spareN a c k) u, 0) else (0, 1)) else (0, 10)
theorem grate_any (u a c k : Int) (w : World) :
    Calls Try.prog 10 #[.int .i64 u, .agg #[.int .i64 a, .int .i64 c, .int .i64 k]] w fun e w' => e = .returned (.tuple #[.int .i64 (rateR u a c k).1, .int .i64 (rateR u a c k).2]) ∧ Below w.heap.size w w' := by
  have c1 := fun W => grat_any u W
  have c2 := fun W => gspare_any a c k W
  have B := fun o => (Below.refl w.heap.size w).alloc (Nat.le_refl _) o
  rcases ratE_two u with h | h
  · rw [h] at c1
    have C1 := Lib.hid c1
    rcases loadE_two a c k with h' | h'
    · have e : rateR u a c k = (max (1048576 - spareN a c k) u, 0) := by unfold rateR; rw [if_pos h, if_pos h']
      have e2 : spareR a c k = (spareN a c k, 0) := if_pos h'
      obtain ⟨s0, s1⟩ := spareN_le h'
      obtain ⟨a0, a1, c0, c3, k0, k1⟩ := loadE_may h'
      rw [e]
      rw [e2] at c2
      have C2 := Lib.hid c2
      clear c1 c2 h h' e e2
      generalize spareN a c k = s at *
      go_enter Try.func10, Try.ntmps10
      go_wp2_with fail
      refine (C1.out _).mono ?_
      rintro e w1 ⟨rfl, rfl⟩
      go_wp2_with fail
      refine (C2.out _).mono ?_
      rintro e w1 ⟨rfl, b1⟩
      have H1 := Lib.hid ((Arr3.start w a c k 23).next b1)
      go_wp2
      go_ret2
      exact ⟨rfl, H1.out.2.1⟩
    · have e : rateR u a c k = (0, 1) := by unfold rateR; rw [if_pos h, if_neg (by omega)]
      have e2 : spareR a c k = (0, 1) := if_neg (by omega)
      rw [e]
      rw [e2] at c2
      have C2 := Lib.hid c2
      clear c1 c2 h h' e e2
      go_enter Try.func10, Try.ntmps10
      go_wp2_with fail
      refine (C1.out _).mono ?_
      rintro e w1 ⟨rfl, rfl⟩
      go_wp2_with fail
      refine (C2.out _).mono ?_
      rintro e w1 ⟨rfl, b1⟩
      have H1 := Lib.hid ((Arr3.start w a c k 23).next b1)
      go_wp2
      go_ret2
      exact ⟨rfl, H1.out.2.1⟩
  · have e : rateR u a c k = (0, 10) := by unfold rateR; rw [if_neg (by omega)]
    rw [e]
    rw [h] at c1
    have C1 := Lib.hid c1
    clear c1 c2 h e
    go_enter Try.func10, Try.ntmps10
    go_wp2_with fail
    refine (C1.out _).mono ?_
    rintro e w1 ⟨rfl, rfl⟩
    go_wp2
    go_ret2
    exact ⟨rfl, B _⟩
end Go.Proofs.Ythncchngphlcfaa
