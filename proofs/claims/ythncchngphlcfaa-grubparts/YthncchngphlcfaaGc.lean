/-
  The reference of grub, may and awake.
-/
import Derived.Test.YthncchngphlcfaaGb
import Derived.Test.YthncchngphlcfaaLy
namespace Go.Proofs.Ythncchngphlcfaa
open Go.RowKit
set_option linter.unusedVariables false
set_option linter.unusedSimpArgs false

theorem rtime_any (t : Int) (w : World) :
    Calls Try.prog 25 #[.int .i64 t] w fun e w' => e = .returned (.int .i64 (timeE t)) ∧ w = w' := by
  by_cases h : t < 0
  · rw [timeE_neg h]
    go_enter Try.func25, Try.ntmps25
    go_wp2
    go_ret
    exact ⟨rfl, rfl⟩
  by_cases h1 : 1099511627776 ≤ t
  · rw [timeE_far h1]
    go_enter Try.func25, Try.ntmps25
    go_wp2
    go_ret
    exact ⟨rfl, rfl⟩
  · rw [timeE_ok (by omega) (by omega)]
    go_enter Try.func25, Try.ntmps25
    go_wp2
    go_ret
    exact ⟨rfl, rfl⟩

theorem rwrong_any (r t x : Int) (w : World) :
    Calls Try.prog 16 #[.int .i64 r, .int .i64 t, .int .i64 x] w fun e w' => e = .returned (.int .i64 (chE r t x)) ∧ w = w' := by
  by_cases h0 : r < 0
  · have e : chE r t x = 1 := if_neg (by unfold metE; rw [if_pos (.inl h0)]; decide)
    rw [e]
    have h0' : decide (r < 0) = true := by simpa using h0
    clear e
    go_enter Try.func16, Try.ntmps16
    go_wp2
    go_ret
    exact ⟨rfl, rfl⟩
  have h0' : decide (r < 0) = false := by simpa using h0
  by_cases h1 : 1048575 < r
  · have e : chE r t x = 1 := if_neg (by unfold metE; rw [if_pos (.inr (by omega))]; decide)
    rw [e]
    have h1' : decide (1048575 < r) = true := by simpa using h1
    clear e
    go_enter Try.func16, Try.ntmps16
    go_wp2
    go_ret
    exact ⟨rfl, rfl⟩
  have h1' : decide (1048575 < r) = false := by simpa using h1
  have hm : metE r = 0 := metE_ok (by omega) (by omega)
  have c2 := fun W => rtime_any t W
  by_cases ht : timeE t = 0
  · have e : chE r t x = ratE x := by unfold chE; rw [if_pos hm, if_pos ht]
    rw [e]
    rw [ht] at c2
    have C2 := Lib.hid c2
    clear c2 e ht hm
    by_cases x0 : x < 0
    · have e : ratE x = 10 := if_pos (.inl x0)
      rw [e]
      have x0' : decide (x < 0) = true := by simpa using x0
      clear e
      go_enter Try.func16, Try.ntmps16
      go_wp2_with fail
      refine (C2.out _).mono ?_
      rintro e w1 ⟨rfl, rfl⟩
      go_wp2
      go_ret
      exact ⟨rfl, rfl⟩
    have x0' : decide (x < 0) = false := by simpa using x0
    by_cases x1 : 1048576 < x
    · have e : ratE x = 10 := if_pos (.inr x1)
      rw [e]
      have x1' : decide (1048576 < x) = true := by simpa using x1
      clear e
      go_enter Try.func16, Try.ntmps16
      go_wp2_with fail
      refine (C2.out _).mono ?_
      rintro e w1 ⟨rfl, rfl⟩
      go_wp2
      go_ret
      exact ⟨rfl, rfl⟩
    have x1' : decide (1048576 < x) = false := by simpa using x1
    have e : ratE x = 0 := if_neg (by omega)
    rw [e]
    clear e
    go_enter Try.func16, Try.ntmps16
    go_wp2_with fail
    refine (C2.out _).mono ?_
    rintro e w1 ⟨rfl, rfl⟩
    go_wp2
    go_ret
    exact ⟨rfl, rfl⟩
  · have e : chE r t x = timeE t := by unfold chE; rw [if_pos hm, if_neg ht]
    rw [e]
    have ht' : (timeE t == 0) = false := by simpa using ht
    have C2 := Lib.hid c2
    clear c2 e ht hm
    generalize timeE t = y at *
    go_enter Try.func16, Try.ntmps16
    go_wp2_with fail
    refine (C2.out _).mono ?_
    rintro e w1 ⟨rfl, rfl⟩
    go_wp2
    go_ret
    exact ⟨rfl, rfl⟩

theorem ch_calc {r t x : Int} (h : chE r t x = 0) : wrap64 ((wrap64 (wrap64 (t * x) + r)).tdiv 1048576) = (t * x + r) / 1048576 ∧ (wrap64 (wrap64 (t * x) + r)).tmod 1048576 = (t * x + r) % 1048576 := by
  obtain ⟨⟨r0, r1⟩, ⟨t0, t1⟩, x0, x1⟩ := chE_may h
  have m0 : 0 ≤ t * x := Int.mul_nonneg t0 x0
  have m1 : t * x ≤ 1099511627775 * 1048576 := Int.mul_le_mul (by omega) x1 x0 (by omega)
  have ew : wrap64 (wrap64 (t * x) + r) = t * x + r := by rw [wrap_in (x := t * x) (by omega) (by omega), wrap_in (by omega) (by omega)]
  rw [ew, Int.tdiv_eq_ediv_of_nonneg (by omega), wrap_in (by omega) (by omega)]
  exact ⟨rfl, Int.tmod_eq_emod_of_nonneg (by omega)⟩

theorem rcharge_ok (r t x : Int) (h : chE r t x = 0) (w : World) :
    Calls Try.prog 17 #[.int .i64 r, .int .i64 t, .int .i64 x] w fun e w' => e = .returned (.tuple #[.int .i64 ((t * x + r) / 1048576), .int .i64 ((t * x + r) % 1048576)]) ∧ w = w' := by
  have EQ := Lib.hid (ch_calc h)
  clear h
  go_enter Try.func17, Try.ntmps17
  go_wp2
  go_ret2
  exact ⟨by rw [← EQ.out.1, ← EQ.out.2]; rfl, rfl⟩

theorem rmay_any (a c k : Int) (w : World) :
    Calls Try.prog 22 #[.int .i64 a, .int .i64 c, .int .i64 k] w fun e w' => e = .returned (.bool (decide (loadE a c k = 0))) ∧ w = w' := by
  by_cases h0 : a < 0
  · have e : loadE a c k = 1 := if_pos (by omega)
    rw [e]
    have h0' : decide (0 ≤ a) = false := by simpa using h0
    go_enter Try.func22, Try.ntmps22
    go_wp2
    go_ret
    exact ⟨rfl, rfl⟩
  have h0' : decide (0 ≤ a) = true := by simp; omega
  by_cases h1 : 67108864 < a
  · have e : loadE a c k = 1 := if_pos (by omega)
    rw [e]
    have h1' : decide (a ≤ 67108864) = false := by simpa using h1
    go_enter Try.func22, Try.ntmps22
    go_wp2
    go_ret
    exact ⟨rfl, rfl⟩
  have h1' : decide (a ≤ 67108864) = true := by simp; omega
  by_cases h2 : c < 0
  · have e : loadE a c k = 1 := if_pos (by omega)
    rw [e]
    have h2' : decide (0 ≤ c) = false := by simpa using h2
    go_enter Try.func22, Try.ntmps22
    go_wp2
    go_ret
    exact ⟨rfl, rfl⟩
  have h2' : decide (0 ≤ c) = true := by simp; omega
  by_cases h3 : 1048576 < c
  · have e : loadE a c k = 1 := if_pos (by omega)
    rw [e]
    have h3' : decide (c ≤ 1048576) = false := by simpa using h3
    go_enter Try.func22, Try.ntmps22
    go_wp2
    go_ret
    exact ⟨rfl, rfl⟩
  have h3' : decide (c ≤ 1048576) = true := by simp; omega
  by_cases h4 : k < 1
  · have e : loadE a c k = 1 := if_pos (by omega)
    rw [e]
    have h4' : decide (1 ≤ k) = false := by simpa using h4
    go_enter Try.func22, Try.ntmps22
    go_wp2
    go_ret
    exact ⟨rfl, rfl⟩
  have h4' : decide (1 ≤ k) = true := by simp; omega
  by_cases h5 : 16 < k
  · have e : loadE a c k = 1 := if_pos (by omega)
    rw [e]
    have h5' : decide (k ≤ 16) = false := by simpa using h5
    go_enter Try.func22, Try.ntmps22
    go_wp2
    go_ret
    exact ⟨rfl, rfl⟩
  have h5' : decide (k ≤ 16) = true := by simp; omega
  have e : loadE a c k = 0 := if_neg (by omega)
  rw [e]
  go_enter Try.func22, Try.ntmps22
  go_wp2
  go_ret
  exact ⟨rfl, rfl⟩
theorem gmay_any (a c k : Int) (w : World) :
    Calls Try.prog 11 #[.agg #[.int .i64 a, .int .i64 c, .int .i64 k]] w fun e w' => e = .returned (.bool (decide (loadE a c k = 0))) ∧ Below w.heap.size w w' := by
  have C1 := Lib.hid (fun W => rmay_any a c k W)
  have B := fun o => (Below.refl w.heap.size w).alloc (Nat.le_refl _) o
  generalize decide (loadE a c k = 0) = y at *
  go_enter Try.func11, Try.ntmps11
  go_wp2_with fail
  refine (C1.out _).mono ?_
  rintro e w1 ⟨rfl, rfl⟩
  go_wp2
  go_ret
  exact ⟨rfl, B _⟩

theorem rspare_ok (a c k : Int) (h : loadE a c k = 0) (w : World) :
    Calls Try.prog 14 #[.int .i64 a, .int .i64 c, .int .i64 k] w fun e w' => e = .returned (.int .i64 (spareN a c k)) ∧ w = w' := by
  obtain ⟨a0, a1, c0, c2, k0, k1⟩ := loadE_may h
  have p0 : 0 ≤ c * k := Int.mul_nonneg c0 (by omega)
  have p1 : c * k ≤ 1048576 * 16 := Int.mul_le_mul c2 k1 (by omega) (by omega)
  have ew : wrap64 (wrap64 (c * k) - a) = c * k - a := by rw [wrap_in (x := c * k) (by omega) (by omega), wrap_in (by omega) (by omega)]
  have hk : (k == 0) = false := by simp; omega
  by_cases hn : c * k - a < 0
  · have e : spareN a c k = 0 := by unfold spareN; rw [Int.max_eq_right (by omega)]; simp
    rw [e]
    have hn' : decide (wrap64 (wrap64 (c * k) - a) < 0) = true := by rw [ew]; simpa using hn
    clear e ew
    go_enter Try.func14, Try.ntmps14
    go_wp2
    go_ret
    exact ⟨rfl, rfl⟩
  · have hn' : decide (wrap64 (wrap64 (c * k) - a) < 0) = false := by rw [ew]; simpa using hn
    have hq : (c * k - a) / k ≤ 16777216 := Int.ediv_le_of_le_mul (by omega) (by
      have : 16777216 * 1 ≤ 16777216 * k := Int.mul_le_mul_of_nonneg_left (by omega) (by omega)
      omega)
    have hq0 : 0 ≤ (c * k - a) / k := Int.ediv_nonneg (by omega) (by omega)
    have e := Lib.hid (show (c * k - a) / k = spareN a c k from by
      unfold spareN
      rw [Int.max_eq_left (by omega)])
    clear ew
    go_enter Try.func14, Try.ntmps14
    go_wp2
    go_ret
    exact ⟨by rw [← e.out]; rfl, rfl⟩

/-- The chapter's example. -/
theorem awake8_any (w : World) : Calls Try.prog 13 #[] w fun e w' => e = .returned (.bool true) ∧ Below w.heap.size w w' := by
  have c1 := fun W => gspare_any 524288 1048576 1 W
  rw [show spareR 524288 1048576 1 = (524288, 0) by decide] at c1
  have C1 := Lib.hid c1
  have c2 := fun W => grate_any 262144 524288 1048576 1 W
  rw [show rateR 262144 524288 1048576 1 = (524288, 0) by decide] at c2
  have C2 := Lib.hid c2
  have c3 := fun W => gcharge_any 0 3 524288 W
  rw [show chN 0 3 524288 = 1 by decide, show chR 0 3 524288 = 524288 by decide, show chE 0 3 524288 = 0 by decide] at c3
  have C3 := Lib.hid c3
  clear c1 c2 c3
  go_enter Try.func13, Try.ntmps13
  go_wp2_with fail
  refine (C1.out _).mono ?_
  rintro e w1 ⟨rfl, b1⟩
  have H1 := Lib.hid ((Arr3.start w 524288 1048576 1 23).next b1)
  obtain ⟨_, _, p0, p1, p2⟩ := H1.out
  go_wp2_with fail
  refine (C2.out _).mono ?_
  rintro e w2 ⟨rfl, b2⟩
  have H2 := Lib.hid (H1.out.next b2)
  go_wp2_with fail
  refine (C3.out _).mono ?_
  rintro e w3 ⟨rfl, b3⟩
  go_wp2
  go_ret
  exact ⟨rfl, (H2.out.done b3).alloc (Nat.le_trans H2.out.2.1.size b3.size) _⟩

def AwG : Prop := Hid (∀ W, Calls Try.prog 13 #[] W fun E w' => E = .returned (.bool true) ∧ Below W.heap.size W w')
theorem awG : AwG := Lib.hid (fun W => awake8_any W)
end Go.Proofs.Ythncchngphlcfaa
