/-
  The walks of cbs.Fits and cbs.Lag.
-/
import Derived.Test.YtbkdfbddcfglgaaRRRCb
import Derived.Test.YtbkdfbddcfglgaaRRRCm
namespace Go.Proofs.YtbkdfbddcfglgaaRRR
open Go.RowKit
set_option linter.unusedVariables false
set_option linter.unusedSimpArgs false

theorem less_int (a b c d : Int) (a0 : 0 ≤ a) (a1 : a ≤ 9223372036854775807) (b0 : 0 ≤ b) (b1 : b ≤ 9223372036854775807) (c0 : 0 ≤ c) (c1 : c ≤ 9223372036854775807) (d0 : 0 ≤ d) (d1 : d ≤ 9223372036854775807) (w : World) :
    Calls Try.prog 26 #[.int .i64 a, .int .i64 b, .int .i64 c, .int .i64 d] w fun e w' => e = .returned (.tuple #[.bool (decide (a * b < c * d)), .int .i64 0]) ∧ Below w.heap.size w w' := by
  obtain ⟨a, rfl⟩ := Int.eq_ofNat_of_zero_le a0
  obtain ⟨b, rfl⟩ := Int.eq_ofNat_of_zero_le b0
  obtain ⟨c, rfl⟩ := Int.eq_ofNat_of_zero_le c0
  obtain ⟨d, rfl⟩ := Int.eq_ofNat_of_zero_le d0
  have h := less_ok a b c d (by omega) (by omega) (by omega) (by omega) w
  have e : decide ((a : Int) * (b : Int) < (c : Int) * (d : Int)) = decide (a * b < c * d) := by
    rw [← Int.natCast_mul, ← Int.natCast_mul]
    exact decide_eq_decide.2 Int.ofNat_lt
  rw [e]
  exact h
theorem div_int (a b c : Int) (a0 : 0 ≤ a) (a1 : a ≤ 9223372036854775807) (b0 : 0 ≤ b) (b1 : b ≤ 9223372036854775807) (c0 : 0 < c) (c1 : c ≤ 9223372036854775807) (h : a * b / c ≤ 9223372036854775807) (w : World) :
    Calls Try.prog 25 #[.int .i64 a, .int .i64 b, .int .i64 c, .bool false] w fun e w' => e = .returned (.tuple #[.int .i64 (a * b / c), .int .i64 0]) ∧ Below w.heap.size w w' := by
  have k := div_any a b c false ⟨by omega, a1⟩ ⟨by omega, b1⟩ ⟨by omega, c1⟩ w
  obtain ⟨a, rfl⟩ := Int.eq_ofNat_of_zero_le a0
  obtain ⟨b, rfl⟩ := Int.eq_ofNat_of_zero_le b0
  obtain ⟨c, rfl⟩ := Int.eq_ofNat_of_zero_le (by omega : 0 ≤ c)
  have e : (a : Int) * (b : Int) / (c : Int) = ((a * b / c : Nat) : Int) := by rw [← Int.natCast_mul, ← Int.natCast_ediv]
  rw [e] at h ⊢
  have g : a * b / c ≤ 9223372036854775807 := by omega
  rw [divR_of a b c false (by omega), divQ_down, if_pos g] at k
  exact k

/-- Whether what is left may be spent up to the deadline. -/
def fitsB (now q d l e : Int) : Bool := decide (now < e ∧ l * d ≤ (e - now) * q)

/-- Params, a time and numbers that may be. -/
structure Ok6 (now q d t l e n : Int) : Prop where
  q0 : 1 ≤ q
  qd : q ≤ d
  dt : d ≤ t
  t1 : t ≤ 1073741824
  n0 : 0 ≤ now
  n1 : now < 1099511627776
  l0 : -1073741824 ≤ l
  l1 : l ≤ 1073741824
  e0 : 0 ≤ e
  e1 : e < 1099511627776
  x0 : 0 ≤ n
  x1 : n < 1099511627776

theorem timeE_may {t : Int} (h : timeE t = 0) : 0 ≤ t ∧ t < 1099511627776 := by
  by_cases hh : t < 0 ∨ 1099511627776 ≤ t
  · exact absurd h (timeE_ne hh)
  · omega
theorem numE_may {l e n : Int} (h : numE l e n = 0) : (-1073741824 ≤ l ∧ l ≤ 1073741824) ∧ (0 ≤ e ∧ e < 1099511627776) ∧ 0 ≤ n ∧ n < 1099511627776 := by
  unfold numE at h
  by_cases hl : l < -1073741824 ∨ 1073741824 < l
  · rw [if_pos hl] at h
    exact absurd h (by decide)
  rw [if_neg hl] at h
  by_cases he : timeE e = 0
  · rw [if_pos he] at h
    exact ⟨by omega, timeE_may he, timeE_may h⟩
  · rw [if_neg he] at h
    exact absurd h he
theorem numE_of {l e n : Int} (l0 : -1073741824 ≤ l) (l1 : l ≤ 1073741824) (e0 : 0 ≤ e) (e1 : e < 1099511627776) (x0 : 0 ≤ n) (x1 : n < 1099511627776) : numE l e n = 0 := by
  unfold numE
  rw [if_neg (by omega), if_pos (timeE_ok e0 e1), timeE_ok x0 x1]
theorem checkE_may {q d t : Int} (h : checkE q d t = 0) : 1 ≤ q ∧ q ≤ d ∧ d ≤ t ∧ t ≤ 1073741824 := by
  by_cases hh : q < 1 ∨ d < q ∨ t < d ∨ 1073741824 < t
  · exact absurd (h.symm.trans (if_pos hh)) (by decide)
  · omega
theorem checkE_of {q d t : Int} (q0 : 1 ≤ q) (qd : q ≤ d) (dt : d ≤ t) (t1 : t ≤ 1073741824) : checkE q d t = 0 := if_neg (by omega)
theorem allE_may {now q d t l e n : Int} (h : allE now q d t l e n = 0) : Ok6 now q d t l e n := by
  unfold allE at h
  by_cases hc : checkE q d t = 0
  · rw [if_pos hc] at h
    by_cases ht : timeE now = 0
    · rw [if_pos ht] at h
      obtain ⟨a, b, c⟩ := numE_may h
      obtain ⟨p0, p1, p2, p3⟩ := checkE_may hc
      obtain ⟨r0, r1⟩ := timeE_may ht
      exact ⟨p0, p1, p2, p3, r0, r1, a.1, a.2, b.1, b.2, c.1, c.2⟩
    · rw [if_neg ht] at h
      exact absurd h ht
  · rw [if_neg hc] at h
    exact absurd h (by decide)
theorem Ok6.all {now q d t l e n : Int} (h : Ok6 now q d t l e n) : allE now q d t l e n = 0 := by
  unfold allE
  rw [if_pos (checkE_of h.q0 h.qd h.dt h.t1), if_pos (timeE_ok h.n0 h.n1), numE_of h.l0 h.l1 h.e0 h.e1 h.x0 h.x1]
theorem Ok6.num {now q d t l e n : Int} (h : Ok6 now q d t l e n) : numE l e n = 0 := numE_of h.l0 h.l1 h.e0 h.e1 h.x0 h.x1

set_option maxHeartbeats 1000000 in
theorem fits_bad (now q d t l e n : Int) (h : allE now q d t l e n ≠ 0) (w : World) :
    Calls Try.prog 18 #[.int .i64 now, .agg #[.int .i64 q, .int .i64 d, .int .i64 t], .agg #[.int .i64 l, .int .i64 e, .int .i64 n]] w fun E w' => E = .returned (.tuple #[.bool false, .int .i64 (allE now q d t l e n)]) ∧ Below w.heap.size w w' := by
  have S0 := Lib.hid (Two3.start w 23 25 q d t l e n)
  have C1 := Lib.hid (fun W => call_any now q d t l e n W)
  have h' : (allE now q d t l e n != 0) = true := by simpa using h
  clear h
  generalize allE now q d t l e n = x at *
  go_enter Try.func18, Try.ntmps18
  go_wp2_with fail
  refine (C1.out _).mono ?_
  rintro E w1 ⟨rfl, b1⟩
  have S1 := Lib.hid (S0.out.next b1)
  go_wp2
  go_ret2
  exact ⟨rfl, S1.out.1⟩

set_option maxHeartbeats 1000000 in
theorem fits_ok (now q d t l e n : Int) (h : Ok6 now q d t l e n) (w : World) :
    Calls Try.prog 18 #[.int .i64 now, .agg #[.int .i64 q, .int .i64 d, .int .i64 t], .agg #[.int .i64 l, .int .i64 e, .int .i64 n]] w fun E w' => E = .returned (.tuple #[.bool (fitsB now q d l e), .int .i64 0]) ∧ Below w.heap.size w w' := by
  have S0 := Lib.hid (Two3.start w 23 25 q d t l e n)
  have c1 := fun W => call_any now q d t l e n W
  rw [h.all] at c1
  have C1 := Lib.hid c1
  clear c1
  obtain ⟨q0, qd, dt, t1, n0, n1, l0, l1, e0, e1, x0, x1⟩ := h
  by_cases h1 : e ≤ now
  · have x : fitsB now q d l e = false := decide_eq_false (fun hh => by omega)
    have h1' : decide (e ≤ now) = true := decide_eq_true h1
    rw [x]
    clear x
    go_enter Try.func18, Try.ntmps18
    go_wp2_with fail
    refine (C1.out _).mono ?_
    rintro E w1 ⟨rfl, b1⟩
    have S1 := Lib.hid (S0.out.next b1)
    obtain ⟨p0, p1, p2⟩ := S1.out.2.1.cells
    obtain ⟨r0, r1, r2⟩ := S1.out.2.2.cells
    go_wp2
    go_ret2
    exact ⟨rfl, S1.out.1⟩
  have h1' : decide (e ≤ now) = false := decide_eq_false h1
  by_cases h2 : l < 1
  · have x : fitsB now q d l e = true := decide_eq_true ⟨by omega, by
      have a := Int.mul_nonneg (by omega : 0 ≤ e - now) (by omega : 0 ≤ q)
      have b := Int.mul_nonneg (by omega : 0 ≤ -l) (by omega : 0 ≤ d)
      rw [Int.neg_mul] at b
      omega⟩
    have h2' : decide (l < 1) = true := decide_eq_true h2
    rw [x]
    clear x
    go_enter Try.func18, Try.ntmps18
    go_wp2_with fail
    refine (C1.out _).mono ?_
    rintro E w1 ⟨rfl, b1⟩
    have S1 := Lib.hid (S0.out.next b1)
    obtain ⟨p0, p1, p2⟩ := S1.out.2.1.cells
    obtain ⟨r0, r1, r2⟩ := S1.out.2.2.cells
    go_wp2
    go_ret2
    exact ⟨rfl, S1.out.1⟩
  have h2' : decide (l < 1) = false := decide_eq_false h2
  have x : fitsB now q d l e = !decide ((e - now) * q < l * d) := by
    unfold fitsB
    rw [← decide_not]
    exact decide_eq_decide.2 ⟨fun hh => by omega, fun hh => ⟨by omega, by omega⟩⟩
  have C2 := Lib.hid (fun W => less_int (e - now) q l d (by omega) (by omega) (by omega) (by omega) (by omega) (by omega) (by omega) (by omega) W)
  rw [x]
  clear x
  generalize decide ((e - now) * q < l * d) = y at *
  go_enter Try.func18, Try.ntmps18
  go_wp2_with fail
  refine (C1.out _).mono ?_
  rintro E w1 ⟨rfl, b1⟩
  have S1 := Lib.hid (S0.out.next b1)
  obtain ⟨p0, p1, p2⟩ := S1.out.2.1.cells
  obtain ⟨r0, r1, r2⟩ := S1.out.2.2.cells
  go_wp2_with fail
  refine (C2.out _).mono ?_
  rintro E w2 ⟨rfl, b2⟩
  go_wp2
  go_ret2
  exact ⟨rfl, (S1.out.next b2).1⟩

/-- When a server that sleeps has no claim any more. -/
def lagN (q t l e : Int) : Int := if l < 1 then e else max (e - l * t / q) 0

set_option maxHeartbeats 1000000 in
theorem clag_bad1 (q d t l e n : Int) (h : checkE q d t ≠ 0) (w : World) :
    Calls Try.prog 13 #[.agg #[.int .i64 q, .int .i64 d, .int .i64 t], .agg #[.int .i64 l, .int .i64 e, .int .i64 n]] w fun E w' => E = .returned (.tuple #[.int .i64 0, .int .i64 1]) ∧ Below w.heap.size w w' := by
  have S0 := Lib.hid (Two3.start w 23 25 q d t l e n)
  have c1 := fun W => check_any q d t W
  rw [checkE_ne h] at c1
  have C1 := Lib.hid c1
  clear h c1
  go_enter Try.func13, Try.ntmps13
  go_wp2_with fail
  refine (C1.out _).mono ?_
  rintro E w1 ⟨rfl, b1⟩
  have S1 := Lib.hid (S0.out.next b1)
  go_wp2
  go_ret2
  exact ⟨rfl, S1.out.1⟩
set_option maxHeartbeats 1000000 in
theorem clag_bad2 (q d t l e n : Int) (h : checkE q d t = 0) (h2 : numE l e n ≠ 0) (w : World) :
    Calls Try.prog 13 #[.agg #[.int .i64 q, .int .i64 d, .int .i64 t], .agg #[.int .i64 l, .int .i64 e, .int .i64 n]] w fun E w' => E = .returned (.tuple #[.int .i64 0, .int .i64 (numE l e n)]) ∧ Below w.heap.size w w' := by
  have S0 := Lib.hid (Two3.start w 23 25 q d t l e n)
  have c1 := fun W => check_any q d t W
  rw [h] at c1
  have C1 := Lib.hid c1
  have C2 := Lib.hid (fun W => ccheck_any l e n W)
  have h' : (numE l e n != 0) = true := by simpa using h2
  clear h c1 h2
  generalize numE l e n = x at *
  go_enter Try.func13, Try.ntmps13
  go_wp2_with fail
  refine (C1.out _).mono ?_
  rintro E w1 ⟨rfl, b1⟩
  have S1 := Lib.hid (S0.out.next b1)
  obtain ⟨r0, r1, r2⟩ := S1.out.2.2.cells
  go_wp2_with fail
  refine (C2.out _).mono ?_
  rintro E w2 ⟨rfl, b2⟩
  have S2 := Lib.hid (S1.out.next b2)
  go_wp2
  go_ret2
  exact ⟨rfl, S2.out.1⟩

set_option maxHeartbeats 1000000 in
theorem clag_ok (q d t l e n : Int) (h : Ok6 0 q d t l e n) (w : World) :
    Calls Try.prog 13 #[.agg #[.int .i64 q, .int .i64 d, .int .i64 t], .agg #[.int .i64 l, .int .i64 e, .int .i64 n]] w fun E w' => E = .returned (.tuple #[.int .i64 (lagN q t l e), .int .i64 0]) ∧ Below w.heap.size w w' := by
  have S0 := Lib.hid (Two3.start w 23 25 q d t l e n)
  have c1 := fun W => check_any q d t W
  rw [checkE_of h.q0 h.qd h.dt h.t1] at c1
  have c2 := fun W => ccheck_any l e n W
  rw [h.num] at c2
  have C1 := Lib.hid c1
  have C2 := Lib.hid c2
  clear c1 c2
  obtain ⟨q0, qd, dt, t1, n0, n1, l0, l1, e0, e1, x0, x1⟩ := h
  by_cases h2 : l < 1
  · have x : lagN q t l e = e := if_pos h2
    have h2' : decide (l < 1) = true := decide_eq_true h2
    rw [x]
    clear x
    go_enter Try.func13, Try.ntmps13
    go_wp2_with fail
    refine (C1.out _).mono ?_
    rintro E w1 ⟨rfl, b1⟩
    have S1 := Lib.hid (S0.out.next b1)
    obtain ⟨r0, r1, r2⟩ := S1.out.2.2.cells
    go_wp2_with fail
    refine (C2.out _).mono ?_
    rintro E w2 ⟨rfl, b2⟩
    have S2 := Lib.hid (S1.out.next b2)
    clear r0 r1 r2
    obtain ⟨r0, r1, r2⟩ := S2.out.2.2.cells
    go_wp2
    go_ret2
    exact ⟨rfl, S2.out.1⟩
  have h2' : decide (l < 1) = false := decide_eq_false h2
  have x : lagN q t l e = max (e - l * t / q) 0 := if_neg h2
  have k0 : 0 ≤ l * t / q := Int.ediv_nonneg (Int.mul_nonneg (by omega) (by omega)) (by omega)
  have k1 : l * t / q ≤ 1152921504606846976 := by
    obtain ⟨L, rfl⟩ := Int.eq_ofNat_of_zero_le (by omega : 0 ≤ l)
    obtain ⟨T, rfl⟩ := Int.eq_ofNat_of_zero_le (by omega : 0 ≤ t)
    obtain ⟨Q, rfl⟩ := Int.eq_ofNat_of_zero_le (by omega : 0 ≤ q)
    have := (lag_small L T Q (by omega) (by omega)).2
    rw [← Int.natCast_mul, ← Int.natCast_ediv]
    omega
  have C3 := Lib.hid (fun W => div_int l t q (by omega) (by omega) (by omega) (by omega) (by omega) (by omega) (by omega) W)
  rw [x]
  clear x
  generalize l * t / q = y at *
  go_enter Try.func13, Try.ntmps13
  go_wp2_with fail
  refine (C1.out _).mono ?_
  rintro E w1 ⟨rfl, b1⟩
  have S1 := Lib.hid (S0.out.next b1)
  obtain ⟨r0, r1, r2⟩ := S1.out.2.2.cells
  go_wp2_with fail
  refine (C2.out _).mono ?_
  rintro E w2 ⟨rfl, b2⟩
  have S2 := Lib.hid (S1.out.next b2)
  clear r0 r1 r2
  obtain ⟨p0, p1, p2⟩ := S2.out.2.1.cells
  obtain ⟨r0, r1, r2⟩ := S2.out.2.2.cells
  go_wp2_with fail
  refine (C3.out _).mono ?_
  rintro E w3 ⟨rfl, b3⟩
  have S3 := Lib.hid (S2.out.next b3)
  clear r0 r1 r2 p0 p1 p2
  obtain ⟨r0, r1, r2⟩ := S3.out.2.2.cells
  go_wp2
  go_ret2
  exact ⟨rfl, S3.out.1⟩
end Go.Proofs.YtbkdfbddcfglgaaRRR
