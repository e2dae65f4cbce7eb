/-
  The document's answer for layer 6: Fresh, Refill, Lag; and the law's awake.
-/
import Derived.Test.YtbkdfbddcfglgaaRRRCe
import Derived.IntWalk
import Derived.Deep.QuietTactic
import Derived.BigQuiet
namespace Go.Proofs.YtbkdfbddcfglgaaRRR
open Go.RowKit
set_option linter.unusedVariables false
set_option linter.unusedSimpArgs false

theorem wrap64_in {x : Int} (h : -9223372036854775808 ≤ x) (h' : x ≤ 9223372036854775807) : wrap64 x = x := by unfold wrap64; omega
theorem below_drawn {w W : World} {B : Nat} (h : Below B w W) (n : Nat) : Below B w (W.drewN n) := ⟨h.os, h.tape, h.output, h.size, h.block⟩
theorem afterE_time {now t : Int} (h : timeE now = 0) (t0 : 0 ≤ t) : afterE now t = timeE (now + t) := by
  unfold afterE
  obtain ⟨a, b⟩ := timeE_may h
  rw [if_pos h, if_neg (by omega)]
  by_cases k : 1099511627776 - now ≤ t
  · rw [if_pos k, timeE_far (by omega)]
  · rw [if_neg k, timeE_ok (by omega) (by omega)]
theorem freshE_may {now q d t : Int} (h : freshE now q d t = 0) : (1 ≤ q ∧ q ≤ d ∧ d ≤ t ∧ t ≤ 1073741824) ∧ 0 ≤ now ∧ now + t < 1099511627776 := by
  have h1 : checkE q d t = 0 := by
    by_cases h1 : checkE q d t = 0
    · exact h1
    · exact absurd (h.symm.trans (if_neg h1)) (by decide)
  have h2 : afterE now t = 0 := by
    unfold freshE at h
    rwa [if_pos h1] at h
  obtain ⟨a, b, c, e⟩ := checkE_may h1
  have h3 : timeE now = 0 := by
    by_cases h3 : timeE now = 0
    · exact h3
    · unfold afterE at h2
      rw [if_neg h3] at h2
      exact h2
  rw [afterE_time h3 (by omega)] at h2
  exact ⟨⟨a, b, c, e⟩, (timeE_may h3).1, (timeE_may h2).2⟩
theorem freshE_of {now q d t : Int} (q0 : 1 ≤ q) (qd : q ≤ d) (dt : d ≤ t) (t1 : t ≤ 1073741824) (n0 : 0 ≤ now) (n1 : now + t < 1099511627776) : freshE now q d t = 0 := by
  unfold freshE
  rw [if_pos (checkE_of q0 qd dt t1), afterE_time (timeE_ok n0 (by omega)) (by omega), timeE_ok (by omega) n1]

set_option maxHeartbeats 1000000 in
theorem rfresh_bad (now q d t : Int) (h : freshE now q d t ≠ 0) (w : World) :
    Calls Try.prog 23 #[.int .i64 now, .agg #[.int .i64 q, .int .i64 d, .int .i64 t]] w fun E w' => E = .returned (.tuple #[.agg #[.int .i64 0, .int .i64 0, .int .i64 0], .int .i64 (freshE now q d t)]) ∧ Below w.heap.size w w' := by
  have S0 := Lib.hid (Two3.start w 23 30 q d t 0 0 0)
  have c1 := fun W => may6_any q d t W
  have c2 := fun W => time4_any now W
  by_cases h1 : checkE q d t = 0
  · have x : freshE now q d t = afterE now t := if_pos h1
    rw [x] at h ⊢
    obtain ⟨q0, qd, dt, t1⟩ := checkE_may h1
    rw [h1] at c1
    have C1 := Lib.hid c1
    by_cases h2 : timeE now = 0
    · rw [afterE_time h2 (by omega)] at h ⊢
      have C3 := Lib.hid (fun W => time4_any (now + t) W)
      obtain ⟨n0, n1⟩ := timeE_may h2
      rw [h2] at c2
      have C2 := Lib.hid c2
      have h' : (timeE (now + t) != 0) = true := by simpa using h
      clear c1 c2 x h1 h h2
      have t0 : 0 ≤ t := by omega
      generalize timeE (now + t) = e at *
      go_enter Try.func23, Try.ntmps23
      go_wp2_with fail
      refine (C1.out _).mono ?_
      rintro E w1 ⟨rfl, b1⟩
      have S1 := Lib.hid (S0.out.next b1)
      obtain ⟨p0, p1, p2⟩ := S1.out.2.1.cells
      obtain ⟨r0, r1, r2⟩ := S1.out.2.2.cells
      obtain ⟨f0, f1, f2⟩ := S1.out.2.2.thaw
      go_wp2_with fail
      refine (C2.out _).mono ?_
      rintro E w2 ⟨rfl, rfl⟩
      go_wp2_with fail
      refine (C3.out _).mono ?_
      rintro E w2 ⟨rfl, rfl⟩
      go_wp2
      exact bodyPost_ret (v := .tuple #[.agg #[.int .i64 0, .int .i64 0, .int .i64 0], .int .i64 e]) (by simp [results, Try.results23, go_sem, r0, r1, r2]) rfl ⟨rfl, S1.out.out _ _ _⟩
    · have e2 : afterE now t = timeE now := if_neg h2
      rw [e2] at h ⊢
      have C2 := Lib.hid c2
      have h' : (timeE now != 0) = true := by simpa using h
      have h'' : (timeE now == 0) = false := by simpa using h
      clear c1 c2 x h1 h h2 e2
      generalize timeE now = e at *
      go_enter Try.func23, Try.ntmps23
      go_wp2_with fail
      refine (C1.out _).mono ?_
      rintro E w1 ⟨rfl, b1⟩
      have S1 := Lib.hid (S0.out.next b1)
      obtain ⟨r0, r1, r2⟩ := S1.out.2.2.cells
      obtain ⟨f0, f1, f2⟩ := S1.out.2.2.thaw
      go_wp2_with fail
      refine (C2.out _).mono ?_
      rintro E w2 ⟨rfl, rfl⟩
      go_wp2
      exact bodyPost_ret (v := .tuple #[.agg #[.int .i64 0, .int .i64 0, .int .i64 0], .int .i64 e]) (by simp [results, Try.results23, go_sem, r0, r1, r2]) rfl ⟨rfl, S1.out.out _ _ _⟩
  · have x : freshE now q d t = 1 := if_neg h1
    rw [x]
    rw [checkE_ne h1] at c1
    have C1 := Lib.hid c1
    clear c1 x h1 h c2
    go_enter Try.func23, Try.ntmps23
    go_wp2_with fail
    refine (C1.out _).mono ?_
    rintro E w1 ⟨rfl, b1⟩
    have S1 := Lib.hid (S0.out.next b1)
    obtain ⟨r0, r1, r2⟩ := S1.out.2.2.cells
    obtain ⟨f0, f1, f2⟩ := S1.out.2.2.thaw
    go_wp2
    exact bodyPost_ret (v := .tuple #[.agg #[.int .i64 0, .int .i64 0, .int .i64 0], .int .i64 1]) (by simp [results, Try.results23, go_sem, r0, r1, r2]) rfl ⟨rfl, S1.out.out _ _ _⟩

set_option maxHeartbeats 1000000 in
theorem rfresh_ok (now q d t : Int) (h : freshE now q d t = 0) (w : World) :
    Calls Try.prog 23 #[.int .i64 now, .agg #[.int .i64 q, .int .i64 d, .int .i64 t]] w fun E w' => E = .returned (.tuple #[.agg #[.int .i64 q, .int .i64 (now + d), .int .i64 (now + t)], .int .i64 0]) ∧ Below w.heap.size w w' := by
  have S0 := Lib.hid (Two3.start w 23 30 q d t 0 0 0)
  obtain ⟨⟨q0, q1, q2, q3⟩, n0, n1⟩ := freshE_may h
  have c1 := fun W => may6_any q d t W
  have c2 := fun W => time4_any now W
  have c3 := fun W => time4_any (now + t) W
  rw [checkE_of q0 q1 q2 q3] at c1
  rw [timeE_ok n0 (by omega)] at c2
  rw [timeE_ok (by omega) n1] at c3
  have C1 := Lib.hid c1
  have C2 := Lib.hid c2
  have C3 := Lib.hid c3
  clear c1 c2 c3 h
  have d0 : 0 ≤ d := by omega
  have t0 : 0 ≤ t := by omega
  have d1 : d ≤ 1073741824 := by omega
  go_enter Try.func23, Try.ntmps23
  go_wp2_with fail
  refine (C1.out _).mono ?_
  rintro E w1 ⟨rfl, b1⟩
  have S1 := Lib.hid (S0.out.next b1)
  obtain ⟨p0, p1, p2⟩ := S1.out.2.1.cells
  obtain ⟨r0, r1, r2⟩ := S1.out.2.2.cells
  obtain ⟨f0, f1, f2⟩ := S1.out.2.2.thaw
  go_wp2_with fail
  refine (C2.out _).mono ?_
  rintro E w2 ⟨rfl, rfl⟩
  go_wp2_with fail
  refine (C3.out _).mono ?_
  rintro E w2 ⟨rfl, rfl⟩
  go_wp2
  exact bodyPost_ret (v := .tuple #[.agg #[.int .i64 q, .int .i64 (now + d), .int .i64 (now + t)], .int .i64 0]) (by simp [results, Try.results23, go_sem, r0, r1, r2]) rfl ⟨rfl, S1.out.out _ _ _⟩

set_option maxHeartbeats 1000000 in
theorem rrefill_pos (now q d t l e n : Int) (hl : 0 < l) (w : World) :
    Calls Try.prog 12 #[.int .i64 now, .agg #[.int .i64 q, .int .i64 d, .int .i64 t], .agg #[.int .i64 l, .int .i64 e, .int .i64 n]] w fun E w' => E = .returned (.tuple #[.agg #[.int .i64 l, .int .i64 e, .int .i64 n], .int .i64 0]) ∧ Below w.heap.size w w' := by
  have S0 := Lib.hid (Tri3.start w 23 30 30 q d t l e n l e n)
  have hl' : decide (0 < l) = true := decide_eq_true hl
  go_enter Try.func12, Try.ntmps12
  go_wp2
  exact bodyPost_ret (v := .tuple #[.agg #[.int .i64 l, .int .i64 e, .int .i64 n], .int .i64 0]) (by simp [results, Try.results12, go_sem]) rfl ⟨rfl, S0.out.1⟩

set_option maxHeartbeats 1000000 in
theorem rrefill_far (now q d t l e n : Int) (h : Ok6 now q d t l e n) (hl : l ≤ 0) (hf : 1099511627776 ≤ n + payK l q * t) (w : World) :
    Calls Try.prog 12 #[.int .i64 now, .agg #[.int .i64 q, .int .i64 d, .int .i64 t], .agg #[.int .i64 l, .int .i64 e, .int .i64 n]] w fun E w' => E = .returned (.tuple #[.agg #[.int .i64 0, .int .i64 0, .int .i64 0], .int .i64 21]) ∧ Below w.heap.size w w' := by
  have S0 := Lib.hid (Tri3.start w 23 30 30 q d t l e n 0 0 0)
  obtain ⟨q0, qd, dt, t1, n0, n1, l0, l1, e0, e1, x0, x1⟩ := h
  obtain ⟨⟨k0, k1⟩, ⟨a0, a1⟩, ⟨b0, b1⟩, c0, c1⟩ := payK_facts (t := t) l0 hl q0 (by omega) (by omega) t1
  unfold payK at a0 a1 b0 b1 c0 c1 hf
  obtain ⟨j, hj⟩ : ∃ j, -l / q = j := ⟨_, rfl⟩
  have hj2 : (-l).tdiv q = j := by rw [Int.tdiv_eq_ediv_of_nonneg (by omega)]; exact hj
  rw [hj] at a0 a1 b0 b1 c0 c1 hf k0 k1
  have hf' : decide (1099511627776 ≤ n + (j + 1) * t) = true := decide_eq_true hf
  have hl' : decide (0 < l) = false := decide_eq_false (by omega)
  have m0 : 0 ≤ -l := by omega
  have q1 : q ≤ 1073741824 := by omega
  go_enter Try.func12, Try.ntmps12
  go_wp2
  exact bodyPost_ret (v := .tuple #[.agg #[.int .i64 0, .int .i64 0, .int .i64 0], .int .i64 21]) (by simp [results, Try.results12, go_sem]) rfl ⟨rfl, S0.out.1⟩

set_option maxHeartbeats 1000000 in
theorem rrefill_paid (now q d t l e n : Int) (h : Ok6 now q d t l e n) (hl : l ≤ 0) (hf : n + payK l q * t < 1099511627776) (he : now < n + payK l q * t - t + d) (w : World) :
    Calls Try.prog 12 #[.int .i64 now, .agg #[.int .i64 q, .int .i64 d, .int .i64 t], .agg #[.int .i64 l, .int .i64 e, .int .i64 n]] w fun E w' => E = .returned (.tuple #[.agg #[.int .i64 (l + payK l q * q), .int .i64 (n + payK l q * t - t + d), .int .i64 (n + payK l q * t)], .int .i64 0]) ∧ Below w.heap.size w w' := by
  obtain ⟨q0, qd, dt, t1, n0, n1, l0, l1, e0, e1, x0, x1⟩ := h
  obtain ⟨⟨k0, k1⟩, ⟨a0, a1⟩, ⟨b0, b1⟩, c0, c1⟩ := payK_facts (t := t) l0 hl q0 (by omega) (by omega) t1
  unfold payK at a0 a1 b0 b1 c0 c1 hf he ⊢
  obtain ⟨j, hj⟩ : ∃ j, -l / q = j := ⟨_, rfl⟩
  have hj2 : (-l).tdiv q = j := by rw [Int.tdiv_eq_ediv_of_nonneg (by omega)]; exact hj
  rw [hj] at a0 a1 b0 b1 c0 c1 hf k0 k1 he ⊢
  have S0 := Lib.hid (Tri3.start w 23 30 30 q d t l e n (l + (j + 1) * q) (n + (j + 1) * t - t + d) (n + (j + 1) * t))
  have hf' : decide (1099511627776 ≤ n + (j + 1) * t) = false := decide_eq_false (by omega)
  have he' : decide (n + (j + 1) * t - t + d ≤ now) = false := decide_eq_false (by omega)
  have hl' : decide (0 < l) = false := decide_eq_false (by omega)
  have m0 : 0 ≤ -l := by omega
  have q1 : q ≤ 1073741824 := by omega
  have d0 : 0 ≤ d := by omega
  have d1 : d ≤ 1073741824 := by omega
  have t0 : 0 ≤ t := by omega
  go_enter Try.func12, Try.ntmps12
  go_wp2
  exact bodyPost_ret (v := .tuple #[.agg #[.int .i64 (l + (j + 1) * q), .int .i64 (n + (j + 1) * t - t + d), .int .i64 (n + (j + 1) * t)], .int .i64 0]) (by simp [results, Try.results12, go_sem]) rfl ⟨rfl, S0.out.1⟩

set_option maxHeartbeats 1000000 in
theorem rrefill_late (now q d t l e n : Int) (h : Ok6 now q d t l e n) (hl : l ≤ 0) (hf : n + payK l q * t < 1099511627776) (he : n + payK l q * t - t + d ≤ now) (a b c k : Int)
    (C3 : Hid (∀ W, Calls Try.prog 23 #[.int .i64 now, .agg #[.int .i64 q, .int .i64 d, .int .i64 t]] W fun E w' => E = .returned (.tuple #[.agg #[.int .i64 a, .int .i64 b, .int .i64 c], .int .i64 k]) ∧ Below W.heap.size W w')) (w : World) :
    Calls Try.prog 12 #[.int .i64 now, .agg #[.int .i64 q, .int .i64 d, .int .i64 t], .agg #[.int .i64 l, .int .i64 e, .int .i64 n]] w fun E w' => E = .returned (.tuple #[.agg #[.int .i64 a, .int .i64 b, .int .i64 c], .int .i64 k]) ∧ Below w.heap.size w w' := by
  have S0 := Lib.hid (Tri3.start w 23 30 30 q d t l e n 0 0 0)
  obtain ⟨q0, qd, dt, t1, n0, n1, l0, l1, e0, e1, x0, x1⟩ := h
  obtain ⟨⟨k0, k1⟩, ⟨a0, a1⟩, ⟨b0, b1⟩, c0, c1⟩ := payK_facts (t := t) l0 hl q0 (by omega) (by omega) t1
  unfold payK at a0 a1 b0 b1 c0 c1 hf he
  obtain ⟨j, hj⟩ : ∃ j, -l / q = j := ⟨_, rfl⟩
  have hj2 : (-l).tdiv q = j := by rw [Int.tdiv_eq_ediv_of_nonneg (by omega)]; exact hj
  rw [hj] at a0 a1 b0 b1 c0 c1 hf k0 k1 he
  have hf' : decide (1099511627776 ≤ n + (j + 1) * t) = false := decide_eq_false (by omega)
  have he' : decide (n + (j + 1) * t - t + d ≤ now) = true := decide_eq_true he
  have hl' : decide (0 < l) = false := decide_eq_false (by omega)
  have m0 : 0 ≤ -l := by omega
  have q1 : q ≤ 1073741824 := by omega
  have d0 : 0 ≤ d := by omega
  have d1 : d ≤ 1073741824 := by omega
  have t0 : 0 ≤ t := by omega
  go_enter Try.func12, Try.ntmps12
  go_wp2_with fail
  refine (C3.out _).mono ?_
  rintro E w3 ⟨rfl, b3⟩
  have S3 := Lib.hid (S0.out.next b3)
  obtain ⟨r0, r1, r2⟩ := S3.out.2.2.2.cells
  obtain ⟨f0, f1, f2⟩ := S3.out.2.2.2.thaw
  go_wp2
  exact bodyPost_ret (v := .tuple #[.agg #[.int .i64 a, .int .i64 b, .int .i64 c], .int .i64 k]) (by simp [results, Try.results12, go_sem, r0, r1, r2]) rfl ⟨rfl, S3.out.out _ _ _⟩

set_option maxHeartbeats 1000000 in
theorem rlag_ok (q d t l e n : Int) (h : Ok6 0 q d t l e n) (w : World) :
    Calls Try.prog 15 #[.agg #[.int .i64 q, .int .i64 d, .int .i64 t], .agg #[.int .i64 l, .int .i64 e, .int .i64 n]] w fun E w' => E = .returned (.int .i64 (lagN q t l e)) ∧ Below w.heap.size w w' := by
  have S0 := Lib.hid (Two3.start w 23 30 q d t l e n)
  obtain ⟨q0, qd, dt, t1, n0, n1, l0, l1, e0, e1, x0, x1⟩ := h
  by_cases h2 : l < 1
  · have x : lagN q t l e = e := if_pos h2
    have h2' : decide (l < 1) = true := decide_eq_true h2
    rw [x]
    clear x
    go_enter Try.func15, Try.ntmps15
    go_wp2
    go_ret
    exact ⟨rfl, S0.out.1⟩
  have h2' : decide (l < 1) = false := decide_eq_false h2
  have x : lagN q t l e = max (e - l * t / q) 0 := if_neg h2
  have k0 : 0 ≤ l * t / q := Int.ediv_nonneg (Int.mul_nonneg (by omega) (by omega)) (by omega)
  have p0 : 0 ≤ l * t := Int.mul_nonneg (by omega) (by omega)
  have kk : l * t / q ≤ 1152921504606846976 ∧ l * t ≤ 1152921504606846976 := by
    obtain ⟨L, rfl⟩ := Int.eq_ofNat_of_zero_le (by omega : 0 ≤ l)
    obtain ⟨T, rfl⟩ := Int.eq_ofNat_of_zero_le (by omega : 0 ≤ t)
    obtain ⟨Q, rfl⟩ := Int.eq_ofNat_of_zero_le (by omega : 0 ≤ q)
    have := lag_small L T Q (by omega) (by omega)
    rw [← Int.natCast_mul, ← Int.natCast_ediv]
    omega
  obtain ⟨k1, p1⟩ := kk
  have big : max 0 (wrap64 (e - wrap64 ((wrap64 (l * t)).tdiv q))) = max (e - l * t / q) 0 := by
    rw [wrap64_in (x := l * t) (by omega) (by omega), Int.tdiv_eq_ediv_of_nonneg p0, wrap64_in (x := l * t / q) (by omega) (by omega), wrap64_in (by omega) (by omega), Int.max_comm]
  have BG := Lib.hid big
  have qn : (q == 0) = false := by simp; omega
  rw [x]
  clear x big k0 p0 k1 p1
  generalize l * t / q = y at *
  go_enter Try.func15, Try.ntmps15
  go_wp2_with fail
  go_quiet (fail)
  go_wp2
  go_ret
  exact ⟨(show Ending.returned (.int .i64 (max 0 (wrap64 (e - wrap64 ((wrap64 (l * t)).tdiv q))))) = _ from by rw [BG.out]), below_drawn S0.out.1 _⟩

/-- The laws' awake answers true. -/
theorem awake6_any (w : World) : Calls Try.prog 14 #[] w fun e w' => e = .returned (.bool true) ∧ Below w.heap.size w w' := by
  have c1 := fun W => fresh_ok 7 10 50 100 (by decide) W
  have c2 := fun W => refill_paid 60 10 50 100 (-5) 57 107 ⟨by decide, by decide, by decide, by decide, by decide, by decide, by decide, by decide, by decide, by decide, by decide, by decide⟩ (by decide) (by decide) (by decide) W
  have c3 := fun W => clag_ok 10 50 100 5 157 207 ⟨by decide, by decide, by decide, by decide, by decide, by decide, by decide, by decide, by decide, by decide, by decide, by decide⟩ W
  rw [show (7 : Int) + 50 = 57 from rfl, show (7 : Int) + 100 = 107 from rfl] at c1
  rw [show (-5 : Int) + payK (-5) 10 * 10 = 5 by decide, show (107 : Int) + payK (-5) 10 * 100 - 100 + 50 = 157 by decide, show (107 : Int) + payK (-5) 10 * 100 = 207 by decide] at c2
  rw [show lagN 10 100 5 157 = 107 by decide] at c3
  have C1 := Lib.hid c1
  have C2 := Lib.hid c2
  have C3 := Lib.hid c3
  clear c1 c2 c3
  go_enter Try.func14, Try.ntmps14
  go_wp2_with fail
  refine (C1.out _).mono ?_
  rintro E w1 ⟨rfl, b1⟩
  have P1 := Lib.hid ((B3.start w 23 10 50 100).next b1)
  have H1 := Lib.hid (((Below.refl w.heap.size w).alloc (Nat.le_refl _) (.cells #[.int .i64 10, .int .i64 50, .int .i64 100] 23)).trans (b1.mono (by simp)))
  obtain ⟨p0, p1, p2⟩ := P1.out.cells
  have lt1 := P1.out.lt
  go_wp2_with fail
  refine (C2.out _).mono ?_
  rintro E w2 ⟨rfl, b2⟩
  have P2 := Lib.hid ((P1.out.alloc _).next b2)
  have A2 := Lib.hid ((B3.start w1 25 10 57 107).next b2)
  have H2 := Lib.hid ((H1.out.alloc H1.out.size (.cells #[.int .i64 10, .int .i64 57, .int .i64 107] 25)).trans (b2.mono (by have := H1.out.size; simp; omega)))
  clear p0 p1 p2
  obtain ⟨p0, p1, p2⟩ := P2.out.cells
  have lt2 := P2.out.lt
  have lt3 := A2.out.lt
  go_wp2_with fail
  refine (C3.out _).mono ?_
  rintro E w3 ⟨rfl, b3⟩
  have A3 := Lib.hid ((A2.out.alloc _).next b3)
  have B3' := Lib.hid ((B3.start w2 25 5 157 207).next b3)
  have H3 := Lib.hid ((H2.out.alloc H2.out.size (.cells #[.int .i64 5, .int .i64 157, .int .i64 207] 25)).trans (b3.mono (by have := H2.out.size; simp; omega)))
  clear p0 p1 p2
  obtain ⟨a0, a1, a2⟩ := A3.out.cells
  obtain ⟨e0, e1, e2⟩ := B3'.out.cells
  go_wp2
  go_ret
  exact ⟨rfl, H3.out⟩
end Go.Proofs.YtbkdfbddcfglgaaRRR
