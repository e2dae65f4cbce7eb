/-
  The walks of cbs.pay and cbs.Refill.
-/
import Derived.Test.YtbkdfbddcfglgaaRRRCc
namespace Go.Proofs.YtbkdfbddcfglgaaRRR
open Go.RowKit
set_option linter.unusedVariables false
set_option linter.unusedSimpArgs false

theorem B3.set {W : World} {b : Nat} {T : TypeId} {x y z : Int} (h : B3 W b T x y z) (x' y' z' : Int) : B3 (((W.setCell ⟨b, 0, none⟩ (.int .i64 x')).setCell ⟨b, 1, none⟩ (.int .i64 y')).setCell ⟨b, 2, none⟩ (.int .i64 z')) b T x' y' z' := by
  unfold B3 at h ⊢
  simp [World.setCell, Array.getElem?_modify, h]
theorem B3.far {W : World} {b c : Nat} {T : TypeId} {x y z : Int} (h : B3 W b T x y z) (hc : b ≠ c) (o : Nat) (v : Value) : B3 (W.setCell ⟨c, o, none⟩ v) b T x y z := by
  unfold B3 at h ⊢
  rw [Below.heap_setCell _ _ _ _ hc]
  exact h
theorem Tri3.set {w W : World} {T T' T2 : TypeId} {a b c x y z r s t : Int} (h : Tri3 w W T T' T2 a b c x y z r s t) (x' y' z' : Int) :
    Tri3 w (((W.setCell ⟨w.heap.size + 1, 0, none⟩ (.int .i64 x')).setCell ⟨w.heap.size + 1, 1, none⟩ (.int .i64 y')).setCell ⟨w.heap.size + 1, 2, none⟩ (.int .i64 z')) T T' T2 a b c x' y' z' r s t :=
  ⟨((h.1.setCell (Nat.le_succ _) _).setCell (Nat.le_succ _) _).setCell (Nat.le_succ _) _, ((h.2.1.far (by omega) _ _).far (by omega) _ _).far (by omega) _ _, h.2.2.1.set x' y' z', ((h.2.2.2.far (by omega) _ _).far (by omega) _ _).far (by omega) _ _⟩
theorem Tri3.out {w W : World} {T T' T2 : TypeId} {a b c x y z r s t : Int} (h : Tri3 w W T T' T2 a b c x y z r s t) (u v o : Value) : Below w.heap.size w (((W.setCell ⟨w.heap.size + 1 + 1, 0, none⟩ u).setCell ⟨w.heap.size + 1 + 1, 1, none⟩ v).setCell ⟨w.heap.size + 1 + 1, 2, none⟩ o) :=
  ((h.1.setCell (by show w.heap.size ≤ w.heap.size + 1 + 1; omega) _).setCell (by show w.heap.size ≤ w.heap.size + 1 + 1; omega) _).setCell (by show w.heap.size ≤ w.heap.size + 1 + 1; omega) _

/-- How many periods pay what was spent too much. -/
def payK (l q : Int) : Int := -l / q + 1
theorem payK_facts {l q t : Int} (l0 : -1073741824 ≤ l) (l1 : l ≤ 0) (q0 : 1 ≤ q) (q1 : q ≤ 1073741824) (t0 : 0 ≤ t) (t1 : t ≤ 1073741824) :
    (0 ≤ -l / q ∧ -l / q ≤ 1073741824) ∧ (0 ≤ payK l q * t ∧ payK l q * t ≤ 1152921505680588800) ∧ (0 ≤ payK l q * q ∧ payK l q * q ≤ 2147483648) ∧ 1 ≤ l + payK l q * q ∧ l + payK l q * q ≤ q := by
  obtain ⟨L, hL⟩ := Int.eq_ofNat_of_zero_le (by omega : 0 ≤ -l)
  obtain ⟨Q, rfl⟩ := Int.eq_ofNat_of_zero_le (by omega : 0 ≤ q)
  obtain ⟨T, rfl⟩ := Int.eq_ofNat_of_zero_le (by omega : 0 ≤ t)
  have e : payK l (Q : Int) = ((L / Q + 1 : Nat) : Int) := by
    unfold payK
    rw [hL, ← Int.natCast_ediv]
    omega
  have a := pay_left L Q (by omega)
  have b := pay_small L Q T (by omega) (by omega)
  have c := pay_smallQ L Q (by omega) (by omega) (by omega)
  have d : L / Q ≤ L := Nat.div_le_self _ _
  rw [e, ← Int.natCast_mul, ← Int.natCast_mul, hL, ← Int.natCast_ediv]
  generalize (L / Q + 1) * T = x at *
  generalize (L / Q + 1) * Q = y at *
  generalize L / Q = z at *
  omega

set_option maxHeartbeats 1000000 in
theorem pay_far (q d t l e n : Int) (h : Ok6 0 q d t l e n) (hl : l ≤ 0) (hf : 1099511627776 ≤ n + payK l q * t) (w : World) :
    Calls Try.prog 21 #[.agg #[.int .i64 q, .int .i64 d, .int .i64 t], .agg #[.int .i64 l, .int .i64 e, .int .i64 n]] w fun E w' => E = .returned (.tuple #[.agg #[.int .i64 0, .int .i64 0, .int .i64 0], .int .i64 21]) ∧ Below w.heap.size w w' := by
  have S0 := Lib.hid (Tri3.start w 23 25 25 q d t l e n 0 0 0)
  obtain ⟨q0, qd, dt, t1, n0, n1, l0, l1, e0, e1, x0, x1⟩ := h
  obtain ⟨⟨k0, k1⟩, ⟨a0, a1⟩, ⟨b0, b1⟩, c0, c1⟩ := payK_facts (t := t) l0 hl q0 (by omega) (by omega) t1
  have c2 := fun W => after_any n (payK l q * t) W
  have ea : afterE n (payK l q * t) = 21 := by unfold afterE; rw [if_pos (timeE_ok x0 x1), if_neg (by omega), if_pos (by omega)]
  have en : afterN n (payK l q * t) = 0 := if_neg (by rw [ea]; decide)
  rw [ea, en] at c2
  unfold payK at c2 a0 a1 b0 b1 c0 c1 hf
  obtain ⟨j, hj⟩ : ∃ j, -l / q = j := ⟨_, rfl⟩
  have hj2 : (-l).tdiv q = j := by rw [Int.tdiv_eq_ediv_of_nonneg (by omega)]; exact hj
  rw [hj] at c2 a0 a1 b0 b1 c0 c1 hf k0 k1
  have C2 := Lib.hid c2
  clear c2 ea en hf
  have m0 : 0 ≤ -l := by omega
  have q1 : q ≤ 1073741824 := by omega
  go_enter Try.func21, Try.ntmps21
  go_wp2_with fail
  refine (C2.out _).mono ?_
  rintro E w2 ⟨rfl, rfl⟩
  go_wp2
  exact bodyPost_ret (v := .tuple #[.agg #[.int .i64 0, .int .i64 0, .int .i64 0], .int .i64 21]) (by simp [results, Try.results21, go_sem]) rfl ⟨rfl, S0.out.1⟩

set_option maxHeartbeats 1000000 in
theorem pay_ok (q d t l e n : Int) (h : Ok6 0 q d t l e n) (hl : l ≤ 0) (hf : n + payK l q * t < 1099511627776) (w : World) :
    Calls Try.prog 21 #[.agg #[.int .i64 q, .int .i64 d, .int .i64 t], .agg #[.int .i64 l, .int .i64 e, .int .i64 n]] w fun E w' => E = .returned (.tuple #[.agg #[.int .i64 (l + payK l q * q), .int .i64 (n + payK l q * t - t + d), .int .i64 (n + payK l q * t)], .int .i64 0]) ∧ Below w.heap.size w w' := by
  have S0 := Lib.hid (Tri3.start w 23 25 25 q d t l e n 0 0 0)
  obtain ⟨q0, qd, dt, t1, n0, n1, l0, l1, e0, e1, x0, x1⟩ := h
  obtain ⟨⟨k0, k1⟩, ⟨a0, a1⟩, ⟨b0, b1⟩, c0, c1⟩ := payK_facts (t := t) l0 hl q0 (by omega) (by omega) t1
  have c2 := fun W => after_any n (payK l q * t) W
  have ea : afterE n (payK l q * t) = 0 := by unfold afterE; rw [if_pos (timeE_ok x0 x1), if_neg (by omega), if_neg (by omega)]
  have en : afterN n (payK l q * t) = n + payK l q * t := if_pos ea
  rw [ea, en] at c2
  unfold payK at c2 a0 a1 b0 b1 c0 c1 hf ⊢
  obtain ⟨j, hj⟩ : ∃ j, -l / q = j := ⟨_, rfl⟩
  have hj2 : (-l).tdiv q = j := by rw [Int.tdiv_eq_ediv_of_nonneg (by omega)]; exact hj
  rw [hj] at c2 a0 a1 b0 b1 c0 c1 hf k0 k1 ⊢
  have C2 := Lib.hid c2
  clear c2 ea en
  have m0 : 0 ≤ -l := by omega
  have q1 : q ≤ 1073741824 := by omega
  have d0 : 0 ≤ d := by omega
  have d1 : d ≤ 1073741824 := by omega
  have t0 : 0 ≤ t := by omega
  go_enter Try.func21, Try.ntmps21
  go_wp2_with fail
  refine (C2.out _).mono ?_
  rintro E w2 ⟨rfl, rfl⟩
  go_wp2
  exact bodyPost_ret (v := .tuple #[.agg #[.int .i64 (l + (j + 1) * q), .int .i64 (n + (j + 1) * t - t + d), .int .i64 (n + (j + 1) * t)], .int .i64 0]) (by simp [results, Try.results21, go_sem]) rfl ⟨rfl, (Tri3.start w 23 25 25 q d t l e n _ _ _).1⟩

theorem Ok6.at0 {now q d t l e n : Int} (h : Ok6 now q d t l e n) : Ok6 0 q d t l e n := ⟨h.q0, h.qd, h.dt, h.t1, by omega, by omega, h.l0, h.l1, h.e0, h.e1, h.x0, h.x1⟩

set_option maxHeartbeats 1000000 in
theorem refill_bad (now q d t l e n : Int) (h : allE now q d t l e n ≠ 0) (w : World) :
    Calls Try.prog 11 #[.int .i64 now, .agg #[.int .i64 q, .int .i64 d, .int .i64 t], .agg #[.int .i64 l, .int .i64 e, .int .i64 n]] w fun E w' => E = .returned (.tuple #[.agg #[.int .i64 0, .int .i64 0, .int .i64 0], .int .i64 (allE now q d t l e n)]) ∧ Below w.heap.size w w' := by
  have S0 := Lib.hid (Tri3.start w 23 25 25 q d t l e n 0 0 0)
  have C1 := Lib.hid (fun W => call_any now q d t l e n W)
  have h' : (allE now q d t l e n != 0) = true := by simpa using h
  clear h
  generalize allE now q d t l e n = x at *
  go_enter Try.func11, Try.ntmps11
  go_wp2_with fail
  refine (C1.out _).mono ?_
  rintro E w1 ⟨rfl, b1⟩
  have S1 := Lib.hid (S0.out.next b1)
  obtain ⟨r0, r1, r2⟩ := S1.out.2.2.2.cells
  obtain ⟨f0, f1, f2⟩ := S1.out.2.2.2.thaw
  go_wp2
  exact bodyPost_ret (v := .tuple #[.agg #[.int .i64 0, .int .i64 0, .int .i64 0], .int .i64 x]) (by simp [results, Try.results11, go_sem, r0, r1, r2]) rfl ⟨rfl, S1.out.out _ _ _⟩

set_option maxHeartbeats 1000000 in
theorem refill_pos (now q d t l e n : Int) (h : Ok6 now q d t l e n) (hl : 0 < l) (w : World) :
    Calls Try.prog 11 #[.int .i64 now, .agg #[.int .i64 q, .int .i64 d, .int .i64 t], .agg #[.int .i64 l, .int .i64 e, .int .i64 n]] w fun E w' => E = .returned (.tuple #[.agg #[.int .i64 l, .int .i64 e, .int .i64 n], .int .i64 0]) ∧ Below w.heap.size w w' := by
  have S0 := Lib.hid (Tri3.start w 23 25 25 q d t l e n 0 0 0)
  have c1 := fun W => call_any now q d t l e n W
  rw [h.all] at c1
  have C1 := Lib.hid c1
  have hl' : decide (0 < l) = true := decide_eq_true hl
  clear c1 h
  go_enter Try.func11, Try.ntmps11
  go_wp2_with fail
  refine (C1.out _).mono ?_
  rintro E w1 ⟨rfl, b1⟩
  have S1 := Lib.hid (S0.out.next b1)
  obtain ⟨p0, p1, p2⟩ := S1.out.2.2.1.cells
  obtain ⟨r0, r1, r2⟩ := S1.out.2.2.2.cells
  obtain ⟨f0, f1, f2⟩ := S1.out.2.2.2.thaw
  go_wp2
  exact bodyPost_ret (v := .tuple #[.agg #[.int .i64 l, .int .i64 e, .int .i64 n], .int .i64 0]) (by simp [results, Try.results11, go_sem, r0, r1, r2]) rfl ⟨rfl, S1.out.out _ _ _⟩

set_option maxHeartbeats 1000000 in
/-- Refill where pay answers an error. -/
theorem refill_far (now q d t l e n : Int) (h : Ok6 now q d t l e n) (hl : l ≤ 0) (hf : 1099511627776 ≤ n + payK l q * t) (w : World) :
    Calls Try.prog 11 #[.int .i64 now, .agg #[.int .i64 q, .int .i64 d, .int .i64 t], .agg #[.int .i64 l, .int .i64 e, .int .i64 n]] w fun E w' => E = .returned (.tuple #[.agg #[.int .i64 0, .int .i64 0, .int .i64 0], .int .i64 21]) ∧ Below w.heap.size w w' := by
  have S0 := Lib.hid (Tri3.start w 23 25 25 q d t l e n 0 0 0)
  have c1 := fun W => call_any now q d t l e n W
  rw [h.all] at c1
  have C1 := Lib.hid c1
  have C2 := Lib.hid (fun W => pay_far q d t l e n h.at0 hl hf W)
  have hl' : decide (0 < l) = false := decide_eq_false (by omega)
  clear c1 h hf
  go_enter Try.func11, Try.ntmps11
  go_wp2_with fail
  refine (C1.out _).mono ?_
  rintro E w1 ⟨rfl, b1⟩
  have S1 := Lib.hid (S0.out.next b1)
  obtain ⟨o0, o1, o2⟩ := S1.out.2.1.cells
  obtain ⟨p0, p1, p2⟩ := S1.out.2.2.1.cells
  go_wp2_with fail
  refine (C2.out _).mono ?_
  rintro E w2 ⟨rfl, b2⟩
  have S2 := Lib.hid (S1.out.next b2)
  clear o0 o1 o2 p0 p1 p2
  obtain ⟨g0, g1, g2⟩ := S2.out.2.2.1.thaw
  obtain ⟨p0, p1, p2⟩ := S2.out.2.2.1.cells
  obtain ⟨r0, r1, r2⟩ := S2.out.2.2.2.cells
  obtain ⟨f0, f1, f2⟩ := S2.out.2.2.2.thaw
  go_wp2
  exact bodyPost_ret (v := .tuple #[.agg #[.int .i64 0, .int .i64 0, .int .i64 0], .int .i64 21]) (by simp [results, Try.results11, go_sem, r0, r1, r2]) rfl ⟨rfl, (S2.out.set 0 0 0).out _ _ _⟩

set_option maxHeartbeats 1000000 in
/-- Refill where pay's deadline is ahead. -/
theorem refill_paid (now q d t l e n : Int) (h : Ok6 now q d t l e n) (hl : l ≤ 0) (hf : n + payK l q * t < 1099511627776) (he : now < n + payK l q * t - t + d) (w : World) :
    Calls Try.prog 11 #[.int .i64 now, .agg #[.int .i64 q, .int .i64 d, .int .i64 t], .agg #[.int .i64 l, .int .i64 e, .int .i64 n]] w fun E w' => E = .returned (.tuple #[.agg #[.int .i64 (l + payK l q * q), .int .i64 (n + payK l q * t - t + d), .int .i64 (n + payK l q * t)], .int .i64 0]) ∧ Below w.heap.size w w' := by
  have S0 := Lib.hid (Tri3.start w 23 25 25 q d t l e n 0 0 0)
  have c1 := fun W => call_any now q d t l e n W
  rw [h.all] at c1
  have C1 := Lib.hid c1
  have C2 := Lib.hid (fun W => pay_ok q d t l e n h.at0 hl hf W)
  have hl' : decide (0 < l) = false := decide_eq_false (by omega)
  have he' : decide (n + payK l q * t - t + d ≤ now) = false := decide_eq_false (by omega)
  clear c1 h hf he
  generalize n + payK l q * t - t + d = y at *
  generalize n + payK l q * t = z at *
  generalize l + payK l q * q = x at *
  go_enter Try.func11, Try.ntmps11
  go_wp2_with fail
  refine (C1.out _).mono ?_
  rintro E w1 ⟨rfl, b1⟩
  have S1 := Lib.hid (S0.out.next b1)
  obtain ⟨o0, o1, o2⟩ := S1.out.2.1.cells
  obtain ⟨p0, p1, p2⟩ := S1.out.2.2.1.cells
  go_wp2_with fail
  refine (C2.out _).mono ?_
  rintro E w2 ⟨rfl, b2⟩
  have S2 := Lib.hid (S1.out.next b2)
  clear o0 o1 o2 p0 p1 p2
  obtain ⟨g0, g1, g2⟩ := S2.out.2.2.1.thaw
  obtain ⟨p0, p1, p2⟩ := S2.out.2.2.1.cells
  obtain ⟨r0, r1, r2⟩ := S2.out.2.2.2.cells
  obtain ⟨f0, f1, f2⟩ := S2.out.2.2.2.thaw
  go_wp2
  exact bodyPost_ret (v := .tuple #[.agg #[.int .i64 x, .int .i64 y, .int .i64 z], .int .i64 0]) (by simp [results, Try.results11, go_sem, r0, r1, r2]) rfl ⟨rfl, (S2.out.set x y z).out _ _ _⟩

set_option maxHeartbeats 1000000 in
/-- Refill where pay's deadline is not ahead: what Fresh answers. -/
theorem refill_late (now q d t l e n : Int) (h : Ok6 now q d t l e n) (hl : l ≤ 0) (hf : n + payK l q * t < 1099511627776) (he : n + payK l q * t - t + d ≤ now) (a b c k : Int)
    (C3 : Hid (∀ W, Calls Try.prog 22 #[.int .i64 now, .agg #[.int .i64 q, .int .i64 d, .int .i64 t]] W fun E w' => E = .returned (.tuple #[.agg #[.int .i64 a, .int .i64 b, .int .i64 c], .int .i64 k]) ∧ Below W.heap.size W w')) (w : World) :
    Calls Try.prog 11 #[.int .i64 now, .agg #[.int .i64 q, .int .i64 d, .int .i64 t], .agg #[.int .i64 l, .int .i64 e, .int .i64 n]] w fun E w' => E = .returned (.tuple #[.agg #[.int .i64 a, .int .i64 b, .int .i64 c], .int .i64 k]) ∧ Below w.heap.size w w' := by
  have S0 := Lib.hid (Tri3.start w 23 25 25 q d t l e n 0 0 0)
  have c1 := fun W => call_any now q d t l e n W
  rw [h.all] at c1
  have C1 := Lib.hid c1
  have C2 := Lib.hid (fun W => pay_ok q d t l e n h.at0 hl hf W)
  have hl' : decide (0 < l) = false := decide_eq_false (by omega)
  have he' : decide (n + payK l q * t - t + d ≤ now) = true := decide_eq_true he
  clear c1 h hf he
  generalize n + payK l q * t - t + d = y at *
  generalize n + payK l q * t = z at *
  generalize l + payK l q * q = x at *
  go_enter Try.func11, Try.ntmps11
  go_wp2_with fail
  refine (C1.out _).mono ?_
  rintro E w1 ⟨rfl, b1⟩
  have S1 := Lib.hid (S0.out.next b1)
  obtain ⟨o0, o1, o2⟩ := S1.out.2.1.cells
  obtain ⟨p0, p1, p2⟩ := S1.out.2.2.1.cells
  go_wp2_with fail
  refine (C2.out _).mono ?_
  rintro E w2 ⟨rfl, b2⟩
  have S2 := Lib.hid (S1.out.next b2)
  clear o0 o1 o2 p0 p1 p2
  obtain ⟨o0, o1, o2⟩ := S2.out.2.1.cells
  obtain ⟨g0, g1, g2⟩ := S2.out.2.2.1.thaw
  obtain ⟨p0, p1, p2⟩ := S2.out.2.2.1.cells
  go_wp2_with fail
  refine (C3.out _).mono ?_
  rintro E w3 ⟨rfl, b3⟩
  have S3 := Lib.hid ((S2.out.set x y z).next b3)
  clear o0 o1 o2 p0 p1 p2 g0 g1 g2
  obtain ⟨r0, r1, r2⟩ := S3.out.2.2.2.cells
  obtain ⟨f0, f1, f2⟩ := S3.out.2.2.2.thaw
  go_wp2
  exact bodyPost_ret (v := .tuple #[.agg #[.int .i64 a, .int .i64 b, .int .i64 c], .int .i64 k]) (by simp [results, Try.results11, go_sem, r0, r1, r2]) rfl ⟨rfl, S3.out.out _ _ _⟩
end Go.Proofs.YtbkdfbddcfglgaaRRR
