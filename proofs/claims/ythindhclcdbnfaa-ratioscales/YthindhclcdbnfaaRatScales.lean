/-
  The walk of RatioScales.
-/
import Derived.Test.YthindhclcdbnfaaRatC
import Derived.Test.YthindhclcdbnfaaRatS
import Derived.Test.YthindhclcdbnfaaSumK
namespace Go.Proofs.Ythindhclcdbnfaa
open Go.RowKit
set_option linter.unusedVariables false

set_option maxRecDepth 20000 in
theorem rscales_out (p q t k : Int) (h : p < 0 ∨ 1073741824 < p ∨ q < 0 ∨ 1073741824 < q ∨ t < 1 ∨ 1073741824 < t ∨ k < 1 ∨ 1000 < k) (cA : AwC) (w : World) :
    Calls Try.prog 8 #[.agg #[.int .i64 p, .int .i64 q], .int .i64 t, .int .i64 k] w fun E w' => E = .returned (.bool true) ∧ Below w.heap.size w w' := by
  by_cases h0 : p < 0
  · have h0' : decide (p < 0) = true := by simpa using h0
    clear h
    go_enter Try.func8, Try.ntmps8
    go_wp2_with (go_at_call 14; refine (Hid.out cA _).mono ?_; rintro E w1 ⟨rfl, b1⟩)
    go_ret
    exact ⟨rfl, below_alloc b1⟩
  have h0' : decide (p < 0) = false := by simpa using h0
  by_cases h1 : 1073741824 < p
  · have h1' : decide (1073741824 < p) = true := by simpa using h1
    clear h
    go_enter Try.func8, Try.ntmps8
    go_wp2_with (go_at_call 14; refine (Hid.out cA _).mono ?_; rintro E w1 ⟨rfl, b1⟩)
    go_ret
    exact ⟨rfl, below_alloc b1⟩
  have h1' : decide (1073741824 < p) = false := by simpa using h1
  by_cases h2 : q < 0
  · have h2' : decide (q < 0) = true := by simpa using h2
    clear h
    go_enter Try.func8, Try.ntmps8
    go_wp2_with (go_at_call 14; refine (Hid.out cA _).mono ?_; rintro E w1 ⟨rfl, b1⟩)
    go_ret
    exact ⟨rfl, below_alloc b1⟩
  have h2' : decide (q < 0) = false := by simpa using h2
  by_cases h3 : 1073741824 < q
  · have h3' : decide (1073741824 < q) = true := by simpa using h3
    clear h
    go_enter Try.func8, Try.ntmps8
    go_wp2_with (go_at_call 14; refine (Hid.out cA _).mono ?_; rintro E w1 ⟨rfl, b1⟩)
    go_ret
    exact ⟨rfl, below_alloc b1⟩
  have h3' : decide (1073741824 < q) = false := by simpa using h3
  by_cases h4 : t < 1
  · have h4' : decide (t < 1) = true := by simpa using h4
    clear h
    go_enter Try.func8, Try.ntmps8
    go_wp2_with (go_at_call 14; refine (Hid.out cA _).mono ?_; rintro E w1 ⟨rfl, b1⟩)
    go_ret
    exact ⟨rfl, below_alloc b1⟩
  have h4' : decide (t < 1) = false := by simpa using h4
  by_cases h5 : 1073741824 < t
  · have h5' : decide (1073741824 < t) = true := by simpa using h5
    clear h
    go_enter Try.func8, Try.ntmps8
    go_wp2_with (go_at_call 14; refine (Hid.out cA _).mono ?_; rintro E w1 ⟨rfl, b1⟩)
    go_ret
    exact ⟨rfl, below_alloc b1⟩
  have h5' : decide (1073741824 < t) = false := by simpa using h5
  by_cases h6 : k < 1
  · have h6' : decide (k < 1) = true := by simpa using h6
    clear h
    go_enter Try.func8, Try.ntmps8
    go_wp2_with (go_at_call 14; refine (Hid.out cA _).mono ?_; rintro E w1 ⟨rfl, b1⟩)
    go_ret
    exact ⟨rfl, below_alloc b1⟩
  have h6' : decide (k < 1) = false := by simpa using h6
  have h7' : decide (1000 < k) = true := by simp; omega
  clear h h0 h1 h2 h3 h4 h5 h6
  go_enter Try.func8, Try.ntmps8
  go_wp2_with (go_at_call 14; refine (Hid.out cA _).mono ?_; rintro E w1 ⟨rfl, b1⟩)
  go_ret
  exact ⟨rfl, below_alloc b1⟩

set_option maxRecDepth 20000 in
set_option maxHeartbeats 1000000 in
theorem rscales_core (p q t k kp kt a c x y s : Int) (p0 : 0 ≤ p) (p1 : p ≤ 1073741824) (q0 : 0 ≤ q) (q1 : q ≤ 1073741824) (t0 : 1 ≤ t) (t1 : t ≤ 1073741824) (k0 : 1 ≤ k) (k1 : k ≤ 1000)
    (e1 : wrap64 (k * p) = kp) (e2 : wrap64 (k * t) = kt) (y0 : 0 ≤ y) (y1 : y ≤ 1152921504606846976)
    (f1 : decide (y ≤ s) = true) (f2 : decide (s ≤ y + 1) = true)
    (c1 : RatC 10 #[.int .i64 p, .int .i64 t] a) (c2 : RatC 10 #[.int .i64 kp, .int .i64 kt] a) (c3 : RatC 11 #[.int .i64 kp, .int .i64 kt] c) (c4 : RatC 11 #[.int .i64 p, .int .i64 t] c)
    (c5 : RatC 10 #[.int .i64 q, .int .i64 t] x) (c6 : RatC 10 #[.int .i64 (p + q), .int .i64 t] y)
    (c7 : Hid (∀ G cap W, TwoAt W G a x → Calls Try.prog 19 #[.slice (some ⟨G, 0, none⟩) 2 cap] W fun E w' => E = .returned (.tuple #[.int .i64 s, .int .i64 0]) ∧ W = w')) (cA : AwC) (w : World) :
    Calls Try.prog 8 #[.agg #[.int .i64 p, .int .i64 q], .int .i64 t, .int .i64 k] w fun E w' => E = .returned (.bool true) ∧ Below w.heap.size w w' := by
  have g0 : decide (p < 0) = false := by simp; omega
  have g1 : decide (1073741824 < p) = false := by simp; omega
  have g2 : decide (q < 0) = false := by simp; omega
  have g3 : decide (1073741824 < q) = false := by simp; omega
  have g4 : decide (t < 1) = false := by simp; omega
  have g5 : decide (1073741824 < t) = false := by simp; omega
  have g6 : decide (k < 1) = false := by simp; omega
  have g7 : decide (1000 < k) = false := by simp; omega
  go_enter Try.func8, Try.ntmps8
  go_wp2_with fail
  refine (Hid.out c1 _).mono ?_
  rintro E w1 ⟨rfl, d1⟩
  have H1 := Lib.hid ((Arr2.start w p q 42).next d1)
  obtain ⟨_, _, r0, r1⟩ := H1.out
  go_wp2_with fail
  refine (Hid.out c2 _).mono ?_
  rintro E w2 ⟨rfl, d2⟩
  have H2 := Lib.hid (H1.out.next d2)
  clear r0 r1
  obtain ⟨_, _, r0, r1⟩ := H2.out
  go_wp2_with fail
  refine (Hid.out c3 _).mono ?_
  rintro E w3 ⟨rfl, d3⟩
  have H3 := Lib.hid (H2.out.next d3)
  clear r0 r1
  obtain ⟨_, _, r0, r1⟩ := H3.out
  go_wp2_with fail
  refine (Hid.out c4 _).mono ?_
  rintro E w4 ⟨rfl, d4⟩
  have H4 := Lib.hid (H3.out.next d4)
  clear r0 r1
  obtain ⟨_, _, r0, r1⟩ := H4.out
  go_wp2_with fail
  refine (Hid.out c5 _).mono ?_
  rintro E w5 ⟨rfl, d5⟩
  have H5 := Lib.hid (H4.out.next d5)
  clear r0 r1
  obtain ⟨_, _, r0, r1⟩ := H5.out
  go_wp2_with fail
  refine (Hid.out c6 _).mono ?_
  rintro E w6 ⟨rfl, d6⟩
  have H6 := Lib.hid (H5.out.next d6)
  clear r0 r1
  obtain ⟨_, _, r0, r1⟩ := H6.out
  clear r0 r1
  go_wp2_with fail
  refine (c7.out _ _ _ ?h7).mono ?_
  case h7 => exact ⟨by simp, by simp [go_sem], by simp [go_sem]⟩
  rintro E w' ⟨rfl, rfl⟩
  go_wp2_with fail
  refine (Hid.out cA _).mono ?_
  rintro E w8 ⟨rfl, d8⟩
  go_wp2
  go_ret
  exact ⟨rfl, H6.out.done (below_alloc d8)⟩

theorem divQ_scale (a b c k : Nat) (up : Bool) (hk : 0 < k) : divQ (k * a) b (k * c) up = divQ a b c up := by
  have e : k * a * b / (k * c) = a * b / c := by rw [Nat.mul_assoc, Nat.mul_div_mul_left _ _ hk]
  have e2 : a * b / c * (k * c) = k * (a * b / c * c) := by rw [Nat.mul_comm k c, ← Nat.mul_assoc, Nat.mul_comm k]
  unfold divQ
  rw [e, e2, Nat.mul_assoc]
  by_cases h : a * b / c * c = a * b
  · rw [if_neg (by simp [h]), if_neg (by simp [h])]
  · have h' : ¬ k * (a * b / c * c) = k * (a * b) := fun x => h (Nat.eq_of_mul_eq_mul_left hk x)
    cases up with
    | true => rw [if_pos ⟨rfl, h'⟩, if_pos ⟨rfl, h⟩]
    | false => rw [if_neg (by simp), if_neg (by simp)]

theorem sum2C (a x : Nat) (h : a + x ≤ 9223372036854775807) : Hid (∀ G cap W, TwoAt W G (a : Int) (x : Int) → Calls Try.prog 19 #[.slice (some ⟨G, 0, none⟩) 2 cap] W fun E w' => E = .returned (.tuple #[.int .i64 ((a + x : Nat) : Int), .int .i64 0]) ∧ W = w') := by
  intro G cap W hW
  have c := rsum_any (some ⟨G, 0, none⟩) [(a : Int), (x : Int)] cap W (.inr ⟨G, 0, rfl, hW.1, by
    intro i hi
    match i, hi with
    | 0, _ => exact hW.2.1
    | 1, _ => exact hW.2.2⟩) (by
    intro z hz
    simp at hz
    rcases hz with h | h
    · rw [h]; exact ⟨by omega, by omega⟩
    · rw [h]; exact ⟨by omega, by omega⟩) (by simp)
  have e : rsumR [(a : Int), (x : Int)] = (((a + x : Nat) : Int), 0) := by
    unfold rsumR
    rw [if_neg (by simp), sumR_pair, if_pos (by omega), if_pos (by omega)]
    congr 1
    omega
  rw [e] at c
  exact c

theorem walk_RatioScales (p q t k : Int) (w : World) (hp : -9223372036854775808 ≤ p ∧ p ≤ 9223372036854775807) (hq : -9223372036854775808 ≤ q ∧ q ≤ 9223372036854775807) (ht : -9223372036854775808 ≤ t ∧ t ≤ 9223372036854775807) (hk : -9223372036854775808 ≤ k ∧ k ≤ 9223372036854775807) :
    Calls Try.prog 8 #[.agg #[.int .i64 p, .int .i64 q], .int .i64 t, .int .i64 k] w fun E w' => E = .returned (.bool true) ∧ Below w.heap.size w w' := by
  by_cases h : p < 0 ∨ 1073741824 < p ∨ q < 0 ∨ 1073741824 < q ∨ t < 1 ∨ 1073741824 < t ∨ k < 1 ∨ 1000 < k
  · exact rscales_out p q t k h awC w
  obtain ⟨p, rfl⟩ := Int.eq_ofNat_of_zero_le (by omega : 0 ≤ p)
  obtain ⟨q, rfl⟩ := Int.eq_ofNat_of_zero_le (by omega : 0 ≤ q)
  obtain ⟨t, rfl⟩ := Int.eq_ofNat_of_zero_le (by omega : 0 ≤ t)
  obtain ⟨k, rfl⟩ := Int.eq_ofNat_of_zero_le (by omega : 0 ≤ k)
  have t0 : 0 < t := by omega
  have k0 : 0 < k := by omega
  obtain ⟨a, ea⟩ : ∃ a, divQ p 1048576 t true = a := ⟨_, rfl⟩
  obtain ⟨c, ec⟩ : ∃ c, divQ p 1048576 t false = c := ⟨_, rfl⟩
  obtain ⟨x, ex⟩ : ∃ x, divQ q 1048576 t true = x := ⟨_, rfl⟩
  obtain ⟨y, ey⟩ : ∃ y, divQ (p + q) 1048576 t true = y := ⟨_, rfl⟩
  have eb := divQ_scale p 1048576 t k true k0
  have ed := divQ_scale p 1048576 t k false k0
  rw [ea] at eb
  rw [ec] at ed
  have A := divQ_up (a := p) (b := 1048576) (c := t) t0
  have C := divQ_down_le (P := p * 1048576) (c := t) t0
  have X := divQ_up (a := q) (b := 1048576) (c := t) t0
  have Y := divQ_up (a := p + q) (b := 1048576) (c := t) t0
  rw [← divQ_down] at C
  rw [ea] at A
  rw [ec] at C
  rw [ex] at X
  rw [ey] at Y
  have a1 : a ≤ a * t := Nat.le_mul_of_pos_right _ t0
  have c1 : c ≤ c * t := Nat.le_mul_of_pos_right _ t0
  have x1 : x ≤ x * t := Nat.le_mul_of_pos_right _ t0
  have y1 : y ≤ y * t := Nat.le_mul_of_pos_right _ t0
  have kp1 : k * p ≤ 1000 * 1073741824 := Nat.mul_le_mul (by omega) (by omega)
  have kt1 : k * t ≤ 1000 * 1073741824 := Nat.mul_le_mul (by omega) (by omega)
  have kt0 : 0 < k * t := Nat.mul_pos k0 t0
  have s1 : y ≤ a + x := by
    have : y * t < (a + x + 1) * t := by
      rw [Nat.add_mul, Nat.add_mul, Nat.one_mul]
      omega
    have := Nat.lt_of_mul_lt_mul_right this
    omega
  have s2 : a + x ≤ y + 1 := by
    have : (a + x) * t < (y + 2) * t := by
      rw [Nat.add_mul, Nat.add_mul]
      omega
    have := Nat.lt_of_mul_lt_mul_right this
    omega
  have e3 : (p : Int) + (q : Int) = ((p + q : Nat) : Int) := by omega
  exact rscales_core p q t k ((k * p : Nat) : Int) ((k * t : Nat) : Int) a c x y ((a + x : Nat) : Int) (by omega) (by omega) (by omega) (by omega) (by omega) (by omega) (by omega) (by omega)
    (wrap64_mulN k p (by omega)) (wrap64_mulN k t (by omega)) (by omega) (by omega) (decide_eq_true (by omega)) (decide_eq_true (by omega))
    (upC p t a (by omega) (by omega) t0 ea (by omega)) (upC (k * p) (k * t) a (by omega) (by omega) kt0 eb (by omega)) (downC (k * p) (k * t) c (by omega) (by omega) kt0 ed (by omega)) (downC p t c (by omega) (by omega) t0 ec (by omega))
    (upC q t x (by omega) (by omega) t0 ex (by omega)) (by rw [e3]; exact upC (p + q) t y (by omega) (by omega) t0 ey (by omega)) (sum2C a x (by omega)) awC w
end Go.Proofs.Ythindhclcdbnfaa
