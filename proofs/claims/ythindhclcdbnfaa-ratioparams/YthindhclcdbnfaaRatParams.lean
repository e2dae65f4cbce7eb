/-
  The walk of RatioParams.
-/
import Derived.Test.YthindhclcdbnfaaRatTells
namespace Go.Proofs.Ythindhclcdbnfaa
open Go.RowKit
set_option linter.unusedVariables false

/-- metronomeref02.May, for every params. -/
theorem may_any (q d t : Int) (w : World) :
    Calls Try.prog 18 #[.agg #[.int .i64 q, .int .i64 d, .int .i64 t]] w fun e w' => e = .returned (.bool (checkE q d t == 0)) ∧ Below w.heap.size w w' := by
  have B := fun o => (Below.refl w.heap.size w).alloc (Nat.le_refl _) o
  by_cases h1 : q < 1
  · have e : checkE q d t = 1 := if_pos (by omega)
    rw [e]
    have h1' : decide (1 ≤ q) = false := by simp; omega
    clear e
    go_enter Try.func18, Try.ntmps18
    go_wp2
    go_ret
    exact ⟨rfl, B _⟩
  have h1' : decide (1 ≤ q) = true := by simp; omega
  by_cases h2 : d < q
  · have e : checkE q d t = 1 := if_pos (by omega)
    rw [e]
    have h2' : decide (q ≤ d) = false := by simp; omega
    clear e
    go_enter Try.func18, Try.ntmps18
    go_wp2
    go_ret
    exact ⟨rfl, B _⟩
  have h2' : decide (q ≤ d) = true := by simp; omega
  by_cases h3 : t < d
  · have e : checkE q d t = 1 := if_pos (by omega)
    rw [e]
    have h3' : decide (d ≤ t) = false := by simp; omega
    clear e
    go_enter Try.func18, Try.ntmps18
    go_wp2
    go_ret
    exact ⟨rfl, B _⟩
  have h3' : decide (d ≤ t) = true := by simp; omega
  by_cases h4 : 1073741824 < t
  · have e : checkE q d t = 1 := if_pos (by omega)
    rw [e]
    have h4' : decide (t ≤ 1073741824) = false := by simp; omega
    clear e
    go_enter Try.func18, Try.ntmps18
    go_wp2
    go_ret
    exact ⟨rfl, B _⟩
  · have e : checkE q d t = 0 := if_neg (by omega)
    rw [e]
    have h4' : decide (t ≤ 1073741824) = true := by simp; omega
    clear e
    go_enter Try.func18, Try.ntmps18
    go_wp2
    go_ret
    exact ⟨rfl, B _⟩

set_option maxRecDepth 20000 in
theorem rparams_bad (q d t : Int)
    (c1 : Hid (∀ W, Calls Try.prog 15 #[.agg #[.int .i64 q, .int .i64 d, .int .i64 t]] W fun E w' => E = .returned (.int .i64 1) ∧ Below W.heap.size W w'))
    (c2 : RatD 16 #[.agg #[.int .i64 q, .int .i64 d, .int .i64 t]] (0, 1)) (c3 : RatD 17 #[.agg #[.int .i64 q, .int .i64 d, .int .i64 t]] (0, 1))
    (c4 : Hid (∀ W, Calls Try.prog 18 #[.agg #[.int .i64 q, .int .i64 d, .int .i64 t]] W fun E w' => E = .returned (.bool false) ∧ Below W.heap.size W w')) (cA : AwC) (w : World) :
    Calls Try.prog 4 #[.agg #[.int .i64 q, .int .i64 d, .int .i64 t]] w fun E w' => E = .returned (.bool true) ∧ Below w.heap.size w w' := by
  go_enter Try.func4, Try.ntmps4
  go_wp2_with fail
  refine (c1.out _).mono ?_
  rintro E w1 ⟨rfl, b1⟩
  have H1 := Lib.hid ((Arr3.start w q d t 31).next b1)
  obtain ⟨_, _, p0, p1, p2⟩ := H1.out
  go_wp2_with fail
  refine (Hid.out c2 _).mono ?_
  rintro E w2 ⟨rfl, b2⟩
  have H2 := Lib.hid (H1.out.next b2)
  clear p0 p1 p2
  obtain ⟨_, _, p0, p1, p2⟩ := H2.out
  go_wp2_with fail
  refine (Hid.out c3 _).mono ?_
  rintro E w3 ⟨rfl, b3⟩
  have H3 := Lib.hid (H2.out.next b3)
  clear p0 p1 p2
  obtain ⟨_, _, p0, p1, p2⟩ := H3.out
  go_wp2_with fail
  refine (Hid.out c4 _).mono ?_
  rintro E w4 ⟨rfl, b4⟩
  have H4 := Lib.hid (H3.out.next b4)
  clear p0 p1 p2
  go_wp2_with fail
  refine (Hid.out cA _).mono ?_
  rintro E w5 ⟨rfl, b5⟩
  go_wp2
  go_ret
  exact ⟨rfl, H4.out.done b5⟩

set_option maxRecDepth 20000 in
theorem rparams_good (q d t a b : Int) (f1 : decide (1 ≤ a) = true) (f2 : decide (a ≤ b) = true) (f3 : decide (b ≤ 1048576) = true)
    (c1 : Hid (∀ W, Calls Try.prog 15 #[.agg #[.int .i64 q, .int .i64 d, .int .i64 t]] W fun E w' => E = .returned (.int .i64 0) ∧ Below W.heap.size W w'))
    (c2 : RatC 16 #[.agg #[.int .i64 q, .int .i64 d, .int .i64 t]] a) (c3 : RatC 17 #[.agg #[.int .i64 q, .int .i64 d, .int .i64 t]] b)
    (c4 : Hid (∀ W, Calls Try.prog 18 #[.agg #[.int .i64 q, .int .i64 d, .int .i64 t]] W fun E w' => E = .returned (.bool true) ∧ Below W.heap.size W w'))
    (d1 : YesC 13 #[.int .i64 a, .int .i64 0, .agg #[.int .i64 q, .int .i64 1048576, .int .i64 t], .bool true])
    (d2 : YesC 13 #[.int .i64 b, .int .i64 0, .agg #[.int .i64 q, .int .i64 1048576, .int .i64 d], .bool true]) (cA : AwC) (w : World) :
    Calls Try.prog 4 #[.agg #[.int .i64 q, .int .i64 d, .int .i64 t]] w fun E w' => E = .returned (.bool true) ∧ Below w.heap.size w w' := by
  go_enter Try.func4, Try.ntmps4
  go_wp2_with fail
  refine (c1.out _).mono ?_
  rintro E w1 ⟨rfl, b1⟩
  have H1 := Lib.hid ((Arr3.start w q d t 31).next b1)
  obtain ⟨_, _, p0, p1, p2⟩ := H1.out
  go_wp2_with fail
  refine (Hid.out c2 _).mono ?_
  rintro E w2 ⟨rfl, b2⟩
  have H2 := Lib.hid (H1.out.next b2)
  clear p0 p1 p2
  obtain ⟨_, _, p0, p1, p2⟩ := H2.out
  go_wp2_with fail
  refine (Hid.out c3 _).mono ?_
  rintro E w3 ⟨rfl, b3⟩
  have H3 := Lib.hid (H2.out.next b3)
  clear p0 p1 p2
  obtain ⟨_, _, p0, p1, p2⟩ := H3.out
  go_wp2_with fail
  refine (Hid.out c4 _).mono ?_
  rintro E w4 ⟨rfl, b4⟩
  have H4 := Lib.hid (H3.out.next b4)
  clear p0 p1 p2
  obtain ⟨_, _, p0, p1, p2⟩ := H4.out
  go_wp2_with fail
  refine (Hid.out d1 _).mono ?_
  rintro E w5 ⟨rfl, b5⟩
  have H5 := Lib.hid (H4.out.next b5)
  clear p0 p1 p2
  obtain ⟨_, _, p0, p1, p2⟩ := H5.out
  go_wp2_with fail
  refine (Hid.out d2 _).mono ?_
  rintro E w6 ⟨rfl, b6⟩
  have H6 := Lib.hid (H5.out.next b6)
  clear p0 p1 p2
  go_wp2_with fail
  refine (Hid.out cA _).mono ?_
  rintro E w7 ⟨rfl, b7⟩
  go_wp2
  go_ret
  exact ⟨rfl, H6.out.done b7⟩

theorem walk_RatioParams (q d t : Int) (w : World) (hq : -9223372036854775808 ≤ q ∧ q ≤ 9223372036854775807) (hd : -9223372036854775808 ≤ d ∧ d ≤ 9223372036854775807) (ht : -9223372036854775808 ≤ t ∧ t ≤ 9223372036854775807) :
    Calls Try.prog 4 #[.agg #[.int .i64 q, .int .i64 d, .int .i64 t]] w fun E w' => E = .returned (.bool true) ∧ Below w.heap.size w w' := by
  have c1 := fun W => check_any q d t W
  have c2 := fun W => use_any q d t hq ht W
  have c3 := fun W => dense_any q d t hq hd W
  have c4 := fun W => may_any q d t W
  by_cases h : q < 1 ∨ d < q ∨ t < d ∨ 1073741824 < t
  · have e : checkE q d t = 1 := if_pos h
    have e2 : ∀ x, useR x q d t = (0, 1) := fun x => if_neg (by rw [e]; decide)
    rw [e] at c1 c4
    rw [e2] at c2 c3
    exact rparams_bad q d t (Lib.hid c1) (Lib.hid c2) (Lib.hid c3) (Lib.hid c4) awC w
  · have e : checkE q d t = 0 := if_neg h
    have e2 : ∀ x, useR x q d t = divR q 1048576 x true := fun x => if_pos e
    rw [e] at c1 c4
    rw [e2] at c2 c3
    have t1 := fun W => told_any q 1048576 t true hq ⟨by decide, by decide⟩ ht W
    have t2 := fun W => told_any q 1048576 d true hq ⟨by decide, by decide⟩ hd W
    obtain ⟨q, rfl⟩ := Int.eq_ofNat_of_zero_le (by omega : 0 ≤ q)
    obtain ⟨d, rfl⟩ := Int.eq_ofNat_of_zero_le (by omega : 0 ≤ d)
    obtain ⟨t, rfl⟩ := Int.eq_ofNat_of_zero_le (by omega : 0 ≤ t)
    have q0 : 1 ≤ q := by omega
    have d0 : 0 < d := by omega
    have t0 : 0 < t := by omega
    have qd : q ≤ d := by omega
    have dt : d ≤ t := by omega
    have A := divQ_up (a := q) (b := 1048576) (c := t) t0
    have B := divQ_up (a := q) (b := 1048576) (c := d) d0
    obtain ⟨a, ea⟩ : ∃ a, divQ q 1048576 t true = a := ⟨_, rfl⟩
    obtain ⟨b, eb⟩ : ∃ b, divQ q 1048576 d true = b := ⟨_, rfl⟩
    rw [ea] at A
    rw [eb] at B
    have b1 : b ≤ 1048576 := by
      have : b * d < (1048576 + 1) * d := by rw [Nat.add_mul]; omega
      have := Nat.lt_of_mul_lt_mul_right this
      omega
    have a1 : a ≤ b := by
      have h1 : b * d ≤ b * t := Nat.mul_le_mul_left _ dt
      have : a * t < (b + 1) * t := by rw [Nat.add_mul]; omega
      have := Nat.lt_of_mul_lt_mul_right this
      omega
    have a0 : 1 ≤ a := by
      rcases Nat.eq_zero_or_pos a with z | z
      · rw [z, Nat.zero_mul] at A; omega
      · exact z
    have D1 := divR_ok (a := q) (b := 1048576) (c := t) (up := true) t0 (by omega)
    have D2 := divR_ok (a := q) (b := 1048576) (c := d) (up := true) d0 (by omega)
    rw [ea] at D1
    rw [eb] at D2
    rw [show ((1048576 : Nat) : Int) = 1048576 from rfl] at D1 D2
    rw [D1] at c2 t1
    rw [D2] at c3 t2
    exact rparams_good q d t a b (decide_eq_true (by omega)) (decide_eq_true (by omega)) (decide_eq_true (by omega)) (Lib.hid c1) (Lib.hid c2) (Lib.hid c3) (Lib.hid c4) (Lib.hid t1) (Lib.hid t2) awC w
end Go.Proofs.Ythindhclcdbnfaa
