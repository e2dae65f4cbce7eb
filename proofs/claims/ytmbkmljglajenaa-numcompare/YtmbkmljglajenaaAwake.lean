/-
  num.Div in one contract, and the laws' own awake: the chapter's examples answer as the chapter says.
-/
import Derived.Test.YtmbkmljglajenaaDivW
import Derived.Test.YtmbkmljglajenaaTime
namespace Go.Proofs.Ytmbkmljglajenaa
open Go.RowKit

/-- The quotient, rounded. -/
def divQ (a b c : Nat) (up : Bool) : Nat := if up = true ∧ a * b / c * c ≠ a * b then a * b / c + 1 else a * b / c
/-- What num.Div answers. -/
def divR (a b c : Int) (up : Bool) : Int × Int :=
  if a < 0 ∨ b < 0 ∨ c < 0 then (0, 10) else if c = 0 then (0, 12)
  else if divQ a.toNat b.toNat c.toNat up ≤ 9223372036854775807 then ((divQ a.toNat b.toNat c.toNat up : Int), 0) else (0, 11)

theorem divR_of (a b c : Nat) (up : Bool) (hc : 0 < c) : divR a b c up = if divQ a b c up ≤ 9223372036854775807 then ((divQ a b c up : Int), 0) else (0, 11) := by
  unfold divR
  rw [if_neg (by omega), if_neg (by omega), Int.toNat_natCast, Int.toNat_natCast, Int.toNat_natCast]
theorem divQ_down (a b c : Nat) : divQ a b c false = a * b / c := if_neg (by simp)
theorem divQ_exact (a b c : Nat) (h : a * b / c * c = a * b) : divQ a b c true = a * b / c := if_neg (by simp [h])
theorem divQ_more (a b c : Nat) (h : a * b / c * c ≠ a * b) : divQ a b c true = a * b / c + 1 := if_pos ⟨rfl, h⟩
theorem divQ_le (a b c : Nat) (up : Bool) : a * b / c ≤ divQ a b c up := by
  unfold divQ; split <;> omega

theorem big_quo (p c : Nat) (hc : 0 < c) (h : c ≤ p / 18446744073709551616) : 18446744073709551616 ≤ p / c := by
  rw [Nat.le_div_iff_mul_le hc]
  have : c * 18446744073709551616 ≤ p / 18446744073709551616 * 18446744073709551616 := Nat.mul_le_mul_right _ h
  have := Nat.div_mul_le_self p 18446744073709551616
  omega

theorem sumR_two (d : Nat) (hd : d ≤ 9223372036854775807) : sumR 0 [(d : Int), 1] = if d + 1 ≤ 9223372036854775807 then (((d + 1 : Nat) : Int), 0) else (0, 11) := by
  show (if -9223372036854775808 ≤ (0 : Int) + d ∧ (0 : Int) + d ≤ 9223372036854775807 then (if -9223372036854775808 ≤ (0 : Int) + d + 1 ∧ (0 : Int) + d + 1 ≤ 9223372036854775807 then ((0 : Int) + d + 1, (0 : Int)) else (0, 11)) else (0, 11)) = _
  rw [if_pos (by omega)]
  by_cases h : d + 1 ≤ 9223372036854775807
  · rw [if_pos (by omega), if_pos h]
    congr 1
    omega
  · rw [if_neg (by omega), if_neg h]

/-- num.Div, for every three ints. -/
theorem div_any (a b c : Int) (up : Bool) (ha : Is64 a) (hb : Is64 b) (hc : Is64 c) (w : World) :
    Calls Try.prog 28 #[.int .i64 a, .int .i64 b, .int .i64 c, .bool up] w fun e w' => e = .returned (.tuple #[.int .i64 (divR a b c up).1, .int .i64 (divR a b c up).2]) ∧ Below w.heap.size w w' := by
  obtain ⟨ha0, ha1⟩ := ha
  obtain ⟨hb0, hb1⟩ := hb
  obtain ⟨hc0, hc1⟩ := hc
  by_cases hab : a < 0 ∨ b < 0
  · have e : divR a b c up = (0, 10) := if_pos (by omega)
    rw [e]
    exact div_neg1 a b c up hab w
  obtain ⟨a, rfl⟩ := Int.eq_ofNat_of_zero_le (by omega : 0 ≤ a)
  obtain ⟨b, rfl⟩ := Int.eq_ofNat_of_zero_le (by omega : 0 ≤ b)
  by_cases hcn : c < 0
  · have e : divR a b c up = (0, 10) := if_pos (by omega)
    rw [e]
    exact div_neg2 a b c up (by omega) (by omega) hcn w
  obtain ⟨c, rfl⟩ := Int.eq_ofNat_of_zero_le (by omega : 0 ≤ c)
  by_cases hcz : c = 0
  · subst hcz
    have e : divR a b ((0 : Nat) : Int) up = (0, 12) := by
      unfold divR
      rw [if_neg (by omega), if_pos (by omega)]
    rw [e]
    exact div_zero a b up (by omega) (by omega) w
  have hcp : 0 < c := by omega
  have hle := divQ_le a b c up
  rw [divR_of a b c up hcp]
  by_cases h : c ≤ a * b / 18446744073709551616
  · have hbq := big_quo (a * b) c hcp h
    rw [if_neg (by omega)]
    exact div_over1 a b c up (by omega) (by omega) (by omega) hcp (by unfold hiW; omega) w
  by_cases ho : 9223372036854775807 < a * b / c
  · rw [if_neg (by omega)]
    exact div_over2 a b c up (by omega) (by omega) (by omega) hcp (by omega) ho w
  cases up with
  | false =>
    rw [divQ_down, if_pos (by omega)]
    exact div_down a b c (by omega) (by omega) (by omega) hcp (by omega) (by omega) w
  | true =>
    by_cases he : a * b / c * c = a * b
    · rw [divQ_exact a b c he, if_pos (by omega)]
      exact div_exact a b c (by omega) (by omega) (by omega) hcp (by omega) (by omega) he w
    · rw [divQ_more a b c he, ← sumR_two (a * b / c) (by omega)]
      exact div_more a b c (by omega) (by omega) (by omega) hcp (by omega) (by omega) he w

theorem awake_mul : mulR 1099511627776 1073741824 = (0, 11) := by decide
theorem awake_less : decide (1099511627776 * 1099511627776 < 2199023255552 * 549755813888) = false := by decide
theorem awake_div : divR 7 3 2 true = (11, 0) := by decide

/-- The laws' awake answers true. -/
theorem awake_any (w : World) : Calls Try.prog 11 #[] w fun e w' => e = .returned (.bool true) ∧ Below w.heap.size w w' := by
  have c1 := fun W => mul_any 1099511627776 1073741824 (by decide) (by decide) (by decide) (by decide) W
  rw [awake_mul] at c1
  have c2 := fun W => less_ok 1099511627776 1099511627776 2199023255552 549755813888 (by decide) (by decide) (by decide) (by decide) W
  rw [awake_less] at c2
  have c3 := fun W => div_any 7 3 2 true ⟨by decide, by decide⟩ ⟨by decide, by decide⟩ ⟨by decide, by decide⟩ W
  rw [awake_div] at c3
  have C1 := Lib.hid c1
  have C2 := Lib.hid c2
  have C3 := Lib.hid c3
  clear c1 c2 c3
  go_enter Try.func11, Try.ntmps11
  go_wp2_with fail
  refine (C1.out _).mono ?_
  rintro e w1 ⟨rfl, hb1⟩
  go_wp2_with fail
  refine (C2.out _).mono ?_
  rintro e w2 ⟨rfl, hb2⟩
  go_wp2_with fail
  refine (C3.out _).mono ?_
  rintro e w3 ⟨rfl, hb3⟩
  go_wp2
  go_ret
  exact ⟨rfl, hb1.trans ((hb2.trans (hb3.mono hb2.size)).mono hb1.size)⟩
end Go.Proofs.Ytmbkmljglajenaa
