/-
  num.Div in one contract; what its answers times the divisor are; a block of three numbers that stays while callees make blocks behind it.
-/
import Derived.Test.YtfjepkakimhbbaaDivW
namespace Go.Proofs.Ytfjepkakimhbbaa
open Go.RowKit

/-- The quotient, rounded. -/
def divQ (a b c : Nat) (up : Bool) : Nat := if up = true ∧ a * b / c * c ≠ a * b then a * b / c + 1 else a * b / c
/-- What num.Div answers. -/
def divR (a b c : Int) (up : Bool) : Int × Int :=
  if a < 0 ∨ b < 0 ∨ c < 0 then (0, 10) else if c = 0 then (0, 12)
  else if divQ a.toNat b.toNat c.toNat up ≤ 9223372036854775807 then ((divQ a.toNat b.toNat c.toNat up : Int), 0) else (0, 11)

theorem divR_of (a b c : Nat) (up : Bool) (hc : 0 < c) : divR a b c up = if divQ a b c up ≤ 9223372036854775807 then ((divQ a b c up : Int), 0) else (0, 11) := by
  unfold divR
  rw [if_neg (by omega), if_neg (by omega), Int.toNat_natCast, Int.toNat_natCast, Int.toNat_natCast]
theorem divQ_down (a b c : Nat) : divQ a b c false = a * b / c := if_neg (by simp)
theorem divQ_exact (a b c : Nat) (h : a * b / c * c = a * b) : divQ a b c true = a * b / c := if_neg (by simp [h])
theorem divQ_more (a b c : Nat) (h : a * b / c * c ≠ a * b) : divQ a b c true = a * b / c + 1 := if_pos ⟨rfl, h⟩
theorem divQ_le (a b c : Nat) (up : Bool) : a * b / c ≤ divQ a b c up := by
  unfold divQ; split <;> omega

theorem big_quo (p c : Nat) (hc : 0 < c) (h : c ≤ p / 18446744073709551616) : 18446744073709551616 ≤ p / c := by
  rw [Nat.le_div_iff_mul_le hc]
  have : c * 18446744073709551616 ≤ p / 18446744073709551616 * 18446744073709551616 := Nat.mul_le_mul_right _ h
  have := Nat.div_mul_le_self p 18446744073709551616
  omega

theorem sumR_two (d : Nat) (hd : d ≤ 9223372036854775807) : sumR 0 [(d : Int), 1] = if d + 1 ≤ 9223372036854775807 then (((d + 1 : Nat) : Int), 0) else (0, 11) := by
  show (if -9223372036854775808 ≤ (0 : Int) + d ∧ (0 : Int) + d ≤ 9223372036854775807 then (if -9223372036854775808 ≤ (0 : Int) + d + 1 ∧ (0 : Int) + d + 1 ≤ 9223372036854775807 then ((0 : Int) + d + 1, (0 : Int)) else (0, 11)) else (0, 11)) = _
  rw [if_pos (by omega)]
  by_cases h : d + 1 ≤ 9223372036854775807
  · rw [if_pos (by omega), if_pos h]
    congr 1
    omega
  · rw [if_neg (by omega), if_neg h]

/-- num.Div, for every three ints. -/
theorem div_any (a b c : Int) (up : Bool) (ha : Is64 a) (hb : Is64 b) (hc : Is64 c) (w : World) :
    Calls Try.prog 44 #[.int .i64 a, .int .i64 b, .int .i64 c, .bool up] w fun e w' => e = .returned (.tuple #[.int .i64 (divR a b c up).1, .int .i64 (divR a b c up).2]) ∧ Below w.heap.size w w' := by
  obtain ⟨ha0, ha1⟩ := ha
  obtain ⟨hb0, hb1⟩ := hb
  obtain ⟨hc0, hc1⟩ := hc
  by_cases hab : a < 0 ∨ b < 0
  · have e : divR a b c up = (0, 10) := if_pos (by omega)
    rw [e]
    exact div_neg1 a b c up hab w
  obtain ⟨a, rfl⟩ := Int.eq_ofNat_of_zero_le (by omega : 0 ≤ a)
  obtain ⟨b, rfl⟩ := Int.eq_ofNat_of_zero_le (by omega : 0 ≤ b)
  by_cases hcn : c < 0
  · have e : divR a b c up = (0, 10) := if_pos (by omega)
    rw [e]
    exact div_neg2 a b c up (by omega) (by omega) hcn w
  obtain ⟨c, rfl⟩ := Int.eq_ofNat_of_zero_le (by omega : 0 ≤ c)
  by_cases hcz : c = 0
  · subst hcz
    have e : divR a b ((0 : Nat) : Int) up = (0, 12) := by
      unfold divR
      rw [if_neg (by omega), if_pos (by omega)]
    rw [e]
    exact div_zero a b up (by omega) (by omega) w
  have hcp : 0 < c := by omega
  have hle := divQ_le a b c up
  rw [divR_of a b c up hcp]
  by_cases h : c ≤ a * b / 18446744073709551616
  · have hbq := big_quo (a * b) c hcp h
    rw [if_neg (by omega)]
    exact div_over1 a b c up (by omega) (by omega) (by omega) hcp (by unfold hiW; omega) w
  by_cases ho : 9223372036854775807 < a * b / c
  · rw [if_neg (by omega)]
    exact div_over2 a b c up (by omega) (by omega) (by omega) hcp (by omega) ho w
  cases up with
  | false =>
    rw [divQ_down, if_pos (by omega)]
    exact div_down a b c (by omega) (by omega) (by omega) hcp (by omega) (by omega) w
  | true =>
    by_cases he : a * b / c * c = a * b
    · rw [divQ_exact a b c he, if_pos (by omega)]
      exact div_exact a b c (by omega) (by omega) (by omega) hcp (by omega) (by omega) he w
    · rw [divQ_more a b c he, ← sumR_two (a * b / c) (by omega)]
      exact div_more a b c (by omega) (by omega) (by omega) hcp (by omega) (by omega) he w

theorem pow12 : (65536 : Nat) ^ 12 = 6277101735386680763835789423207666416102355444464034512896 := by decide
theorem prod_small {a b c : Nat} (ha : a ≤ 9223372036854775807) (hb : b ≤ 9223372036854775807) (hc : c ≤ 9223372036854775807) : a * b + c < 65536 ^ 12 := by
  have : a * b ≤ 9223372036854775807 * 9223372036854775807 := Nat.mul_le_mul ha hb
  rw [pow12]
  omega

theorem divQ_down_le {P c : Nat} (hc : 0 < c) : P / c * c ≤ P ∧ P < P / c * c + c := by
  have h1 := Nat.div_mul_le_self P c
  have h2 := Nat.lt_div_mul_add (a := P) hc
  exact ⟨h1, h2⟩
/-- The quotient, rounded up, times the divisor. -/
theorem divQ_up {a b c : Nat} (hc : 0 < c) : a * b ≤ divQ a b c true * c ∧ divQ a b c true * c < a * b + c := by
  obtain ⟨h1, h2⟩ := divQ_down_le (P := a * b) hc
  by_cases h : a * b / c * c = a * b
  · rw [divQ_exact a b c h, h]
    omega
  · rw [divQ_more a b c h, Nat.add_mul, Nat.one_mul]
    omega

/-- What the law's own array holds, while callees make blocks behind it. -/
def Arr3 (w W : World) (a b c : Int) : Prop :=
  w.heap.size < W.heap.size ∧ Below w.heap.size w W ∧ W.cell? ⟨w.heap.size, 0, none⟩ = some (.int .i64 a) ∧ W.cell? ⟨w.heap.size, 1, none⟩ = some (.int .i64 b) ∧ W.cell? ⟨w.heap.size, 2, none⟩ = some (.int .i64 c)
theorem Arr3.next {w W W' : World} {a b c : Int} (h : Arr3 w W a b c) (hb : Below W.heap.size W W') : Arr3 w W' a b c := by
  obtain ⟨hz, hB, p0, p1, p2⟩ := h
  have hk : ∀ o, W'.cell? ⟨w.heap.size, o, none⟩ = W.cell? ⟨w.heap.size, o, none⟩ := fun o => hb.cell (p := ⟨w.heap.size, o, none⟩) hz
  exact ⟨Nat.lt_of_lt_of_le hz hb.size, hB.trans (hb.mono hB.size), (hk 0).trans p0, (hk 1).trans p1, (hk 2).trans p2⟩
theorem Arr3.start (w : World) (a b c : Int) (t : TypeId) : Arr3 w (w.alloc (.cells #[.int .i64 a, .int .i64 b, .int .i64 c] t)) a b c :=
  ⟨by simp, (Below.refl _ _).alloc (Nat.le_refl _) _, by simp [go_sem], by simp [go_sem], by simp [go_sem]⟩
theorem Arr3.done {w W W' : World} {a b c : Int} (h : Arr3 w W a b c) (hb : Below W.heap.size W W') : Below w.heap.size w W' := (h.next hb).2.1
theorem below_draws {w W : World} (n : Nat) (hb : Below (w.drewN n).heap.size (w.drewN n) W) : Below w.heap.size w W := ⟨hb.os, hb.tape, hb.output, hb.size, hb.block⟩
theorem below_draw2 (w : World) (n : Nat) : Below w.heap.size w (w.drewN n) := ⟨rfl, rfl, rfl, Nat.le_refl _, fun _ _ => rfl⟩
end Go.Proofs.Ytfjepkakimhbbaa
