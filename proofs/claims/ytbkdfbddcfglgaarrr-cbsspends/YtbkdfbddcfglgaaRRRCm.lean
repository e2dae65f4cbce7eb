/-
  What the numbers of a server are: plain arithmetic.
-/
namespace Go.Proofs.YtbkdfbddcfglgaaRRR

/-- k = (what was spent too much) / q + 1 periods pay it: what is left then is from 1 to q. -/
theorem pay_left (L q : Nat) (hq : 0 < q) : L < (L / q + 1) * q ∧ (L / q + 1) * q ≤ L + q := by
  have h1 := Nat.div_mul_le_self L q
  have h2 := Nat.lt_div_mul_add (a := L) hq
  rw [Nat.add_mul, Nat.one_mul]
  omega
theorem pay_small (L q t : Nat) (hL : L ≤ 1073741824) (ht : t ≤ 1073741824) : (L / q + 1) * t ≤ 1152921505680588800 := by
  have h1 : L / q ≤ L := Nat.div_le_self L q
  have h2 : (L / q + 1) * t ≤ 1073741825 * 1073741824 := Nat.mul_le_mul (by omega) ht
  omega
theorem pay_smallQ (L q : Nat) (hL : L ≤ 1073741824) (hq0 : 0 < q) (hq : q ≤ 1073741824) : (L / q + 1) * q ≤ 2147483648 := by
  have := (pay_left L q hq0).2
  omega
/-- Who has less left is paid no earlier. -/
theorem pay_more (L M q t : Nat) (h : L ≤ M) : (L / q + 1) * t ≤ (M / q + 1) * t := Nat.mul_le_mul_right _ (Nat.succ_le_succ (Nat.div_le_div_right h))

/-- How far ahead of the deadline a claim goes. -/
theorem lag_way (l t q : Nat) (hq : 0 < q) : l * t / q * q ≤ l * t ∧ l * t < l * t / q * q + q := ⟨Nat.div_mul_le_self _ _, Nat.lt_div_mul_add hq⟩
theorem lag_small (l t q : Nat) (hl : l ≤ 1073741824) (ht : t ≤ 1073741824) : l * t ≤ 1152921504606846976 ∧ l * t / q ≤ 1152921504606846976 := by
  have h1 : l * t ≤ 1073741824 * 1073741824 := Nat.mul_le_mul hl ht
  have h2 : l * t / q ≤ l * t := Nat.div_le_self _ _
  omega
theorem lag_less (l m t q : Nat) (h : m ≤ l) : m * t / q ≤ l * t / q := Nat.div_le_div_right (Nat.mul_le_mul_right _ h)
end Go.Proofs.YtbkdfbddcfglgaaRRR
