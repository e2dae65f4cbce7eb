/-
  Plain arithmetic under math/bits.Div64: a digit of a quotient is guessed by the highest digits, and lowered till it fits.
-/
namespace Go.Proofs.Ytfjepkakimhbbaa.DM

theorem start (u d y y1 y0 : Nat) (hy : y = y1 * 4294967296 + y0) (h0 : y0 < 4294967296) (h1 : 2147483648 ≤ y1) (hu : u < y) (hd : d < 4294967296) :
    u / y1 * y1 + u % y1 = u ∧ u % y1 < y1 ∧ u / y1 ≤ 4294967297 ∧ u * 4294967296 + d < (u / y1 + 1) * y := by
  have e := Nat.div_add_mod' u y1
  have l : u % y1 < y1 := Nat.mod_lt _ (by omega)
  refine ⟨e, l, ?_, ?_⟩
  · have hq : u / y1 * y1 ≤ u := by omega
    have : u / y1 * y1 < 4294967298 * y1 := by omega
    have := Nat.lt_of_mul_lt_mul_right this
    omega
  · have a : u + 1 ≤ (u / y1 + 1) * y1 := by rw [Nat.add_mul, Nat.one_mul]; omega
    have b : (u + 1) * 4294967296 ≤ (u / y1 + 1) * y1 * 4294967296 := Nat.mul_le_mul_right _ a
    have c : (u / y1 + 1) * y1 * 4294967296 ≤ (u / y1 + 1) * y := by
      rw [hy, Nat.mul_add, Nat.mul_assoc]; exact Nat.le_add_right _ _
    omega

theorem q_y (q y1 y0 : Nat) : q * (y1 * 4294967296 + y0) = q * y1 * 4294967296 + q * y0 := by rw [Nat.mul_add, Nat.mul_assoc]

/-- The guess is too great. -/
theorem too_great (u d y y1 y0 q r : Nat) (hy : y = y1 * 4294967296 + y0) (hu : u < y) (hd : d < 4294967296) (e : q * y1 + r = u)
    (h : 4294967296 ≤ q ∨ 4294967296 * r + d < q * y0) : 1 ≤ q ∧ u * 4294967296 + d < q * y := by
  have k : u * 4294967296 + d < q * y := by
    rcases h with h | h
    · have a : (u + 1) * 4294967296 ≤ y * 4294967296 := Nat.mul_le_mul_right _ hu
      have b : y * 4294967296 ≤ q * y := by rw [Nat.mul_comm q y]; exact Nat.mul_le_mul_left _ h
      omega
    · rw [hy, q_y]
      omega
  refine ⟨?_, k⟩
  rcases Nat.eq_zero_or_pos q with h0 | h0
  · rw [h0, Nat.zero_mul] at k; omega
  · exact h0

/-- It has been lowered, and what is left is great: it fits. -/
theorem fits_break (u d y y1 y0 q r : Nat) (hy : y = y1 * 4294967296 + y0) (h0 : y0 < 4294967296) (e : q * y1 + r = u) (hq : q ≤ 4294967296) (hr : 4294967296 ≤ r) :
    q * y ≤ u * 4294967296 + d := by
  rw [hy, q_y]
  have a : q * y0 ≤ 4294967296 * y0 := Nat.mul_le_mul_right _ hq
  omega

/-- It is not too great by the test: it fits. -/
theorem fits_test (u d y y1 y0 q r : Nat) (hy : y = y1 * 4294967296 + y0) (e : q * y1 + r = u) (h : q * y0 ≤ 4294967296 * r + d) :
    q * y ≤ u * 4294967296 + d := by
  rw [hy, q_y]
  omega

theorem digit (u d y q : Nat) (hu : u < y) (hd : d < 4294967296) (h : q * y ≤ u * 4294967296 + d) (k : u * 4294967296 + d < (q + 1) * y) :
    q = (u * 4294967296 + d) / y ∧ q < 4294967296 ∧ u * 4294967296 + d - q * y < y := by
  refine ⟨(Nat.div_eq_of_lt_le h k).symm, ?_, ?_⟩
  · have a : (u + 1) * 4294967296 ≤ y * 4294967296 := Nat.mul_le_mul_right _ hu
    have b : q * y < 4294967296 * y := by omega
    exact Nat.lt_of_mul_lt_mul_right b
  · rw [Nat.add_mul, Nat.one_mul] at k; omega

/-- The two digits are the quotient. -/
theorem both (u d1 d0 y q1 q0 : Nat) (hy : 0 < y) (h1 : q1 * y ≤ u * 4294967296 + d1) (h0 : q0 = ((u * 4294967296 + d1 - q1 * y) * 4294967296 + d0) / y) :
    q1 * 4294967296 + q0 = ((u * 4294967296 + d1) * 4294967296 + d0) / y := by
  have e : (u * 4294967296 + d1) * 4294967296 + d0 = ((u * 4294967296 + d1 - q1 * y) * 4294967296 + d0) + q1 * 4294967296 * y := by
    have : q1 * 4294967296 * y = q1 * y * 4294967296 := Nat.mul_right_comm _ _ _
    omega
  rw [e, Nat.add_mul_div_right _ _ hy, h0, Nat.add_comm]

theorem join (U d1 d0 Y : Nat) : ((U * 4294967296 + d1) * 4294967296 + d0) / Y = (U * 18446744073709551616 + (d1 * 4294967296 + d0)) / Y := by
  have e : (U * 4294967296 + d1) * 4294967296 + d0 = U * 18446744073709551616 + (d1 * 4294967296 + d0) := by omega
  rw [e]

/-- The shifted number in halves. -/
theorem shifted (hi lo s : Nat) (hs : s ≤ 64) : hi * 2 ^ s * 18446744073709551616 + lo / 2 ^ (64 - s) * 18446744073709551616 + lo * 2 ^ s % 18446744073709551616 = (hi * 18446744073709551616 + lo) * 2 ^ s := by
  have hp : 2 ^ (64 - s) * 2 ^ s = 18446744073709551616 := by rw [← Nat.pow_add, show 64 - s + s = 64 by omega]
  have e : lo / 2 ^ (64 - s) = lo * 2 ^ s / 18446744073709551616 := by
    rw [← hp, Nat.mul_div_mul_right _ _ (Nat.two_pow_pos s)]
  rw [e, Nat.add_mul, Nat.mul_right_comm hi]
  omega

theorem or_add (hi lo s : Nat) (hs : s ≤ 64) (hlo : lo < 18446744073709551616) : hi * 2 ^ s ||| lo / 2 ^ (64 - s) = hi * 2 ^ s + lo / 2 ^ (64 - s) := by
  have hb : lo / 2 ^ (64 - s) < 2 ^ s := by
    rw [Nat.div_lt_iff_lt_mul (Nat.two_pow_pos _), ← Nat.pow_add, show s + (64 - s) = 64 by omega]
    exact hlo
  rw [← Nat.shiftLeft_eq, Nat.shiftLeft_add_eq_or_of_lt hb]

theorem high_lt (hi lo y s : Nat) (hs : s ≤ 64) (hlo : lo < 18446744073709551616) (h : hi < y) : hi * 2 ^ s + lo / 2 ^ (64 - s) < y * 2 ^ s := by
  have hb : lo / 2 ^ (64 - s) < 2 ^ s := by
    rw [Nat.div_lt_iff_lt_mul (Nat.two_pow_pos _), ← Nat.pow_add, show s + (64 - s) = 64 by omega]
    exact hlo
  have : (hi + 1) * 2 ^ s ≤ y * 2 ^ s := Nat.mul_le_mul_right _ h
  rw [Nat.add_mul, Nat.one_mul] at this
  omega

end Go.Proofs.Ytfjepkakimhbbaa.DM
