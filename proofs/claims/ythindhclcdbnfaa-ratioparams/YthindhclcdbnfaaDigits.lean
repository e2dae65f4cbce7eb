/-
  Plain arithmetic of numbers as digits to the base 65536, the lowest one first.
-/
namespace Go.Proofs.Ythindhclcdbnfaa

/-- The lowest k digits of a number. -/
def digs : Nat → Nat → List Nat
  | 0, _ => []
  | k + 1, n => n % 65536 :: digs k (n / 65536)
/-- The number that digits (or greater numbers in their places) make. -/
def valD : List Nat → Nat
  | [] => 0
  | d :: l => d + 65536 * valD l

theorem digs_length : ∀ (k n : Nat), (digs k n).length = k
  | 0, _ => rfl
  | k + 1, n => by show (digs k (n / 65536)).length + 1 = k + 1; rw [digs_length k]

theorem digs_snoc : ∀ (k n : Nat), digs (k + 1) n = digs k n ++ [n / 65536 ^ k % 65536]
  | 0, n => by simp [digs]
  | k + 1, n => by
    show n % 65536 :: digs (k + 1) (n / 65536) = n % 65536 :: (digs k (n / 65536) ++ _)
    rw [digs_snoc k (n / 65536), Nat.div_div_eq_div_mul, Nat.pow_succ, Nat.mul_comm 65536]

theorem digs_at : ∀ (k n i : Nat), i < k → (digs k n).getD i 0 = n / 65536 ^ i % 65536
  | 0, _, _, h => absurd h (by omega)
  | k + 1, n, 0, _ => by simp [digs]
  | k + 1, n, i + 1, h => by
    have e := digs_at k (n / 65536) i (by omega)
    rw [Nat.div_div_eq_div_mul, Nat.mul_comm 65536, ← Nat.pow_succ] at e
    simpa [digs] using e

theorem digs_lt (k n i : Nat) : (digs k n).getD i 0 < 65536 := by
  rcases Nat.lt_or_ge i k with h | h
  · rw [digs_at k n i h]; exact Nat.mod_lt _ (by decide)
  · rw [List.getD_eq_getElem?_getD, List.getElem?_eq_none (by rw [digs_length]; exact h)]; decide

/-- Digits with carries: from o on, the list's numbers one by one, then nothing. -/
def car : Nat → Nat → List Nat → List Nat
  | 0, _, _ => []
  | k + 1, o, l => (o + l.headD 0) % 65536 :: car k ((o + l.headD 0) / 65536) l.tail
theorem valD_cons (l : List Nat) : valD l = l.headD 0 + 65536 * valD l.tail := by
  cases l with
  | nil => rfl
  | cons d l => rfl
theorem car_eq : ∀ (k o : Nat) (l : List Nat), car k o l = digs k (o + valD l)
  | 0, _, _ => rfl
  | k + 1, o, l => by
    show _ :: _ = _ :: _
    rw [car_eq k, valD_cons l]
    have h1 : (o + l.headD 0) % 65536 = (o + (l.headD 0 + 65536 * valD l.tail)) % 65536 := by omega
    have h2 : (o + l.headD 0) / 65536 + valD l.tail = (o + (l.headD 0 + 65536 * valD l.tail)) / 65536 := by omega
    rw [h1, h2]

theorem valD_digs : ∀ (k n : Nat), valD (digs k n) = n % 65536 ^ k
  | 0, n => by simp [digs, valD, Nat.mod_one]
  | k + 1, n => by
    show n % 65536 + 65536 * valD (digs k (n / 65536)) = _
    rw [valD_digs k, Nat.pow_succ, Nat.mul_comm (65536 ^ k), Nat.mod_mul]
theorem valD_append : ∀ (l m : List Nat), valD (l ++ m) = valD l + 65536 ^ l.length * valD m
  | [], m => by simp [valD]
  | d :: l, m => by
    show d + 65536 * valD (l ++ m) = d + 65536 * valD l + _
    rw [valD_append l m, List.length_cons, Nat.pow_succ, Nat.mul_add, Nat.mul_comm (65536 ^ l.length) 65536, Nat.mul_assoc]
    omega
/-- Digit by digit sums. -/
theorem valD_sum : ∀ (k n m : Nat), valD (List.zipWith (· + ·) (digs k n) (digs k m)) = n % 65536 ^ k + m % 65536 ^ k
  | 0, n, m => by simp [digs, valD, Nat.mod_one]
  | k + 1, n, m => by
    show n % 65536 + m % 65536 + 65536 * valD (List.zipWith (· + ·) (digs k (n / 65536)) (digs k (m / 65536))) = _
    rw [valD_sum k, Nat.pow_succ, Nat.mul_comm (65536 ^ k), Nat.mod_mul, Nat.mod_mul]
    omega

/-- Numbers below a power are told apart by their digits; the highest digit that differs tells which is less. -/
theorem lt_by_digit (n m k : Nat) (he : n / 65536 ^ (k + 1) = m / 65536 ^ (k + 1)) (hd : n / 65536 ^ k % 65536 < m / 65536 ^ k % 65536) : n < m := by
  have h1 : n / 65536 ^ (k + 1) = n / 65536 ^ k / 65536 := by rw [Nat.pow_succ, Nat.div_div_eq_div_mul]
  have h2 : m / 65536 ^ (k + 1) = m / 65536 ^ k / 65536 := by rw [Nat.pow_succ, Nat.div_div_eq_div_mul]
  have h : n / 65536 ^ k < m / 65536 ^ k := by omega
  rcases Nat.lt_or_ge n m with h' | h'
  · exact h'
  · have := Nat.div_le_div_right (c := 65536 ^ k) h'
    omega
theorem eq_up (n m k : Nat) (he : n / 65536 ^ (k + 1) = m / 65536 ^ (k + 1)) (hd : n / 65536 ^ k % 65536 = m / 65536 ^ k % 65536) : n / 65536 ^ k = m / 65536 ^ k := by
  have h1 : n / 65536 ^ (k + 1) = n / 65536 ^ k / 65536 := by rw [Nat.pow_succ, Nat.div_div_eq_div_mul]
  have h2 : m / 65536 ^ (k + 1) = m / 65536 ^ k / 65536 := by rw [Nat.pow_succ, Nat.div_div_eq_div_mul]
  omega

end Go.Proofs.Ythindhclcdbnfaa
