/-
  The walk of GrubCharges.
-/
import Derived.Test.YthncchngphlcfaaLawG2
namespace Go.Proofs.Ythncchngphlcfaa
open Go.RowKit
set_option linter.unusedVariables false
set_option linter.unusedSimpArgs false

theorem chC (r t x : Int) : ChC r t x (chN r t x) (chR r t x) (chE r t x) := Lib.hid fun W => gcharge_any r t x W
theorem chC_ok {r t x : Int} (h : chE r t x = 0) : ChC r t x ((t * x + r) / 1048576) ((t * x + r) % 1048576) 0 := Lib.hid fun W => gcharge_ok r t x h W
theorem chC_bad {r t x : Int} (h : chE r t x ≠ 0) : ChC r t x 0 0 (chE r t x) := Lib.hid fun W => gcharge_bad r t x h W
theorem unC (r l x : Int) {t e : Int} (h : unR r l x = (t, e)) : UnC r l x t e := by
  have k := fun W => guntil_any r l x W
  rw [h] at k
  exact Lib.hid k
theorem wrC (r t x : Int) : WrC r t x (chE r t x) := Lib.hid fun W => rwrong_any r t x W
theorem rcC {r t x : Int} (h : chE r t x = 0) : RcC r t x ((t * x + r) / 1048576) ((t * x + r) % 1048576) := Lib.hid fun W => rcharge_ok r t x h W

/-- Until, where something is left: the least time at which as much is charged, or none. -/
theorem unR_pos {r l x : Int} (r0 : 0 ≤ r) (r1 : r < 1048576) (x0 : 1 ≤ x) (x1 : x ≤ 1048576) (l0 : 1 ≤ l) (l1 : l ≤ 1073741824) :
    ∃ q : Int, 1 ≤ q ∧ l * 1048576 - r ≤ q * x ∧ (q - 1) * x < l * 1048576 - r ∧ unR r l x = if q < 1099511627776 then (q, 0) else (0, 21) := by
  obtain ⟨M, hM⟩ := Int.eq_ofNat_of_zero_le (by omega : 0 ≤ l * 1048576 - r)
  obtain ⟨X, rfl⟩ := Int.eq_ofNat_of_zero_le (by omega : 0 ≤ x)
  have hX : 0 < X := by omega
  obtain ⟨d1, d2⟩ := divQ_up (a := M) (b := 1) hX
  obtain ⟨Q, hQ⟩ : ∃ Q, divQ M 1 X true = Q := ⟨_, rfl⟩
  rw [hQ, Nat.mul_one] at d1 d2
  have hq : Q ≤ Q * X := Nat.le_mul_of_pos_right _ hX
  have e0 : ((Q * X : Nat) : Int) = (Q : Int) * (X : Int) := Int.natCast_mul Q X
  have hQ0 : 1 ≤ Q := by
    rcases Nat.eq_zero_or_pos Q with h | h
    · subst h; simp at d1; omega
    · exact h
  have e1 : divR (l * 1048576 - r) 1 X true = ((Q : Int), 0) := by
    have := divR_of M 1 X true hX
    rw [hQ, if_pos (by omega)] at this
    rw [hM]
    exact this
  refine ⟨Q, by omega, by omega, by rw [Int.sub_mul, ← e0]; omega, ?_⟩
  unfold unR
  rw [if_pos (metE_ok r0 r1), if_pos (ratE_ok (by omega) x1), if_neg (by omega), if_neg (by omega), e1]
  show (if (0 : Int) = 0 then _ else _) = _
  rw [if_pos rfl]
  by_cases h : (Q : Int) < 1099511627776
  · rw [if_pos h, if_pos (timeE_ok (by omega) h)]
  · rw [if_neg h, if_neg (timeE_ne (.inr (by omega))), timeE_far (by omega)]
theorem unR_zero {r l : Int} (r0 : 0 ≤ r) (r1 : r < 1048576) (l0 : 1 ≤ l) (l1 : l ≤ 1073741824) : unR r l 0 = (0, 12) := by
  have e1 : divR (l * 1048576 - r) 1 0 true = (0, 12) := by
    unfold divR
    rw [if_neg (by omega), if_pos rfl]
  unfold unR
  rw [if_pos (metE_ok r0 r1), if_pos (ratE_ok (by omega) (by omega)), if_neg (by omega), if_neg (by omega), e1]
  rfl

theorem charged_ge {p r l : Int} (h : l * 1048576 - r ≤ p) : l ≤ (p + r) / 1048576 := by omega
theorem charged_lt {p r l : Int} (h : p < l * 1048576 - r) : (p + r) / 1048576 < l := by omega

theorem walk_GrubCharges (r t x l : Int) (w : World) (hr : -9223372036854775808 ≤ r ∧ r ≤ 9223372036854775807) (ht : -9223372036854775808 ≤ t ∧ t ≤ 9223372036854775807) (hx : -9223372036854775808 ≤ x ∧ x ≤ 9223372036854775807) (hl : -9223372036854775808 ≤ l ∧ l ≤ 9223372036854775807) :
    Calls Try.prog 4 #[.agg #[.int .i64 r], .int .i64 t, .agg #[.int .i64 x, .int .i64 l]] w fun E w' => E = .returned (.bool true) ∧ Below w.heap.size w w' := by
  have nm : ∀ {r}, (r < 0 ∨ 1048576 ≤ r) → metE r ≠ 0 := fun h => by unfold metE; rw [if_pos h]; decide
  have nr : ∀ {r}, (r < 0 ∨ 1048576 < r) → ratE r ≠ 0 := fun h => by unfold ratE; rw [if_pos h]; decide
  have bm : metE r ≠ 0 → chE r t x ≠ 0 := fun h => by unfold chE; rw [if_neg h]; decide
  have W1 := wrC r t x
  by_cases h0 : r < 0
  · have hb := bm (nm (.inl h0))
    exact charges_u0_bad r t x l (decide_eq_true h0) _ (by simpa using hb) (chC_bad hb) W1 (unC r l x (if_neg (nm (.inl h0)))) awG w
  by_cases h1 : 1048575 < r
  · have hb := bm (nm (.inr (by omega)))
    exact charges_u1_bad r t x l (decide_eq_false h0) (decide_eq_true h1) _ (by simpa using hb) (chC_bad hb) W1 (unC r l x (if_neg (nm (.inr (by omega))))) awG w
  have hm : metE r = 0 := metE_ok (by omega) (by omega)
  have br : ratE x ≠ 0 → chE r t x ≠ 0 := fun h => by
    unfold chE
    rw [if_pos hm]
    split
    · exact h
    · assumption
  have u1 : ratE x ≠ 0 → unR r l x = (0, 10) := fun h => by unfold unR; rw [if_pos hm, if_neg h]
  by_cases h2 : x < 0
  · have hb := br (nr (.inl h2))
    exact charges_u2_bad r t x l (decide_eq_false h0) (decide_eq_false h1) (decide_eq_true h2) _ (by simpa using hb) (chC_bad hb) W1 (unC r l x (u1 (nr (.inl h2)))) awG w
  by_cases h3 : 1048576 < x
  · have hb := br (nr (.inr h3))
    exact charges_u3_bad r t x l (decide_eq_false h0) (decide_eq_false h1) (decide_eq_false h2) (decide_eq_true h3) _ (by simpa using hb) (chC_bad hb) W1 (unC r l x (u1 (nr (.inr h3)))) awG w
  have hx0 : ratE x = 0 := ratE_ok (by omega) (by omega)
  have u2 : (l < 0 ∨ 1073741824 < l) → unR r l x = (0, 10) := fun h => by unfold unR; rw [if_pos hm, if_pos hx0, if_pos h]
  by_cases hc : chE r t x = 0
  · have C1 := chC_ok hc
    have R1 := rcC hc
    rw [hc] at W1
    by_cases h4 : l < 0
    · exact charges_u4_ok r t x l (decide_eq_false h0) (decide_eq_false h1) (decide_eq_false h2) (decide_eq_false h3) (decide_eq_true h4) _ _ C1 W1 R1 (unC r l x (u2 (.inl h4))) awG w
    by_cases h5 : 1073741824 < l
    · exact charges_u5_ok r t x l (decide_eq_false h0) (decide_eq_false h1) (decide_eq_false h2) (decide_eq_false h3) (decide_eq_false h4) (decide_eq_true h5) _ _ C1 W1 R1 (unC r l x (u2 (.inr h5))) awG w
    by_cases l0 : l = 0
    · exact charges_z_ok r t x l (decide_eq_false h0) (decide_eq_false h1) (decide_eq_false h2) (decide_eq_false h3) (decide_eq_false h4) (decide_eq_false h5) (by simpa using l0) _ _ C1 W1 R1 (unC r l x (by unfold unR; rw [if_pos hm, if_pos hx0, if_neg (by omega), if_pos l0])) awG w
    by_cases x0 : x = 0
    · exact charges_r_ok r t x l (decide_eq_false h0) (decide_eq_false h1) (decide_eq_false h2) (decide_eq_false h3) (decide_eq_false h4) (decide_eq_false h5) (by simpa using l0) (by simpa using x0) _ _ C1 W1 R1 (unC r l x (by rw [x0]; exact unR_zero (by omega) (by omega) (by omega) (by omega))) awG w
    obtain ⟨q, q0, q1, q2, eq⟩ := unR_pos (r := r) (l := l) (x := x) (by omega) (by omega) (by omega) (by omega) (by omega) (by omega)
    have CT := rcC (r := r) (t := 1099511627775) (x := x) (chE_ok (by omega) (by omega) (by omega) (by omega) (by omega) (by omega))
    by_cases hq : q < 1099511627776
    · rw [if_pos hq] at eq
      have k1 : q * x ≤ 1099511627775 * x := Int.mul_le_mul_of_nonneg_right (by omega) (by omega)
      have D1 := rcC (r := r) (t := q) (x := x) (chE_ok (by omega) (by omega) (by omega) (by omega) (by omega) (by omega))
      have D2 := rcC (r := r) (t := q - 1) (x := x) (chE_ok (by omega) (by omega) (by omega) (by omega) (by omega) (by omega))
      exact charges_g_ok r t x l (decide_eq_false h0) (decide_eq_false h1) (decide_eq_false h2) (decide_eq_false h3) (decide_eq_false h4) (decide_eq_false h5) (by simpa using l0) (by simpa using x0) _ _ CT (decide_eq_false (by have := charged_ge (p := 1099511627775 * x) (r := r) (l := l) (by omega); omega)) q _ _ _ _ q0 (by omega) D1 D2 (decide_eq_true (charged_ge q1)) (decide_eq_true (charged_lt q2)) _ _ C1 W1 R1 (unC r l x eq) awG w
    · rw [if_neg hq] at eq
      have k1 : 1099511627775 * x ≤ (q - 1) * x := Int.mul_le_mul_of_nonneg_right (by omega) (by omega)
      exact charges_h_ok r t x l (decide_eq_false h0) (decide_eq_false h1) (decide_eq_false h2) (decide_eq_false h3) (decide_eq_false h4) (decide_eq_false h5) (by simpa using l0) (by simpa using x0) _ _ CT (decide_eq_true (charged_lt (by omega))) _ _ C1 W1 R1 (unC r l x eq) awG w
  · have C1 := chC_bad hc
    have y0 : (chE r t x != 0) = true := by simpa using hc
    by_cases h4 : l < 0
    · exact charges_u4_bad r t x l (decide_eq_false h0) (decide_eq_false h1) (decide_eq_false h2) (decide_eq_false h3) (decide_eq_true h4) _ y0 C1 W1 (unC r l x (u2 (.inl h4))) awG w
    by_cases h5 : 1073741824 < l
    · exact charges_u5_bad r t x l (decide_eq_false h0) (decide_eq_false h1) (decide_eq_false h2) (decide_eq_false h3) (decide_eq_false h4) (decide_eq_true h5) _ y0 C1 W1 (unC r l x (u2 (.inr h5))) awG w
    by_cases l0 : l = 0
    · exact charges_z_bad r t x l (decide_eq_false h0) (decide_eq_false h1) (decide_eq_false h2) (decide_eq_false h3) (decide_eq_false h4) (decide_eq_false h5) (by simpa using l0) _ y0 C1 W1 (unC r l x (by unfold unR; rw [if_pos hm, if_pos hx0, if_neg (by omega), if_pos l0])) awG w
    by_cases x0 : x = 0
    · exact charges_r_bad r t x l (decide_eq_false h0) (decide_eq_false h1) (decide_eq_false h2) (decide_eq_false h3) (decide_eq_false h4) (decide_eq_false h5) (by simpa using l0) (by simpa using x0) _ y0 C1 W1 (unC r l x (by rw [x0]; exact unR_zero (by omega) (by omega) (by omega) (by omega))) awG w
    obtain ⟨q, q0, q1, q2, eq⟩ := unR_pos (r := r) (l := l) (x := x) (by omega) (by omega) (by omega) (by omega) (by omega) (by omega)
    have CT := rcC (r := r) (t := 1099511627775) (x := x) (chE_ok (by omega) (by omega) (by omega) (by omega) (by omega) (by omega))
    by_cases hq : q < 1099511627776
    · rw [if_pos hq] at eq
      have k1 : q * x ≤ 1099511627775 * x := Int.mul_le_mul_of_nonneg_right (by omega) (by omega)
      have D1 := rcC (r := r) (t := q) (x := x) (chE_ok (by omega) (by omega) (by omega) (by omega) (by omega) (by omega))
      have D2 := rcC (r := r) (t := q - 1) (x := x) (chE_ok (by omega) (by omega) (by omega) (by omega) (by omega) (by omega))
      exact charges_g_bad r t x l (decide_eq_false h0) (decide_eq_false h1) (decide_eq_false h2) (decide_eq_false h3) (decide_eq_false h4) (decide_eq_false h5) (by simpa using l0) (by simpa using x0) _ _ CT (decide_eq_false (by have := charged_ge (p := 1099511627775 * x) (r := r) (l := l) (by omega); omega)) q _ _ _ _ q0 (by omega) D1 D2 (decide_eq_true (charged_ge q1)) (decide_eq_true (charged_lt q2)) _ y0 C1 W1 (unC r l x eq) awG w
    · rw [if_neg hq] at eq
      have k1 : 1099511627775 * x ≤ (q - 1) * x := Int.mul_le_mul_of_nonneg_right (by omega) (by omega)
      exact charges_h_bad r t x l (decide_eq_false h0) (decide_eq_false h1) (decide_eq_false h2) (decide_eq_false h3) (decide_eq_false h4) (decide_eq_false h5) (by simpa using l0) (by simpa using x0) _ _ CT (decide_eq_true (charged_lt (by omega))) _ y0 C1 W1 (unC r l x eq) awG w
end Go.Proofs.Ythncchngphlcfaa
