/-
  CbsLags: the arithmetic round its walk.
-/
import Derived.Test.YtbkdfbddcfglgaaRRRLawLags
namespace Go.Proofs.YtbkdfbddcfglgaaRRR
open Go.RowKit
set_option linter.unusedVariables false

theorem may_yes {q d t : Int} (h : checkE q d t = 0) : Hid (∀ W, Calls Try.prog 16 #[.agg #[.int .i64 q, .int .i64 d, .int .i64 t]] W fun E w' => E = .returned (.bool true) ∧ Below W.heap.size W w') := by
  have c := fun W => may6_any q d t W
  rw [h] at c
  exact Lib.hid c
theorem lagN_le {q t l e : Int} (q0 : 1 ≤ q) (t0 : 0 ≤ t) (e0 : 0 ≤ e) : 0 ≤ lagN q t l e ∧ lagN q t l e ≤ e := by
  unfold lagN
  by_cases h : l < 1
  · rw [if_pos h]; omega
  · rw [if_neg h]
    have : 0 ≤ l * t / q := Int.ediv_nonneg (Int.mul_nonneg (by omega) t0) (by omega)
    omega
theorem lagN_mono {q t l m e : Int} (q0 : 1 ≤ q) (t0 : 0 ≤ t) (e0 : 0 ≤ e) (h : m ≤ l) : lagN q t l e ≤ lagN q t m e := by
  by_cases hm : m < 1
  · have := (lagN_le (l := l) q0 t0 e0).2
    unfold lagN at this ⊢
    rw [if_pos hm]
    exact this
  · unfold lagN
    rw [if_neg hm, if_neg (by omega)]
    have : m * t / q ≤ l * t / q := Int.ediv_le_ediv (by omega) (Int.mul_le_mul_of_nonneg_right h t0)
    omega
theorem mul_le_small {a b : Int} (a0 : 0 ≤ a) (b0 : 0 ≤ b) (a1 : a ≤ 1073741824) (b1 : b ≤ 1073741824) : 0 ≤ a * b ∧ a * b ≤ 1152921504606846976 := by
  have h1 := Int.mul_nonneg a0 b0
  have h2 : a * b ≤ 1073741824 * 1073741824 := Int.mul_le_mul a1 b1 b0 (by omega)
  omega

theorem walk_CbsLags (q d t l e n s : Int) (w : World) (hq : -9223372036854775808 ≤ q ∧ q ≤ 9223372036854775807) (hd : -9223372036854775808 ≤ d ∧ d ≤ 9223372036854775807) (ht : -9223372036854775808 ≤ t ∧ t ≤ 9223372036854775807) (hl : -9223372036854775808 ≤ l ∧ l ≤ 9223372036854775807) (he : -9223372036854775808 ≤ e ∧ e ≤ 9223372036854775807) (hn : -9223372036854775808 ≤ n ∧ n ≤ 9223372036854775807) (hs : -9223372036854775808 ≤ s ∧ s ≤ 9223372036854775807) :
    Calls Try.prog 5 #[.agg #[.int .i64 q, .int .i64 d, .int .i64 t], .agg #[.int .i64 l, .int .i64 e, .int .i64 n], .int .i64 s] w fun E w' => E = .returned (.bool true) ∧ Below w.heap.size w w' := by
  clear hq hd ht hl he hn hs
  by_cases hO' : allE 0 q d t l e n ≠ 0
  · exact lags_out q d t l e n s hO' awC6 w
  have hO : allE 0 q d t l e n = 0 := Decidable.not_not.1 hO'
  clear hO'
  have ok := allE_may hO
  obtain ⟨q0, qd, dt, t1, _, _, l0, l1, e0, e1, x0, x1⟩ := allE_may hO
  by_cases hs0 : s < 0
  · exact lags_neg q d t l e n s hO (decide_eq_true hs0) awC6 w
  by_cases hs1 : 1073741824 < s
  · exact lags_big q d t l e n s hO (decide_eq_false hs0) (decide_eq_true hs1) awC6 w
  have CL := Lib.hid (fun W => clag_ok q d t l e n ok W)
  have A := lagN_le (q := q) (t := t) (l := l) (e := e) q0 (by omega) e0
  have MB := lagN_mono (q := q) (t := t) (l := l) (m := l - s) (e := e) q0 (by omega) e0 (by omega)
  have CM := may_yes (checkE_of q0 qd dt t1)
  by_cases hl : 0 < l
  · have hla : lagN q t l e = max (e - l * t / q) 0 := if_neg (by omega)
    have y0 : 0 ≤ l * t / q := Int.ediv_nonneg (Int.mul_nonneg (by omega) (by omega)) (by omega)
    have y1 : l * t / q * q ≤ l * t := Int.ediv_mul_le _ (by omega)
    have y2 : l * t < (l * t / q + 1) * q := Int.lt_ediv_add_one_mul_self _ (by omega)
    obtain ⟨z0, z1⟩ := mul_le_small (a := l) (b := t) (by omega) (by omega) l1 t1
    have y3 : (l * t / q + 1) * q = l * t / q * q + q := by rw [Int.add_mul, Int.one_mul]
    by_cases ha : 0 < lagN q t l e
    · have ea : e - lagN q t l e = l * t / q := by omega
      have m0 : 0 ≤ l * t / q * q := Int.mul_nonneg y0 (by omega)
      have h1 : 0 ≤ (e - lagN q t l e) * q ∧ (e - lagN q t l e) * q ≤ 1152921504606846976 ∧ (e - lagN q t l e) * q ≤ l * t := by rw [ea]; omega
      have h2 : 0 ≤ (e - lagN q t l e + 1) * q ∧ (e - lagN q t l e + 1) * q ≤ 2305843009213693952 ∧ l * t < (e - lagN q t l e + 1) * q := by rw [ea]; omega
      clear y0 y1 y2 y3 ea m0 hla
      generalize lagN q t l e = a at *
      by_cases hc : s ≤ l + 1073741824
      · exact lags_ok_some q d t l e n s hO (decide_eq_false hs0) (decide_eq_false hs1) a CL A.1 A.2 e1 (decide_eq_false (by omega)) (decide_eq_false (by omega)) q0 (by omega) (by omega) t1 (by omega) l1 h1.1 h1.2.1 z0 z1 (decide_eq_true hl) (decide_eq_false (by omega)) h2.1 h2.2.1 (decide_eq_true ha) (decide_eq_false (by omega)) _ _ (Lib.hid fun W => charge_ok l e n s ok.num l0 l1 (by omega) hc W) (Lib.hid fun W => clag_ok q d t (l - s) e n ⟨q0, qd, dt, t1, by omega, by omega, by omega, by omega, e0, e1, x0, x1⟩ W) (decide_eq_true MB) CM awC6 w
      · exact lags_bad_some q d t l e n s hO (decide_eq_false hs0) (decide_eq_false hs1) a CL A.1 A.2 e1 (decide_eq_false (by omega)) (decide_eq_false (by omega)) q0 (by omega) (by omega) t1 (by omega) l1 h1.1 h1.2.1 z0 z1 (decide_eq_true hl) (decide_eq_false (by omega)) h2.1 h2.2.1 (decide_eq_true ha) (decide_eq_false (by omega)) (Lib.hid fun W => charge_bad2 l e n s ok.num l0 l1 (.inr (by omega)) W) awC6 w
    · have h1 : 0 ≤ (e - lagN q t l e) * q ∧ (e - lagN q t l e) * q ≤ 1152921504606846976 ∧ (e - lagN q t l e) * q ≤ l * t := by
        have m0 : 0 ≤ (e - lagN q t l e) * q := Int.mul_nonneg (by omega) (by omega)
        have m1 : (e - lagN q t l e) * q ≤ l * t / q * q := Int.mul_le_mul_of_nonneg_right (by omega) (by omega)
        omega
      clear y0 y1 y2 y3 hla
      generalize lagN q t l e = a at *
      by_cases hc : s ≤ l + 1073741824
      · exact lags_ok_zero q d t l e n s hO (decide_eq_false hs0) (decide_eq_false hs1) a CL A.1 A.2 e1 (decide_eq_false (by omega)) (decide_eq_false (by omega)) q0 (by omega) (by omega) t1 (by omega) l1 h1.1 h1.2.1 z0 z1 (decide_eq_true hl) (decide_eq_false (by omega)) (decide_eq_false ha) _ _ (Lib.hid fun W => charge_ok l e n s ok.num l0 l1 (by omega) hc W) (Lib.hid fun W => clag_ok q d t (l - s) e n ⟨q0, qd, dt, t1, by omega, by omega, by omega, by omega, e0, e1, x0, x1⟩ W) (decide_eq_true MB) CM awC6 w
      · exact lags_bad_zero q d t l e n s hO (decide_eq_false hs0) (decide_eq_false hs1) a CL A.1 A.2 e1 (decide_eq_false (by omega)) (decide_eq_false (by omega)) q0 (by omega) (by omega) t1 (by omega) l1 h1.1 h1.2.1 z0 z1 (decide_eq_true hl) (decide_eq_false (by omega)) (decide_eq_false ha) (Lib.hid fun W => charge_bad2 l e n s ok.num l0 l1 (.inr (by omega)) W) awC6 w
  · generalize lagN q t l e = a at *
    by_cases hc : s ≤ l + 1073741824
    · exact lags_ok_none q d t l e n s hO (decide_eq_false hs0) (decide_eq_false hs1) a CL A.1 A.2 e1 (decide_eq_false (by omega)) (decide_eq_false (by omega)) (decide_eq_false hl) _ _ (Lib.hid fun W => charge_ok l e n s ok.num l0 l1 (by omega) hc W) (Lib.hid fun W => clag_ok q d t (l - s) e n ⟨q0, qd, dt, t1, by omega, by omega, by omega, by omega, e0, e1, x0, x1⟩ W) (decide_eq_true MB) CM awC6 w
    · exact lags_bad_none q d t l e n s hO (decide_eq_false hs0) (decide_eq_false hs1) a CL A.1 A.2 e1 (decide_eq_false (by omega)) (decide_eq_false (by omega)) (decide_eq_false hl) (Lib.hid fun W => charge_bad2 l e n s ok.num l0 l1 (.inr (by omega)) W) awC6 w
end Go.Proofs.YtbkdfbddcfglgaaRRR
