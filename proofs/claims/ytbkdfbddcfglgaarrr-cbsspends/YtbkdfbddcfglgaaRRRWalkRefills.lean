/-
  CbsRefills: the arithmetic round its walk.
-/
import Derived.Test.YtbkdfbddcfglgaaRRRLawRefills
namespace Go.Proofs.YtbkdfbddcfglgaaRRR
open Go.RowKit
set_option linter.unusedVariables false

theorem payK_pos {l q : Int} (hl : l ≤ 0) (q0 : 1 ≤ q) : 1 ≤ payK l q := by
  have : 0 ≤ -l / q := Int.ediv_nonneg (by omega) (by omega)
  unfold payK
  omega
theorem freshE_far {now q d t l e n : Int} (h : Ok6 now q d t l e n) (hF : freshE now q d t ≠ 0) : freshE now q d t = 21 := by
  have e1 : freshE now q d t = timeE (now + t) := by
    unfold freshE
    rw [if_pos (checkE_of h.q0 h.qd h.dt h.t1), afterE_time (timeE_ok h.n0 h.n1) (by have := h.q0; have := h.qd; have := h.dt; omega)]
  rw [e1] at hF ⊢
  have := h.n0; have := h.q0; have := h.qd; have := h.dt
  by_cases hh : now + t < 1099511627776
  · exact absurd (timeE_ok (by omega) hh) hF
  · exact timeE_far (by omega)

theorem walk_CbsRefills (now q d t l e n : Int) (w : World) (hnow : -9223372036854775808 ≤ now ∧ now ≤ 9223372036854775807) (hq : -9223372036854775808 ≤ q ∧ q ≤ 9223372036854775807) (hd : -9223372036854775808 ≤ d ∧ d ≤ 9223372036854775807) (ht : -9223372036854775808 ≤ t ∧ t ≤ 9223372036854775807) (hl : -9223372036854775808 ≤ l ∧ l ≤ 9223372036854775807) (he : -9223372036854775808 ≤ e ∧ e ≤ 9223372036854775807) (hn : -9223372036854775808 ≤ n ∧ n ≤ 9223372036854775807) :
    Calls Try.prog 4 #[.int .i64 now, .agg #[.int .i64 q, .int .i64 d, .int .i64 t], .agg #[.int .i64 l, .int .i64 e, .int .i64 n]] w fun E w' => E = .returned (.bool true) ∧ Below w.heap.size w w' := by
  clear hnow hq hd ht hl he hn
  by_cases hO' : allE now q d t l e n ≠ 0
  · exact refills_out now q d t l e n hO' awC6 w
  have hO : allE now q d t l e n = 0 := Decidable.not_not.1 hO'
  have ok := allE_may hO
  obtain ⟨q0, qd, dt, t1, n0, n1, l0, l1, e0, e1, x0, x1⟩ := allE_may hO
  by_cases hq : q < l
  · exact refills_more now q d t l e n hO (decide_eq_true hq) awC6 w
  by_cases hl : 0 < l
  · exact refills_pos now q d t l e n hO (decide_eq_false hq) (decide_eq_true hl) (Lib.hid fun W => refill_pos now q d t l e n ok hl W) awC6 w
  have hl' : l ≤ 0 := by omega
  obtain ⟨⟨k0, k1⟩, ⟨a0, a1⟩, ⟨b0, b1⟩, c0, c1⟩ := payK_facts (t := t) l0 hl' q0 (by omega) (by omega) t1
  by_cases hf' : 1099511627776 ≤ n + payK l q * t
  · exact refills_err now q d t l e n hO (decide_eq_false hq) (Lib.hid fun W => refill_far now q d t l e n ok hl' hf' W) awC6 w
  have hf : n + payK l q * t < 1099511627776 := by omega
  have kp := payK_pos hl' q0
  have kt : 1 * t ≤ payK l q * t := Int.mul_le_mul_of_nonneg_right kp (by omega)
  have kb : payK l q ≤ 1099511627776 := by unfold payK; omega
  by_cases hb : now < n + payK l q * t - t + d
  · have CR := Lib.hid (fun W => refill_paid now q d t l e n ok hl' hf hb W)
    have dv : (n + payK l q * t - n) / t = payK l q := by
      rw [show n + payK l q * t - n = payK l q * t by omega]
      exact Int.mul_ediv_cancel _ (by omega)
    generalize payK l q = k at *
    by_cases hs : n + k * t = now + t
    · by_cases ha : l + k * q = q
      · exact refills_same now q d t l e n hO (decide_eq_false hq) (decide_eq_false hl) _ _ _ CR n0 n1 q0 (by omega) (by omega) (by omega) (by omega) t1 (by omega) (by omega) (by omega) (by omega) (decide_eq_false (by omega)) (decide_eq_false (by omega)) (decide_eq_false (by omega)) (by simp; omega) (by simpa using hs) (by simpa using ha) awC6 w
      · exact refills_paid2 now q d t l e n hO (decide_eq_false hq) (decide_eq_false hl) _ _ _ CR n0 n1 q0 (by omega) (by omega) (by omega) (by omega) t1 (by omega) (by omega) (by omega) (by omega) (decide_eq_false (by omega)) (decide_eq_false (by omega)) (decide_eq_false (by omega)) (by simp; omega) k l0 hl' x0 x1 dv (by omega) kp kb a0 (by omega) b0 b1 (by simp) (by simp) (by simpa using hs) (by simpa using ha) awC6 w
    · exact refills_paid1 now q d t l e n hO (decide_eq_false hq) (decide_eq_false hl) _ _ _ CR n0 n1 q0 (by omega) (by omega) (by omega) (by omega) t1 (by omega) (by omega) (by omega) (by omega) (decide_eq_false (by omega)) (decide_eq_false (by omega)) (decide_eq_false (by omega)) (by simp; omega) k l0 hl' x0 x1 dv (by omega) kp kb a0 (by omega) b0 b1 (by simp) (by simp) (by simpa using hs) awC6 w
  · by_cases hF : freshE now q d t = 0
    · obtain ⟨_, _, hlast⟩ := freshE_may hF
      have CR := Lib.hid (fun W => refill_late now q d t l e n ok hl' hf (by omega) _ _ _ _ (Lib.hid fun W => fresh_ok now q d t hF W) W)
      exact refills_same now q d t l e n hO (decide_eq_false hq) (decide_eq_false hl) _ _ _ CR n0 n1 q0 (by omega) (by omega) (by omega) (by omega) t1 (by omega) (by omega) (by omega) (by omega) (decide_eq_false (by omega)) (decide_eq_false (by omega)) (decide_eq_false (by omega)) (by simp; omega) (by simp) (by simp) awC6 w
    · have c := fun W => fresh_bad now q d t hF W
      rw [freshE_far ok hF] at c
      have CR := Lib.hid (fun W => refill_late now q d t l e n ok hl' hf (by omega) _ _ _ _ (Lib.hid c) W)
      exact refills_err now q d t l e n hO (decide_eq_false hq) CR awC6 w
end Go.Proofs.YtbkdfbddcfglgaaRRR
