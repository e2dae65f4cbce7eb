/-
  Refill as one contract, of the program and of the document's answer.
-/
import Derived.Test.YtbkdfbddcfglgaaRRRWalkLags
import Derived.Test.YtbkdfbddcfglgaaRRRWalkRefills
namespace Go.Proofs.YtbkdfbddcfglgaaRRR
open Go.RowKit
set_option linter.unusedVariables false

/-- What Refill answers: what is left, the deadline, the next period, the error. -/
def refillR (now q d t l e n : Int) : (Int × Int × Int) × Int :=
  if 0 < l then ((l, e, n), 0) else if 1099511627776 ≤ n + payK l q * t then ((0, 0, 0), 21)
  else if now < n + payK l q * t - t + d then ((l + payK l q * q, n + payK l q * t - t + d, n + payK l q * t), 0)
  else if freshE now q d t = 0 then ((q, now + d, now + t), 0) else ((0, 0, 0), freshE now q d t)

def Ans3 (f : Nat) (args : Array Value) (r : (Int × Int × Int) × Int) : Prop :=
  Hid (∀ W, Calls Try.prog f args W fun E w' => E = .returned (.tuple #[.agg #[.int .i64 r.1.1, .int .i64 r.1.2.1, .int .i64 r.1.2.2], .int .i64 r.2]) ∧ Below W.heap.size W w')

theorem refill_any (now q d t l e n : Int) (h : Ok6 now q d t l e n) : Ans3 11 #[.int .i64 now, .agg #[.int .i64 q, .int .i64 d, .int .i64 t], .agg #[.int .i64 l, .int .i64 e, .int .i64 n]] (refillR now q d t l e n) := by
  unfold refillR
  by_cases hl : 0 < l
  · rw [if_pos hl]
    exact Lib.hid fun W => refill_pos now q d t l e n h hl W
  rw [if_neg hl]
  by_cases hf : 1099511627776 ≤ n + payK l q * t
  · rw [if_pos hf]
    exact Lib.hid fun W => refill_far now q d t l e n h (by omega) hf W
  rw [if_neg hf]
  by_cases hb : now < n + payK l q * t - t + d
  · rw [if_pos hb]
    exact Lib.hid fun W => refill_paid now q d t l e n h (by omega) (by omega) hb W
  rw [if_neg hb]
  by_cases hF : freshE now q d t = 0
  · rw [if_pos hF]
    exact Lib.hid fun W => refill_late now q d t l e n h (by omega) (by omega) (by omega) _ _ _ _ (Lib.hid fun W => fresh_ok now q d t hF W) W
  · rw [if_neg hF]
    exact Lib.hid fun W => refill_late now q d t l e n h (by omega) (by omega) (by omega) _ _ _ _ (Lib.hid fun W => fresh_bad now q d t hF W) W
theorem rrefill_any (now q d t l e n : Int) (h : Ok6 now q d t l e n) : Ans3 12 #[.int .i64 now, .agg #[.int .i64 q, .int .i64 d, .int .i64 t], .agg #[.int .i64 l, .int .i64 e, .int .i64 n]] (refillR now q d t l e n) := by
  unfold refillR
  by_cases hl : 0 < l
  · rw [if_pos hl]
    exact Lib.hid fun W => rrefill_pos now q d t l e n hl W
  rw [if_neg hl]
  by_cases hf : 1099511627776 ≤ n + payK l q * t
  · rw [if_pos hf]
    exact Lib.hid fun W => rrefill_far now q d t l e n h (by omega) hf W
  rw [if_neg hf]
  by_cases hb : now < n + payK l q * t - t + d
  · rw [if_pos hb]
    exact Lib.hid fun W => rrefill_paid now q d t l e n h (by omega) (by omega) hb W
  rw [if_neg hb]
  by_cases hF : freshE now q d t = 0
  · rw [if_pos hF]
    exact Lib.hid fun W => rrefill_late now q d t l e n h (by omega) (by omega) (by omega) _ _ _ _ (Lib.hid fun W => rfresh_ok now q d t hF W) W
  · rw [if_neg hF]
    exact Lib.hid fun W => rrefill_late now q d t l e n h (by omega) (by omega) (by omega) _ _ _ _ (Lib.hid fun W => rfresh_bad now q d t hF W) W

theorem payK_more {l m q t : Int} (h : m ≤ l) (q0 : 1 ≤ q) (t0 : 0 ≤ t) : payK l q * t ≤ payK m q * t := by
  refine Int.mul_le_mul_of_nonneg_right ?_ t0
  unfold payK
  have : -l / q ≤ -m / q := Int.ediv_le_ediv (by omega) (by omega)
  omega
/-- Who has less left is refilled no earlier. -/
theorem refill_order {now q d t l m e n : Int} (h : Ok6 now q d t l e n) (hm : m ≤ l) (hl : l ≤ 0)
    (h1 : (refillR now q d t l e n).2 = 0) (h2 : (refillR now q d t m e n).2 = 0) (h3 : (refillR now q d t m e n).1.2.1 < (refillR now q d t l e n).1.2.1) : (refillR now q d t l e n).1.2.2 = now + t := by
  have q0 := h.q0; have qd := h.qd; have dt := h.dt
  have P := payK_more (l := l) (m := m) (q := q) (t := t) hm q0 (by omega)
  unfold refillR at h1 h2 h3 ⊢
  rw [if_neg (by omega : ¬ 0 < l)] at h1 h3 ⊢
  rw [if_neg (by omega : ¬ 0 < m)] at h2 h3
  by_cases fl : 1099511627776 ≤ n + payK l q * t
  · rw [if_pos fl] at h1
    exact absurd h1 (by decide)
  by_cases fm : 1099511627776 ≤ n + payK m q * t
  · rw [if_pos fm] at h2
    exact absurd h2 (by decide)
  rw [if_neg fl] at h1 h3 ⊢
  rw [if_neg fm] at h2 h3
  by_cases bl : now < n + payK l q * t - t + d
  · rw [if_pos bl] at h3
    rw [if_pos (by omega)] at h3
    have h4 : n + payK m q * t - t + d < n + payK l q * t - t + d := h3
    omega
  · rw [if_neg bl] at h1 ⊢
    by_cases hF : freshE now q d t = 0
    · rw [if_pos hF]
    · rw [if_neg hF] at h1
      exact absurd h1 hF
theorem fits_order {now q d l m e : Int} (d0 : 0 ≤ d) (h : m ≤ l) (hf : fitsB now q d l e = true) : fitsB now q d m e = true := by
  unfold fitsB at hf ⊢
  have ⟨a, b⟩ := of_decide_eq_true hf
  exact decide_eq_true ⟨a, Int.le_trans (Int.mul_le_mul_of_nonneg_right h d0) b⟩
end Go.Proofs.YtbkdfbddcfglgaaRRR
