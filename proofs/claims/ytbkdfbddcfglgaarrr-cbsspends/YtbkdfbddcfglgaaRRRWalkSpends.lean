/-
  CbsSpends: the cases round its walk.
-/
import Derived.Test.YtbkdfbddcfglgaaRRRLawSpA
import Derived.Test.YtbkdfbddcfglgaaRRRLawSpB
import Derived.Test.YtbkdfbddcfglgaaRRRLawSpC
import Derived.Test.YtbkdfbddcfglgaaRRRLawSpD
namespace Go.Proofs.YtbkdfbddcfglgaaRRR
open Go.RowKit
set_option linter.unusedVariables false

theorem clag_bad (q d t l e n : Int) (h : allE 0 q d t l e n ≠ 0) (w : World) :
    Calls Try.prog 13 #[.agg #[.int .i64 q, .int .i64 d, .int .i64 t], .agg #[.int .i64 l, .int .i64 e, .int .i64 n]] w fun E w' => E = .returned (.tuple #[.int .i64 0, .int .i64 (allE 0 q d t l e n)]) ∧ Below w.heap.size w w' := by
  by_cases hc : checkE q d t = 0
  · have x : allE 0 q d t l e n = numE l e n := by unfold allE; rw [if_pos hc, if_pos (timeE_ok (by omega) (by omega))]
    rw [x] at h ⊢
    exact clag_bad2 q d t l e n hc h w
  · have x : allE 0 q d t l e n = 1 := by unfold allE; rw [if_neg hc]
    rw [x]
    exact clag_bad1 q d t l e n hc w
theorem neq_yes {x : Int} (h : x ≠ 0) : (x != 0) = true := by simpa using h
theorem eqz_no {x : Int} (h : x ≠ 0) : (x == 0) = false := by simpa using h

theorem walk_CbsSpends (now q d t l e n : Int) (w : World) (hnow : -9223372036854775808 ≤ now ∧ now ≤ 9223372036854775807) (hq : -9223372036854775808 ≤ q ∧ q ≤ 9223372036854775807) (hd : -9223372036854775808 ≤ d ∧ d ≤ 9223372036854775807) (ht : -9223372036854775808 ≤ t ∧ t ≤ 9223372036854775807) (hl : -9223372036854775808 ≤ l ∧ l ≤ 9223372036854775807) (he : -9223372036854775808 ≤ e ∧ e ≤ 9223372036854775807) (hn : -9223372036854775808 ≤ n ∧ n ≤ 9223372036854775807) :
    Calls Try.prog 3 #[.int .i64 now, .agg #[.int .i64 q, .int .i64 d, .int .i64 t], .agg #[.int .i64 l, .int .i64 e, .int .i64 n]] w fun E w' => E = .returned (.bool true) ∧ Below w.heap.size w w' := by
  clear hnow hq hd ht hl he hn
  have CK := fun W => rcheck_any l e n W
  have CP := Lib.hid (fun W => plain_any l e n W)
  have CW := Lib.hid (fun W => rwrong_any now q d t l e n W)
  have CW0 := Lib.hid (fun W => rwrong_any 0 q d t l e n W)
  have a0 : ∀ y, checkE q d t = 0 → allE y q d t l e n = if timeE y = 0 then numE l e n else timeE y := fun y hc => by unfold allE; rw [if_pos hc]
  have a1 : ∀ y, checkE q d t ≠ 0 → allE y q d t l e n ≠ 0 := fun y hc => by unfold allE; rw [if_neg hc]; decide
  by_cases hN' : numE l e n ≠ 0
  · have b0 : ∀ y, allE y q d t l e n ≠ 0 := fun y => by
      by_cases hc : checkE q d t = 0
      · rw [a0 y hc]
        by_cases hy : timeE y = 0
        · rw [if_pos hy]; exact hN'
        · rw [if_neg hy]; exact hy
      · exact a1 y hc
    exact spends_n_1h now q d t l e n _ (eqz_no hN') (neq_yes hN') (Lib.hid fun W => charge_bad1 l e n now hN' W) (Lib.hid CK) CP _ (neq_yes (b0 now)) CW (Lib.hid fun W => refill_bad now q d t l e n (b0 now) W) _ (neq_yes (b0 0)) (Lib.hid fun W => clag_bad q d t l e n (b0 0) W) CW0 awC6 w
  have hN : numE l e n = 0 := Decidable.not_not.1 hN'
  obtain ⟨⟨l0, l1⟩, ⟨e0, e1⟩, x0, x1⟩ := numE_may hN
  rw [hN] at CK
  have CK := Lib.hid CK
  by_cases hA : allE now q d t l e n = 0
  · have ok := allE_may hA
    have CR := refill_any now q d t l e n ok
    have CX := rrefill_any now q d t l e n ok
    rw [hA] at CW
    rw [ok.at0.all] at CW0
    unfold Ans3 at CR CX
    have CPr := Lib.hid (fun W => plain_any (refillR now q d t l e n).1.1 (refillR now q d t l e n).1.2.1 (refillR now q d t l e n).1.2.2 W)
    have CL := Lib.hid (fun W => clag_ok q d t l e n ok.at0 W)
    have CLr := Lib.hid (fun W => rlag_ok q d t l e n ok.at0 W)
    have n0 := ok.n0
    by_cases h2 : l + 1073741824 < now
    · exact spends_b_23 now q d t l e n l0 l1 (decide_eq_false (by omega)) (decide_eq_true h2) (Lib.hid fun W => charge_bad2 l e n now hN l0 l1 (.inr h2) W) CK CP _ _ _ _ CW CR CX CPr _ CL CW0 CLr awC6 w
    · exact spends_k_23 now q d t l e n l0 l1 n0 (by omega) (by omega) (decide_eq_false (by omega)) (decide_eq_false h2) (Lib.hid fun W => charge_ok l e n now hN l0 l1 n0 (by omega) W) CK CP _ _ _ _ CW CR CX CPr _ CL CW0 CLr awC6 w
  · have CR := Lib.hid (fun W => refill_bad now q d t l e n hA W)
    by_cases hc : checkE q d t = 0
    · have ok0 : Ok6 0 q d t l e n := by
        refine allE_may ?_
        rw [a0 0 hc, if_pos (timeE_ok (by omega) (by omega))]
        exact hN
      rw [ok0.all] at CW0
      have CL := Lib.hid (fun W => clag_ok q d t l e n ok0 W)
      have CLr := Lib.hid (fun W => rlag_ok q d t l e n ok0 W)
      by_cases h1 : now < 0
      · exact spends_a_13 now q d t l e n (decide_eq_true h1) (Lib.hid fun W => charge_bad2 l e n now hN l0 l1 (.inl h1) W) CK CP _ (neq_yes hA) CW CR _ CL CW0 CLr awC6 w
      by_cases h2 : l + 1073741824 < now
      · exact spends_b_13 now q d t l e n l0 l1 (decide_eq_false h1) (decide_eq_true h2) (Lib.hid fun W => charge_bad2 l e n now hN l0 l1 (.inr h2) W) CK CP _ (neq_yes hA) CW CR _ CL CW0 CLr awC6 w
      · exact spends_k_13 now q d t l e n l0 l1 (by omega) (by omega) (by omega) (decide_eq_false h1) (decide_eq_false h2) (Lib.hid fun W => charge_ok l e n now hN l0 l1 (by omega) (by omega) W) CK CP _ (neq_yes hA) CW CR _ CL CW0 CLr awC6 w
    · have b0 := a1 0 hc
      have CL := Lib.hid (fun W => clag_bad q d t l e n b0 W)
      by_cases h1 : now < 0
      · exact spends_a_1h now q d t l e n (decide_eq_true h1) (Lib.hid fun W => charge_bad2 l e n now hN l0 l1 (.inl h1) W) CK CP _ (neq_yes hA) CW CR _ (neq_yes b0) CL CW0 awC6 w
      by_cases h2 : l + 1073741824 < now
      · exact spends_b_1h now q d t l e n l0 l1 (decide_eq_false h1) (decide_eq_true h2) (Lib.hid fun W => charge_bad2 l e n now hN l0 l1 (.inr h2) W) CK CP _ (neq_yes hA) CW CR _ (neq_yes b0) CL CW0 awC6 w
      · exact spends_k_1h now q d t l e n l0 l1 (by omega) (by omega) (by omega) (decide_eq_false h1) (decide_eq_false h2) (Lib.hid fun W => charge_ok l e n now hN l0 l1 (by omega) (by omega) W) CK CP _ (neq_yes hA) CW CR _ (neq_yes b0) CL CW0 awC6 w
end Go.Proofs.YtbkdfbddcfglgaaRRR
