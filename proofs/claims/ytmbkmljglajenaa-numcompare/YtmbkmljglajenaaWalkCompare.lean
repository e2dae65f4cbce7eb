/-
  NumCompare, for every input.
-/
import Derived.Test.YtmbkmljglajenaaLawCompare
namespace Go.Proofs.Ytmbkmljglajenaa
open Go.RowKit
set_option linter.unusedVariables false

/-- The quotients' order: a number more above, a number more below, and rounded up. -/
theorem quot_facts (a b c : Nat) (ha : a ≤ 1048576) (hb : b ≤ 1099511627776) (hc : 0 < c) :
    a * b / c ≤ (a + 1) * b / c ∧ a * b / (c + 1) ≤ a * b / c ∧ a * b / c ≤ divQ a b c true ∧ divQ a b c true ≤ a * b / c + 1 ∧ (a + 1) * b / c ≤ 1152922604118474752 := by
  refine ⟨Nat.div_le_div_right (Nat.mul_le_mul_right _ (by omega)), Nat.div_le_div_left (by omega) hc, divQ_le a b c true, ?_, ?_⟩
  · unfold divQ; split <;> omega
  · refine Nat.le_trans (Nat.div_le_self _ _) (Nat.le_trans (Nat.mul_le_mul (show a + 1 ≤ 1048577 by omega) hb) ?_)
    decide
theorem divR_fits (a b c : Nat) (up : Bool) (hc : 0 < c) (h : divQ a b c up ≤ 9223372036854775807) : divR a b c up = ((divQ a b c up : Int), 0) := by
  rw [divR_of a b c up hc, if_pos h]

/-- A sum of two wide numbers is the same both ways round. -/
theorem adds_same (ah al bh bl : Int) (h1 : 0 ≤ ah ∧ ah ≤ 18446744073709551615) (h2 : 0 ≤ al ∧ al ≤ 18446744073709551615) (h3 : 0 ≤ bh ∧ bh ≤ 18446744073709551615) (h4 : 0 ≤ bl ∧ bl ≤ 18446744073709551615) :
    ∃ hh lo er : Int, (∀ W, Calls Try.prog 25 #[.agg #[.int .u64 ah, .int .u64 al], .agg #[.int .u64 bh, .int .u64 bl]] W fun E w' => E = .returned (.tuple #[.agg #[.int .u64 hh, .int .u64 lo], .int .i64 er]) ∧ Below W.heap.size W w') ∧
      (∀ W, Calls Try.prog 25 #[.agg #[.int .u64 bh, .int .u64 bl], .agg #[.int .u64 ah, .int .u64 al]] W fun E w' => E = .returned (.tuple #[.agg #[.int .u64 hh, .int .u64 lo], .int .i64 er]) ∧ Below W.heap.size W w') := by
  have ec : carS bl al = carS al bl := by unfold carS; rw [Int.add_comm]
  have el : lowS bl al = lowS al bl := by unfold lowS; rw [Int.add_comm]
  have eh : ∀ c, higS bh ah c = higS ah bh c := fun c => by unfold higS; rw [Int.add_comm bh ah]
  have eo : ∀ c, outS bh ah c = outS ah bh c := fun c => by unfold outS; rw [Int.add_comm bh ah]
  have hc0 : 0 ≤ carS al bl := by unfold carS; omega
  have hc1 : carS al bl ≤ 1 := by unfold carS; omega
  have ho : outS ah bh (carS al bl) = 0 ∨ outS ah bh (carS al bl) = 1 := by unfold outS; omega
  rcases ho with ho | ho
  · refine ⟨_, _, 0, fun W => wadd_ok ah al bh bl h1.1 h2.1 h3.1 h4.1 hc0 hc1 ho W, fun W => ?_⟩
    have := wadd_ok bh bl ah al h3.1 h4.1 h1.1 h2.1 (by rw [ec]; exact hc0) (by rw [ec]; exact hc1) (by rw [ec, eo]; exact ho) W
    rw [ec, el, eh] at this
    exact this
  · exact ⟨0, 0, 11, fun W => wadd_over ah al bh bl h1.1 h2.1 h3.1 h4.1 hc0 hc1 ho W, fun W => wadd_over bh bl ah al h3.1 h4.1 h1.1 h2.1 (by rw [ec]; exact hc0) (by rw [ec]; exact hc1) (by rw [ec, eo]; exact ho) W⟩

theorem less_at (a b c d : Int) (ha : InT a) (hb : InT b) (hc : InT c) (hd : InT d) (x : Bool) (hx : decide (a.toNat * b.toNat < c.toNat * d.toNat) = x) (W : World) :
    Calls Try.prog 23 #[.int .i64 a, .int .i64 b, .int .i64 c, .int .i64 d] W fun E w' => E = .returned (.tuple #[.bool x, .int .i64 0]) ∧ Below W.heap.size W w' := by
  obtain ⟨a, rfl⟩ := Int.eq_ofNat_of_zero_le ha.1
  obtain ⟨b, rfl⟩ := Int.eq_ofNat_of_zero_le hb.1
  obtain ⟨c, rfl⟩ := Int.eq_ofNat_of_zero_le hc.1
  obtain ⟨d, rfl⟩ := Int.eq_ofNat_of_zero_le hd.1
  have h1 := ha.2
  have h2 := hb.2
  have h3 := hc.2
  have h4 := hd.2
  have l := less_ok a b c d (by omega) (by omega) (by omega) (by omega) W
  simp only [Int.toNat_natCast] at hx
  rw [hx] at l
  exact l

theorem div_at (a b c : Int) (up : Bool) (q : Nat) (a0 : 0 ≤ a) (a1 : a ≤ 1048577) (b0 : 0 ≤ b) (b1 : b ≤ 1099511627776) (c0 : 0 < c) (c1 : c ≤ 1099511627777) (hq : divQ a.toNat b.toNat c.toNat up = q) (hf : q ≤ 9223372036854775807) (W : World) :
    Calls Try.prog 28 #[.int .i64 a, .int .i64 b, .int .i64 c, .bool up] W fun E w' => E = .returned (.tuple #[.int .i64 (q : Int), .int .i64 0]) ∧ Below W.heap.size W w' := by
  have l := div_any a b c up ⟨by omega, by omega⟩ ⟨by omega, by omega⟩ ⟨by omega, by omega⟩ W
  obtain ⟨a, rfl⟩ := Int.eq_ofNat_of_zero_le a0
  obtain ⟨b, rfl⟩ := Int.eq_ofNat_of_zero_le b0
  obtain ⟨c, rfl⟩ := Int.eq_ofNat_of_zero_le (Int.le_of_lt c0)
  simp only [Int.toNat_natCast] at hq
  rw [divR_fits a b c up (by omega) (by rw [hq]; exact hf), hq] at l
  exact l

theorem lt_cases (a b c : Nat) : (decide (a * b < b * c) = true ∧ decide (b * c < a * b) = false ∧ 0 < b ∧ a < c) ∨ (decide (a * b < b * c) = false ∧ (b ≤ 0 ∨ c ≤ a)) := by
  rw [Nat.mul_comm b c]
  by_cases h : 0 < b ∧ a < c
  · have : a * b < c * b := Nat.mul_lt_mul_of_pos_right h.2 h.1
    exact .inl ⟨by simpa using this, by simp; omega, h.1, h.2⟩
  · refine .inr ⟨?_, by omega⟩
    rw [decide_eq_false_iff_not]
    intro h2
    apply h
    rcases Nat.eq_zero_or_pos b with e | e
    · subst e; simp at h2
    · exact ⟨e, Nat.lt_of_mul_lt_mul_right h2⟩

theorem walk_NumCompare (a b c ah al bh bl : Int) (w : World) (ha : -9223372036854775808 ≤ a ∧ a ≤ 9223372036854775807) (hb : -9223372036854775808 ≤ b ∧ b ≤ 9223372036854775807) (hc : -9223372036854775808 ≤ c ∧ c ≤ 9223372036854775807)
    (h1 : 0 ≤ ah ∧ ah ≤ 18446744073709551615) (h2 : 0 ≤ al ∧ al ≤ 18446744073709551615) (h3 : 0 ≤ bh ∧ bh ≤ 18446744073709551615) (h4 : 0 ≤ bl ∧ bl ≤ 18446744073709551615) :
    Calls Try.prog 9 #[.agg #[.int .i64 a, .int .i64 b, .int .i64 c], .agg #[.int .u64 ah, .int .u64 al], .agg #[.int .u64 bh, .int .u64 bl]] w fun E w' => E = .returned (.bool true) ∧ Below w.heap.size w w' := by
  obtain ⟨hh, lo, er, c4, c5⟩ := adds_same ah al bh bl h1 h2 h3 h4
  refine compare_core a b c ah al bh bl hh lo er ((a.toNat * b.toNat / c.toNat : Nat) : Int) (((a.toNat + 1) * b.toNat / c.toNat : Nat) : Int) ((a.toNat * b.toNat / (c.toNat + 1) : Nat) : Int) ((divQ a.toNat b.toNat c.toNat true : Nat) : Int)
    (decide (a.toNat * b.toNat < b.toNat * c.toNat)) (decide (b.toNat * c.toNat < a.toNat * b.toNat)) ?_ ?_ ?_ ?_ (Lib.hid c4) (Lib.hid c5) ?_ ?_ ?_ ?_ ?_ (Lib.hid (fun W => awake_any W)) w
  · refine Lib.hid fun ha hb hc => ?_
    have i1 := ha.1
    have i2 := hb.1
    have i3 := hc.1
    rcases lt_cases a.toNat b.toNat c.toNat with ⟨e1, e2, e3, e4⟩ | ⟨e1, e2⟩
    · exact .inl ⟨e1, e2, by omega, by omega⟩
    · exact .inr ⟨e1, by omega⟩
  · exact Lib.hid fun ha hb hc W => less_at a b b c ha hb hb hc _ rfl W
  · exact Lib.hid fun ha hb hc W => less_at b c a b hb hc ha hb _ rfl W
  · exact Lib.hid fun ha hb hc W => less_at a c c a ha hc hc ha false (by rw [Nat.mul_comm]; simp) W
  · refine Lib.hid fun ha hb hc hz hs => ?_
    have i1 := ha.1
    have i2 := hb.2
    have i3 := hc.1
    obtain ⟨q1, q2, q3, q4, q5⟩ := quot_facts a.toNat b.toNat c.toNat (by omega) (by omega) (by omega)
    refine ⟨by omega, by omega, by omega, by omega, Int.natCast_nonneg _, by omega⟩
  · refine Lib.hid fun ha hb hc hz hs W => ?_
    have i3 := hc.1
    have i4 := hb.2
    obtain ⟨q1, q2, q3, q4, q5⟩ := quot_facts a.toNat b.toNat c.toNat (by omega) (by omega) (by omega)
    exact div_at a b c false _ ha.1 (by omega) hb.1 hb.2 (by omega) (by have := hc.2; omega) (divQ_down _ _ _) (by omega) W
  · refine Lib.hid fun ha hb hc hz hs W => ?_
    have i1 := ha.1
    have i3 := hc.1
    have i4 := hb.2
    obtain ⟨q1, q2, q3, q4, q5⟩ := quot_facts a.toNat b.toNat c.toNat (by omega) (by omega) (by omega)
    exact div_at (a + 1) b c false _ (by omega) (by omega) hb.1 hb.2 (by omega) (by have := hc.2; omega) (by rw [divQ_down, show (a + 1).toNat = a.toNat + 1 by omega]) (by omega) W
  · refine Lib.hid fun ha hb hc hz hs W => ?_
    have i3 := hc.1
    have i4 := hb.2
    obtain ⟨q1, q2, q3, q4, q5⟩ := quot_facts a.toNat b.toNat c.toNat (by omega) (by omega) (by omega)
    exact div_at a b (c + 1) false _ ha.1 (by omega) hb.1 hb.2 (by omega) (by have := hc.2; omega) (by rw [divQ_down, show (c + 1).toNat = c.toNat + 1 by omega]) (by omega) W
  · refine Lib.hid fun ha hb hc hz hs W => ?_
    have i3 := hc.1
    have i4 := hb.2
    obtain ⟨q1, q2, q3, q4, q5⟩ := quot_facts a.toNat b.toNat c.toNat (by omega) (by omega) (by omega)
    exact div_at a b c true _ ha.1 (by omega) hb.1 hb.2 (by omega) (by have := hc.2; omega) rfl (by omega) W
end Go.Proofs.Ytmbkmljglajenaa
