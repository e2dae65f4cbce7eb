/-
  The walk of NumSums.
-/
import Derived.Test.YtmbkmljglajenaaLawWide
import Derived.Test.YtmbkmljglajenaaDigS
namespace Go.Proofs.Ytmbkmljglajenaa
open Go.RowKit
set_option linter.unusedVariables false

theorem RowI.next {W W' : World} {a : Option Addr} {zs : List Int} (h : RowI W a zs) (hb : Below W.heap.size W W') : RowI W' a zs := by
  rcases h with h | ⟨g, o, ha, hg, hc⟩
  · exact .inl h
  · exact .inr ⟨g, o, ha, Nat.lt_of_lt_of_le hg hb.size, fun i hi => (hb.cell (p := ⟨g, o + i, none⟩) hg).trans (hc i hi)⟩

/-- What is told behind k of the numbers: those above 0 make H, those below 0 make L. -/
def SumSt (ys : List Int) (k H L : Nat) (o : Bool) : Prop :=
  (o = false → Is64 ((H : Int) - (L : Int)) ∧ sumR 0 ys = sumR ((H : Int) - (L : Int)) (ys.drop k)) ∧ (o = true → sumR 0 ys = (0, 11))
theorem SumSt.start (ys : List Int) : SumSt ys 0 0 0 false := ⟨fun _ => ⟨⟨by omega, by omega⟩, rfl⟩, fun h => by cases h⟩
theorem SumSt.keep {ys : List Int} {k H L H' L' : Nat} {o : Bool} {m : Int} (h : SumSt ys k H L o) (hk : k < ys.length) (hm : ys.getD k 0 = m)
    (he : (H' : Int) - (L' : Int) = (H : Int) - (L : Int) + m) (h1 : H' < L' + 9223372036854775808) (h2 : ¬ H' + 9223372036854775808 < L') : SumSt ys (k + 1) H' L' o := by
  refine ⟨fun ho => ?_, h.2⟩
  obtain ⟨_, e⟩ := h.1 ho
  rw [sumR_cons ys k _ hk, hm, ← he, if_pos (by omega)] at e
  exact ⟨⟨by omega, by omega⟩, e⟩
theorem SumSt.over {ys : List Int} {k H L H' L' : Nat} {o : Bool} {m : Int} (h : SumSt ys k H L o) (hk : k < ys.length) (hm : ys.getD k 0 = m)
    (he : (H' : Int) - (L' : Int) = (H : Int) - (L : Int) + m) (h1 : ¬ H' < L' + 9223372036854775808 ∨ H' + 9223372036854775808 < L') : SumSt ys (k + 1) H' L' true := by
  refine ⟨fun ho => (by cases ho), fun _ => ?_⟩
  cases o with
  | true => exact h.2 rfl
  | false =>
    obtain ⟨_, e⟩ := h.1 rfl
    rw [sumR_cons ys k _ hk, hm, ← he, if_neg (by omega)] at e
    exact e
theorem SumSt.ends {ys : List Int} {H L : Nat} {o : Bool} (h : SumSt ys ys.length H L o) : (o = false ∧ Is64 ((H : Int) - (L : Int)) ∧ sumR 0 ys = ((H : Int) - (L : Int), 0)) ∨ (o = true ∧ sumR 0 ys = (0, 11)) := by
  cases o with
  | true => exact .inr ⟨rfl, h.2 rfl⟩
  | false =>
    obtain ⟨h1, h2⟩ := h.1 rfl
    rw [List.drop_length] at h2
    exact .inl ⟨rfl, h1, h2⟩

/-- The loop's relation. -/
def SumRel (w : World) (ys : List Int) (n : Nat) (ov hi lo i : Value) (wr : World) : Prop :=
  ∃ (k H L gh gl : Nat) (o : Bool), k ≤ n ∧ i = .int .i64 k ∧ ov = .bool o ∧ hi = .slice (some ⟨gh, 0, none⟩) 12 12 ∧ lo = .slice (some ⟨gl, 0, none⟩) 12 12 ∧
    NumD wr gh H ∧ NumD wr gl L ∧ H ≤ k * 9223372036854775808 ∧ L ≤ k * 9223372036854775808 ∧ SumSt ys k H L o ∧ Below w.heap.size w wr

theorem below_pow12 {n : Nat} (h : n ≤ 1000000000000000000000000) : n < 65536 ^ 12 := Nat.lt_of_le_of_lt h (by decide)
theorem of_low (n : Nat) (h : n < 18446744073709551616) (W : World) : Calls Try.prog 13 #[.int .u64 0, .int .u64 n] W (Makes W n) := by
  have c := of_any 0 n (by omega) h W
  rw [Nat.zero_mul, Nat.zero_add] at c
  exact c

/-- What the product's tests meet. -/
def ProdFacts (x y : Int) (p1 p2 : Int) (wh : Bool) (f : Nat) : Prop :=
  (wh = false ∧ p1 = 0 ∧ p2 = 11) ∨ (wh = true ∧ f = 0 ∧ p1 = 0 ∧ p2 = 0) ∨
  (wh = true ∧ f ≠ 0 ∧ p2 = 0 ∧ ∀ W, Calls Try.prog 21 #[.int .u64 f, .bool (!decide (x < 0) == decide (y < 0))] W fun e w' => e = .returned (.int .i64 p1) ∧ W = w')
theorem prod_facts (x y : Int) (hx : Is64 x) (hy : Is64 y) : ∃ (p1 p2 : Int) (wh : Bool) (f : Nat), ProdFacts x y p1 p2 wh f ∧
    (∀ W, Calls Try.prog 18 #[.int .i64 x, .int .i64 y] W fun e w' => e = .returned (.tuple #[.int .i64 p1, .int .i64 p2]) ∧ Below W.heap.size W w') ∧
    (∀ W g, NumD W g (x.natAbs * y.natAbs) → Calls Try.prog 20 #[.slice (some ⟨g, 0, none⟩) 12 12, .bool (!decide (x < 0) == decide (y < 0))] W fun e w' => e = .returned (.bool wh) ∧ W = w') ∧
    (∀ W g, NumD W g (x.natAbs * y.natAbs) → Calls Try.prog 17 #[.slice (some ⟨g, 0, none⟩) 12 12] W fun e w' => e = .returned (.int .u64 (f : Int)) ∧ W = w') := by
  have cM := fun W => mul_any x y hx.1 hx.2 hy.1 hy.2 W
  have cH := fun W g (h : NumD W g (x.natAbs * y.natAbs)) => half_any g 12 _ W h
  cases hn : (!decide (x < 0) == decide (y < 0))
  · have hp := sign_pos hn
    by_cases hf : x.natAbs * y.natAbs < 9223372036854775808
    · have e : mulR x y = (((x.natAbs * y.natAbs : Nat) : Int), 0) := by unfold mulR; rw [hp, if_pos (by omega)]
      rw [e] at cM
      have em : x.natAbs * y.natAbs % 65536 ^ 4 = x.natAbs * y.natAbs := Nat.mod_eq_of_lt (Nat.lt_trans hf (by decide))
      rw [em] at cH
      refine ⟨_, 0, true, _, ?_, cM, fun W g h => whole_yes g 12 _ false W h hf, cH⟩
      by_cases h0 : x.natAbs * y.natAbs = 0
      · rw [h0]; exact .inr (.inl ⟨rfl, rfl, rfl, rfl⟩)
      · exact .inr (.inr ⟨rfl, h0, rfl, fun W => by rw [hn]; exact minus_pos _ (by omega) W⟩)
    · have e : mulR x y = (0, 11) := by unfold mulR; rw [hp, if_neg (by omega)]
      rw [e] at cM
      exact ⟨0, 11, false, _, .inl ⟨rfl, rfl, rfl⟩, cM, fun W g h => whole_pos g 12 _ W h hf, cH⟩
  · have hp := sign_neg hn
    by_cases hf : x.natAbs * y.natAbs ≤ 9223372036854775808
    · have e : mulR x y = (-((x.natAbs * y.natAbs : Nat) : Int), 0) := by unfold mulR; rw [hp, if_pos (by omega)]
      rw [e] at cM
      have em : x.natAbs * y.natAbs % 65536 ^ 4 = x.natAbs * y.natAbs := Nat.mod_eq_of_lt (Nat.lt_of_le_of_lt hf (by decide))
      rw [em] at cH
      refine ⟨_, 0, true, _, ?_, cM, fun W g h => ?_, cH⟩
      · by_cases h0 : x.natAbs * y.natAbs = 0
        · rw [h0]; exact .inr (.inl ⟨rfl, rfl, rfl, rfl⟩)
        · refine .inr (.inr ⟨rfl, h0, rfl, fun W => ?_⟩)
          rw [hn]
          obtain ⟨n, e1⟩ : ∃ n, x.natAbs * y.natAbs = n + 1 := ⟨x.natAbs * y.natAbs - 1, by omega⟩
          rw [e1] at hf ⊢
          exact minus_neg n (by omega) W
      · by_cases h1 : x.natAbs * y.natAbs < 9223372036854775808
        · exact whole_yes g 12 _ true W h h1
        · have c := whole_neg g 12 _ W h h1
          rw [decide_eq_true (by omega)] at c
          exact c
    · have e : mulR x y = (0, 11) := by unfold mulR; rw [hp, if_neg (by omega)]
      rw [e] at cM
      refine ⟨0, 11, false, _, .inl ⟨rfl, rfl, rfl⟩, cM, fun W g h => ?_, cH⟩
      have c := whole_neg g 12 _ W h (by omega)
      rw [decide_eq_false (by omega)] at c
      exact c

/-- Half of the one without half of the other. -/
theorem halves (H L : Nat) (h : Is64 ((H : Int) - (L : Int))) : wrap64 (IntKind.u64.wrap (((H % 65536 ^ 4 : Nat) : Int) - ((L % 65536 ^ 4 : Nat) : Int))) = (H : Int) - (L : Int) := by
  obtain ⟨h0, h1⟩ := h
  rw [show (65536 : Nat) ^ 4 = 18446744073709551616 from rfl]
  rw [IntKind.wrap_u64]; unfold wrap64; omega
end Go.Proofs.Ytmbkmljglajenaa
