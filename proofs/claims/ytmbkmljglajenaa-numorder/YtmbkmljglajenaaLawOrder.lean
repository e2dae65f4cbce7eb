/-
  The walk of NumOrder.
-/
import Derived.Test.YtmbkmljglajenaaAwake
import Derived.Test.YtmbkmljglajenaaSumK
namespace Go.Proofs.Ytmbkmljglajenaa
open Go.RowKit
set_option linter.unusedVariables false

/-- A number of the law's range. -/
def InM (a : Int) : Prop := -1000000 ≤ a ∧ a ≤ 1000000

set_option maxRecDepth 20000 in
set_option maxHeartbeats 4000000 in
theorem order_core (a b c x ab bc p : Int) (e1 : Hid (InM b → InM c → wrap64 (b * c) = bc)) (e2 : Hid (InM a → InM b → wrap64 (a * b) = ab))
    (c1 : Hid (InM a → InM b → InM c → ∀ G cap W, ThreeAt W G a b c → Calls Try.prog 12 #[.slice (some ⟨G, 0, none⟩) 3 cap] W fun E w' => E = .returned (.tuple #[.int .i64 (a + b + c), .int .i64 0]) ∧ W = w'))
    (c2 : Hid (InM a → InM b → InM c → ∀ G cap W, ThreeAt W G c a b → Calls Try.prog 12 #[.slice (some ⟨G, 0, none⟩) 3 cap] W fun E w' => E = .returned (.tuple #[.int .i64 (a + b + c), .int .i64 0]) ∧ W = w'))
    (c3 : Hid (InM a → InM b → ∀ W, Calls Try.prog 18 #[.int .i64 a, .int .i64 b] W fun E w' => E = .returned (.tuple #[.int .i64 ab, .int .i64 0]) ∧ Below W.heap.size W w'))
    (c4 : Hid (InM a → InM b → ∀ W, Calls Try.prog 18 #[.int .i64 b, .int .i64 a] W fun E w' => E = .returned (.tuple #[.int .i64 ab, .int .i64 0]) ∧ Below W.heap.size W w'))
    (c5 : Hid (InM a → InM b → InM c → ∀ W, Calls Try.prog 18 #[.int .i64 ab, .int .i64 c] W fun E w' => E = .returned (.tuple #[.int .i64 p, .int .i64 0]) ∧ Below W.heap.size W w'))
    (c6 : Hid (InM a → InM b → InM c → ∀ W, Calls Try.prog 18 #[.int .i64 a, .int .i64 bc] W fun E w' => E = .returned (.tuple #[.int .i64 p, .int .i64 0]) ∧ Below W.heap.size W w'))
    (c7 : Hid (∀ W, Calls Try.prog 18 #[.int .i64 x, .int .i64 1] W fun E w' => E = .returned (.tuple #[.int .i64 x, .int .i64 0]) ∧ Below W.heap.size W w'))
    (c8 : Hid (∀ G cap W, TwoAt W G x 0 → Calls Try.prog 12 #[.slice (some ⟨G, 0, none⟩) 2 cap] W fun E w' => E = .returned (.tuple #[.int .i64 x, .int .i64 0]) ∧ W = w'))
    (c9 : Hid (∀ G cap W, OneAt W G x → Calls Try.prog 12 #[.slice (some ⟨G, 0, none⟩) 1 cap] W fun E w' => E = .returned (.tuple #[.int .i64 x, .int .i64 0]) ∧ W = w'))
    (c10 : Hid (∀ W, Calls Try.prog 11 #[] W fun E w' => E = .returned (.bool true) ∧ Below W.heap.size W w')) (w : World) :
    Calls Try.prog 8 #[.agg #[.int .i64 a, .int .i64 b, .int .i64 c], .int .i64 x] w fun E w' => E = .returned (.bool true) ∧ Below w.heap.size w w' := by
  go_enter Try.func8, Try.ntmps8
  go_wp2_with fail
  go_loop [5] (fun i => ∃ k : Nat, k ≤ 3 ∧ i = .int .i64 k ∧ Hid ((1 ≤ k → InM a) ∧ (2 ≤ k → InM b) ∧ (3 ≤ k → InM c))) (fun i => 3 - (intOf i).toNat)
  case atStart => exact ⟨0, by omega, rfl, by omega, by omega, by omega⟩
  case round =>
    obtain ⟨k, hk, rfl, HK⟩ := hrel
    obtain rfl | rfl | rfl | rfl : k = 0 ∨ k = 1 ∨ k = 2 ∨ k = 3 := by omega
    · by_cases h1 : a < -1000000
      · have h1' : decide (a < -1000000) = true := by simpa using h1
        go_wp2_with (go_at_call 11; refine (c10.out _).mono ?_; rintro E w' ⟨rfl, hb1⟩)
        go_ret
        exact ⟨rfl, below_alloc hb1⟩
      have h1' : decide (a < -1000000) = false := by simpa using h1
      by_cases h2 : 1000000 < a
      · have h2' : decide (1000000 < a) = true := by simpa using h2
        go_wp2_with (go_at_call 11; refine (c10.out _).mono ?_; rintro E w' ⟨rfl, hb1⟩)
        go_ret
        exact ⟨rfl, below_alloc hb1⟩
      have h2' : decide (1000000 < a) = false := by simpa using h2
      have HA : Hid (InM a) := ⟨by omega, by omega⟩
      clear h1 h2
      go_wp2_with fail
      exact ⟨⟨1, by omega, by go_num, fun _ => HA.out, by omega, by omega⟩, by simp [intOf]⟩
    · by_cases h1 : b < -1000000
      · have h1' : decide (b < -1000000) = true := by simpa using h1
        go_wp2_with (go_at_call 11; refine (c10.out _).mono ?_; rintro E w' ⟨rfl, hb1⟩)
        go_ret
        exact ⟨rfl, below_alloc hb1⟩
      have h1' : decide (b < -1000000) = false := by simpa using h1
      by_cases h2 : 1000000 < b
      · have h2' : decide (1000000 < b) = true := by simpa using h2
        go_wp2_with (go_at_call 11; refine (c10.out _).mono ?_; rintro E w' ⟨rfl, hb1⟩)
        go_ret
        exact ⟨rfl, below_alloc hb1⟩
      have h2' : decide (1000000 < b) = false := by simpa using h2
      have HA : Hid (InM b) := ⟨by omega, by omega⟩
      clear h1 h2
      go_wp2_with fail
      exact ⟨⟨2, by omega, by go_num, fun _ => HK.out.1 (by omega), fun _ => HA.out, by omega⟩, by simp [intOf]⟩
    · by_cases h1 : c < -1000000
      · have h1' : decide (c < -1000000) = true := by simpa using h1
        go_wp2_with (go_at_call 11; refine (c10.out _).mono ?_; rintro E w' ⟨rfl, hb1⟩)
        go_ret
        exact ⟨rfl, below_alloc hb1⟩
      have h1' : decide (c < -1000000) = false := by simpa using h1
      by_cases h2 : 1000000 < c
      · have h2' : decide (1000000 < c) = true := by simpa using h2
        go_wp2_with (go_at_call 11; refine (c10.out _).mono ?_; rintro E w' ⟨rfl, hb1⟩)
        go_ret
        exact ⟨rfl, below_alloc hb1⟩
      have h2' : decide (1000000 < c) = false := by simpa using h2
      have HA : Hid (InM c) := ⟨by omega, by omega⟩
      clear h1 h2
      go_wp2_with fail
      exact ⟨⟨3, by omega, by go_num, fun _ => HK.out.1 (by omega), fun _ => HK.out.2.1 (by omega), fun _ => HA.out⟩, by simp [intOf]⟩
    · have ha := HK.out.1 (by omega)
      have hb := HK.out.2.1 (by omega)
      have hc := HK.out.2.2 (by omega)
      have E1 := e1.out hb hc
      have E2 := e2.out ha hb
      have d1 := Lib.hid (c1.out ha hb hc)
      have d2 := Lib.hid (c2.out ha hb hc)
      have d3 := Lib.hid (c3.out ha hb)
      have d4 := Lib.hid (c4.out ha hb)
      have d5 := Lib.hid (c5.out ha hb hc)
      have d6 := Lib.hid (c6.out ha hb hc)
      obtain ⟨a0, a1⟩ := ha
      obtain ⟨b0, b1⟩ := hb
      obtain ⟨c0, c1'⟩ := hc
      clear HK e1 e2 c1 c2 c3 c4 c5 c6
      go_wp2_with fail
      refine (d1.out _ _ _ ?h1).mono ?_
      case h1 => exact ⟨by simp, by simp [go_sem], by simp [go_sem], by simp [go_sem]⟩
      rintro E w' ⟨rfl, rfl⟩
      go_wp2_with fail
      refine (d2.out _ _ _ ?h2).mono ?_
      case h2 => exact ⟨by simp, by simp [go_sem], by simp [go_sem], by simp [go_sem]⟩
      rintro E w' ⟨rfl, rfl⟩
      go_wp2_with fail
      refine (d3.out _).mono ?_
      rintro E w1 ⟨rfl, hb1⟩
      obtain ⟨hc1, _⟩ := bcell hb1
      have hz1 : w.heap.size < w1.heap.size := by have := hb1.size; simp at this; omega
      go_wp2_with fail
      refine (d4.out _).mono ?_
      rintro E w2 ⟨rfl, hb2⟩
      obtain ⟨hc2, _⟩ := bcell hb2
      have hz2 : w.heap.size < w2.heap.size := by have := hb2.size; omega
      go_wp2_with fail
      refine (d5.out _).mono ?_
      rintro E w3 ⟨rfl, hb3⟩
      obtain ⟨hc3, _⟩ := bcell hb3
      have hz3 : w.heap.size < w3.heap.size := by have := hb3.size; omega
      go_wp2_with fail
      refine (d6.out _).mono ?_
      rintro E w4 ⟨rfl, hb4⟩
      obtain ⟨hc4, _⟩ := bcell hb4
      have hz4 : w.heap.size < w4.heap.size := by have := hb4.size; omega
      go_wp2_with fail
      refine (c7.out _).mono ?_
      rintro E w5 ⟨rfl, hb5⟩
      go_wp2_with fail
      refine (c8.out _ _ _ ?h8).mono ?_
      case h8 => exact ⟨by simp, by simp [go_sem], by simp [go_sem]⟩
      rintro E w' ⟨rfl, rfl⟩
      go_wp2_with fail
      refine (c9.out _ _ _ ?h9).mono ?_
      case h9 => exact ⟨by simp, by simp [go_sem]⟩
      rintro E w' ⟨rfl, rfl⟩
      go_wp2_with fail
      refine (c10.out _).mono ?_
      rintro E w6 ⟨rfl, hb6⟩
      go_wp2
      go_ret
      have q1 : Below w.heap.size w w1 := below_alloc (below_alloc (below_alloc hb1))
      have q5 : Below w.heap.size w w5 := q1.trans ((((hb2.trans (hb3.mono hb2.size)).trans (hb4.mono (Nat.le_trans hb2.size hb3.size))).trans (hb5.mono (Nat.le_trans hb2.size (Nat.le_trans hb3.size hb4.size)))).mono q1.size)
      exact ⟨rfl, q5.trans ((below_alloc (below_alloc hb6)).mono q5.size)⟩

theorem mul_mag {a b : Int} {A B : Nat} (ha : a.natAbs ≤ A) (hb : b.natAbs ≤ B) : (a * b).natAbs ≤ A * B := by
  rw [Int.natAbs_mul]; exact Nat.mul_le_mul ha hb
theorem mulR_ok {a b : Int} (h : (a * b).natAbs ≤ 9223372036854775807) : mulR a b = (a * b, 0) := if_pos (by omega)
theorem sumR_three {a b c : Int} (ha : InM a) (hb : InM b) (hc : InM c) : sumR 0 [a, b, c] = (a + b + c, 0) := by
  obtain ⟨a0, a1⟩ := ha
  obtain ⟨b0, b1⟩ := hb
  obtain ⟨c0, c1⟩ := hc
  show (if -9223372036854775808 ≤ 0 + a ∧ 0 + a ≤ 9223372036854775807 then (if -9223372036854775808 ≤ 0 + a + b ∧ 0 + a + b ≤ 9223372036854775807 then (if -9223372036854775808 ≤ 0 + a + b + c ∧ 0 + a + b + c ≤ 9223372036854775807 then (0 + a + b + c, 0) else (0, 11)) else (0, 11)) else (0, 11)) = (a + b + c, (0 : Int))
  rw [if_pos (by omega), if_pos (by omega), if_pos (by omega), Int.zero_add]
theorem is64_of {a : Int} (h : InM a) : Is64 a := ⟨by have := h.1; omega, by have := h.2; omega⟩
theorem is64_mag {a : Int} (h : a.natAbs ≤ 9223372036854775807) : Is64 a := ⟨by omega, by omega⟩
theorem wrap64_mag {a : Int} (h : a.natAbs ≤ 9223372036854775807) : wrap64 a = a := by unfold wrap64; omega
theorem mag {a : Int} (h : InM a) : a.natAbs ≤ 1000000 := by obtain ⟨h0, h1⟩ := h; omega

theorem walk_NumOrder (a b c x : Int) (w : World) (_ha : -9223372036854775808 ≤ a ∧ a ≤ 9223372036854775807) (_hb : -9223372036854775808 ≤ b ∧ b ≤ 9223372036854775807) (_hc : -9223372036854775808 ≤ c ∧ c ≤ 9223372036854775807) (hx : -9223372036854775808 ≤ x ∧ x ≤ 9223372036854775807) :
    Calls Try.prog 8 #[.agg #[.int .i64 a, .int .i64 b, .int .i64 c], .int .i64 x] w fun E w' => E = .returned (.bool true) ∧ Below w.heap.size w w' := by
  refine order_core a b c x (a * b) (b * c) (a * b * c) ?_ ?_ ?_ ?_ ?_ ?_ ?_ ?_ ?_ ?_ ?_ (Lib.hid fun W => awake_any W) w
  · intro hb hc
    have := mul_mag (mag hb) (mag hc)
    exact wrap64_mag (by omega)
  · intro ha hb
    have := mul_mag (mag ha) (mag hb)
    exact wrap64_mag (by omega)
  · intro ha hb hc G cap W hW
    have := sum_three_at a b c (is64_of ha) (is64_of hb) (is64_of hc) G cap W hW
    rw [sumR_three ha hb hc] at this
    exact this
  · intro ha hb hc G cap W hW
    have := sum_three_at c a b (is64_of hc) (is64_of ha) (is64_of hb) G cap W hW
    rw [sumR_three hc ha hb, show c + a + b = a + b + c by omega] at this
    exact this
  · intro ha hb W
    have m := mul_mag (mag ha) (mag hb)
    have := mul_any a b (is64_of ha).1 (is64_of ha).2 (is64_of hb).1 (is64_of hb).2 W
    rw [mulR_ok (by omega)] at this
    exact this
  · intro ha hb W
    have m := mul_mag (mag hb) (mag ha)
    have := mul_any b a (is64_of hb).1 (is64_of hb).2 (is64_of ha).1 (is64_of ha).2 W
    rw [mulR_ok (by omega), Int.mul_comm b a] at this
    exact this
  · intro ha hb hc W
    have m := mul_mag (mag ha) (mag hb)
    have m3 := mul_mag m (mag hc)
    have h1 := is64_mag (a := a * b) (by omega)
    have := mul_any (a * b) c h1.1 h1.2 (is64_of hc).1 (is64_of hc).2 W
    rw [mulR_ok (by omega)] at this
    exact this
  · intro ha hb hc W
    have m := mul_mag (mag hb) (mag hc)
    have m3 := mul_mag (mag ha) m
    have h1 := is64_mag (a := b * c) (by omega)
    have := mul_any a (b * c) (is64_of ha).1 (is64_of ha).2 h1.1 h1.2 W
    rw [mulR_ok (by omega), ← Int.mul_assoc] at this
    exact this
  · intro W
    have := mul_any x 1 hx.1 hx.2 (by decide) (by decide) W
    have e : mulR x 1 = (x, 0) := by
      unfold mulR
      rw [Int.mul_one, if_pos hx]
    rw [e] at this
    exact this
  · intro G cap W hW
    have := sum_two_at x 0 hx ⟨by decide, by decide⟩ G cap W hW
    have e : sumR 0 [x, 0] = (x, 0) := by
      rw [sumR_pair, Int.zero_add, if_pos hx, Int.add_zero, if_pos hx]
    rw [e] at this
    exact this
  · intro G cap W hW
    have := sum_one_at x hx G cap W hW
    have e : sumR 0 [x] = (x, 0) := by
      show (if -9223372036854775808 ≤ 0 + x ∧ 0 + x ≤ 9223372036854775807 then (0 + x, 0) else (0, 11)) = (x, (0 : Int))
      rw [Int.zero_add, if_pos hx]
    rw [e] at this
    exact this
end Go.Proofs.Ytmbkmljglajenaa
