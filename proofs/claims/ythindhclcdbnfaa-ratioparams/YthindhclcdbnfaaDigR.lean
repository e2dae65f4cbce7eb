/-
  The walks of what only reads digits: Under, Half, Small, Fits, Whole.
-/
import Derived.Test.YthindhclcdbnfaaDigW
namespace Go.Proofs.Ythindhclcdbnfaa
open Go.RowKit
set_option linter.unusedVariables false

/-- A slice of twelve digits of a number. -/
def NumD (W : World) (g : Nat) (A : Nat) : Prop := RowD W g (digs 12 A) ∧ A < 65536 ^ 12
theorem NumD.next {W W' : World} {g A : Nat} (h : NumD W g A) (hb : Below W.heap.size W W') : NumD W' g A := ⟨h.1.next hb, h.2⟩
theorem NumD.drewN {W : World} {g A : Nat} (h : NumD W g A) (n : Nat) : NumD (W.drewN n) g A := h
theorem NumD.at_ {W : World} {g A : Nat} (h : NumD W g A) (j : Nat) (hj : j < 12) : W.cell? ⟨g, j, none⟩ = some (.int .i64 ((A / 65536 ^ j % 65536 : Nat) : Int)) := by
  have := h.1.2 j (by rw [digs_length]; exact hj)
  rw [digs_at 12 A j hj] at this
  exact this

/-- The loop of Under, from digit k on downwards. -/
def UndRel (w : World) (A B : Nat) (i : Value) (wr : World) : Prop :=
  ∃ k n : Nat, k ≤ 12 ∧ i = .int .i64 ((k : Int) - 1) ∧ A / 65536 ^ k = B / 65536 ^ k ∧ wr = w.drewN n

set_option maxHeartbeats 1000000 in
theorem under_any (ga gb ca cb A B : Nat) (w : World) (ha : NumD w ga A) (hb : NumD w gb B) :
    Calls Try.prog 35 #[.slice (some ⟨ga, 0, none⟩) 12 ca, .slice (some ⟨gb, 0, none⟩) 12 cb] w fun e w' => e = .returned (.bool (decide (A < B))) ∧ ∃ n, w' = w.drewN n := by
  have Ha := Lib.hid ha
  have Hb := Lib.hid hb
  clear ha hb
  go_enter Try.func35, Try.ntmps35
  go_wp2
  go_loopw [5] (fun i wr => UndRel w A B i wr) (fun i _ => (intOf i + 1).toNat)
  case atStart => exact ⟨12, 0, by omega, rfl, by rw [Nat.div_eq_of_lt Ha.out.2, Nat.div_eq_of_lt Hb.out.2], rfl⟩
  case round =>
    obtain ⟨k, n, hk, rfl, hq, rfl⟩ := hrel
    have Hq := Lib.hid hq
    clear hq
    rcases k with _ | j
    · have e : decide (A < B) = false := by
        have := Hq.out
        rw [Nat.pow_zero, Nat.div_one, Nat.div_one] at this
        rw [this]; simp
      rw [show ((0 : Nat) : Int) - 1 = -1 by omega]
      have He := Lib.hid e
      clear e
      go_wp2
      go_ret
      exact ⟨by rw [He.out]; rfl, n, rfl⟩
    · rw [show ((j + 1 : Nat) : Int) - 1 = (j : Int) by omega]
      have hj : j < 12 := by omega
      have h1 := Ha.out.at_ j hj
      have h2 := Hb.out.at_ j hj
      have Hup := Lib.hid (eq_up A B j Hq.out)
      have Hlt := Lib.hid (lt_by_digit A B j Hq.out)
      have Hgt := Lib.hid (lt_by_digit B A j Hq.out.symm)
      generalize A / 65536 ^ j % 65536 = x at *
      generalize B / 65536 ^ j % 65536 = y at *
      by_cases hxy : x = y
      · subst hxy
        go_wp2
        go_quiet (fail)
        go_wp2
        refine ⟨⟨j, _, by omega, by go_num, Hup.out (by first | rfl | trivial), rfl⟩, by simp [intOf]⟩
      · have hne : ((x : Int) != (y : Int)) = true := by simp; omega
        have e : decide (A < B) = decide (x < y) := by
          rw [decide_eq_decide]
          rcases Nat.lt_or_ge x y with h | h
          · exact ⟨fun _ => by omega, fun _ => Hlt.out h⟩
          · have := Hgt.out (by omega)
            exact ⟨fun _ => by omega, fun _ => by omega⟩
        have He := Lib.hid e
        clear e hxy Hup Hlt Hgt Hq
        go_wp2
        go_quiet (fail)
        go_wp2
        go_quiet (fail)
        go_wp2
        go_ret
        exact ⟨by rw [He.out]; rfl, _, by rw [World.drewN_drewN, World.drewN_drewN]⟩

/-- The lowest 64 bits, by digits from the fourth one down. -/
def HalfRel (A : Nat) (n i : Value) : Prop :=
  ∃ k : Nat, k ≤ 4 ∧ i = .int .i64 ((k : Int) - 1) ∧ n = .int .u64 ((A % 65536 ^ 4 / 65536 ^ k : Nat) : Int)

theorem half_step (A j : Nat) (hj : j < 4) : A % 65536 ^ 4 / 65536 ^ j = A % 65536 ^ 4 / 65536 ^ (j + 1) * 65536 + A / 65536 ^ j % 65536 := by
  have e1 : A % 65536 ^ 4 / 65536 ^ (j + 1) = A % 65536 ^ 4 / 65536 ^ j / 65536 := by rw [Nat.div_div_eq_div_mul, ← Nat.pow_succ]
  have e2 : A % 65536 ^ 4 / 65536 ^ j % 65536 = A / 65536 ^ j % 65536 := by
    have h4 : (65536 : Nat) ^ 4 = 65536 ^ j * (65536 * 65536 ^ (3 - j)) := by
      rw [← Nat.pow_succ', ← Nat.pow_add, show j + (3 - j + 1) = 4 by omega]
    rw [h4, Nat.mod_mul_right_div_self, Nat.mod_mul_right_mod]
  omega

theorem small_of (A N : Nat) (hN : N ≤ 12) (hA : A < 65536 ^ 12) (h : ∀ j, N ≤ j → j < 12 → A / 65536 ^ j % 65536 = 0) : A < 65536 ^ N := by
  have key : ∀ d, d ≤ 12 - N → A < 65536 ^ (12 - d) := by
    intro d
    induction d with
    | zero => intro _; exact hA
    | succ d ih =>
      intro hd
      have h1 := ih (by omega)
      have h2 := h (12 - (d + 1)) (by omega) (by omega)
      have e : 12 - d = (12 - (d + 1)) + 1 := by omega
      rw [e, Nat.pow_succ] at h1
      have h3 : A / 65536 ^ (12 - (d + 1)) < 65536 := (Nat.div_lt_iff_lt_mul (Nat.pow_pos (by decide))).2 (by rw [Nat.mul_comm]; exact h1)
      rw [Nat.mod_eq_of_lt h3] at h2
      exact (Nat.div_eq_zero_iff_lt (Nat.pow_pos (by decide))).1 h2
  have := key (12 - N) (Nat.le_refl _)
  rw [show 12 - (12 - N) = N by omega] at this
  exact this

end Go.Proofs.Ythindhclcdbnfaa
