/-
  The walk of NumTimes.
-/
import Derived.Test.YtmbkmljglajenaaAwake
namespace Go.Proofs.Ytmbkmljglajenaa
open Go.RowKit

theorem walk_NumTimes (t b : Int) (w : World) (ht : -9223372036854775808 ≤ t ∧ t ≤ 9223372036854775807) (hb : -9223372036854775808 ≤ b ∧ b ≤ 9223372036854775807) :
    Calls Try.prog 7 #[.int .i64 t, .int .i64 b] w fun e w' => e = .returned (.bool true) ∧ Below w.heap.size w w' := by
  obtain ⟨t0, t1⟩ := ht
  obtain ⟨b0, b1⟩ := hb
  have C3 := Lib.hid (fun W => awake_any W)
  by_cases h : t < 0
  · have c1 := fun W => after_bad t b W (.inl h)
    have c2 := fun W => time_any t W
    rw [timeE_neg h] at c1 c2
    have C1 := Lib.hid c1
    have C2 := Lib.hid c2
    clear c1 c2
    go_enter Try.func7, Try.ntmps7
    go_wp2_with (first | (go_at_call 29; refine (C1.out _).mono ?_; rintro e w' ⟨rfl, rfl⟩) | (go_at_call 30; refine (C2.out _).mono ?_; rintro e w' ⟨rfl, rfl⟩) | (go_at_call 11; refine (C3.out _).mono ?_; rintro e w' ⟨rfl, hb1⟩))
    go_ret
    exact ⟨rfl, hb1⟩
  by_cases h1 : 1099511627776 ≤ t
  · have c1 := fun W => after_bad t b W (.inr h1)
    have c2 := fun W => time_any t W
    rw [timeE_far h1] at c1 c2
    have C1 := Lib.hid c1
    have C2 := Lib.hid c2
    clear c1 c2
    go_enter Try.func7, Try.ntmps7
    go_wp2_with (first | (go_at_call 29; refine (C1.out _).mono ?_; rintro e w' ⟨rfl, rfl⟩) | (go_at_call 30; refine (C2.out _).mono ?_; rintro e w' ⟨rfl, rfl⟩) | (go_at_call 11; refine (C3.out _).mono ?_; rintro e w' ⟨rfl, hb1⟩))
    go_ret
    exact ⟨rfl, hb1⟩
  have h0 : 0 ≤ t := by omega
  have h1' : t < 1099511627776 := by omega
  have c2 := fun W => time_any t W
  rw [timeE_ok h0 h1'] at c2
  have C2 := Lib.hid c2
  clear c2 h h1
  by_cases hn : b < 0
  · have C1 := Lib.hid (fun W => after_neg t b W h0 h1' hn)
    go_enter Try.func7, Try.ntmps7
    go_wp2_with (first | (go_at_call 29; refine (C1.out _).mono ?_; rintro e w' ⟨rfl, rfl⟩) | (go_at_call 30; refine (C2.out _).mono ?_; rintro e w' ⟨rfl, rfl⟩) | (go_at_call 11; refine (C3.out _).mono ?_; rintro e w' ⟨rfl, hb1⟩))
    go_ret
    exact ⟨rfl, hb1⟩
  by_cases hs : 1099511627776 - t ≤ b
  · have C1 := Lib.hid (fun W => after_far t b W h0 h1' (by omega) hs)
    by_cases hg : 1099511627776 ≤ b
    · go_enter Try.func7, Try.ntmps7
      go_wp2_with (first | (go_at_call 29; refine (C1.out _).mono ?_; rintro e w' ⟨rfl, rfl⟩) | (go_at_call 30; refine (C2.out _).mono ?_; rintro e w' ⟨rfl, rfl⟩) | (go_at_call 11; refine (C3.out _).mono ?_; rintro e w' ⟨rfl, hb1⟩))
      go_ret
      exact ⟨rfl, hb1⟩
    · have hs' : decide (1099511627776 ≤ t + b) = true := by simp; omega
      go_enter Try.func7, Try.ntmps7
      go_wp2_with (first | (go_at_call 29; refine (C1.out _).mono ?_; rintro e w' ⟨rfl, rfl⟩) | (go_at_call 30; refine (C2.out _).mono ?_; rintro e w' ⟨rfl, rfl⟩) | (go_at_call 11; refine (C3.out _).mono ?_; rintro e w' ⟨rfl, hb1⟩))
      go_ret
      exact ⟨rfl, hb1⟩
  · have C1 := Lib.hid (fun W => after_ok t b W h0 h1' (by omega) (by omega))
    have hg : decide (1099511627776 ≤ b) = false := by simp; omega
    have hs' : decide (1099511627776 ≤ t + b) = false := by simp; omega
    have hn' : 0 ≤ b := by omega
    have hs2 : t + b < 1099511627776 := by omega
    clear hn hs
    go_enter Try.func7, Try.ntmps7
    go_wp2_with (first | (go_at_call 29; refine (C1.out _).mono ?_; rintro e w' ⟨rfl, rfl⟩) | (go_at_call 30; refine (C2.out _).mono ?_; rintro e w' ⟨rfl, rfl⟩) | (go_at_call 11; refine (C3.out _).mono ?_; rintro e w' ⟨rfl, hb1⟩))
    go_ret
    exact ⟨rfl, hb1⟩
end Go.Proofs.Ytmbkmljglajenaa
