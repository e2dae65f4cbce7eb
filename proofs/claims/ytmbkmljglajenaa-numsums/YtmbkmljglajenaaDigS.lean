/-
  The walks of Size, Fits, Whole and minus.
-/
import Derived.Test.YtmbkmljglajenaaDigX
namespace Go.Proofs.Ytmbkmljglajenaa
open Go.RowKit
set_option linter.unusedVariables false

/-- Size: a number without its sign. -/
theorem size_any (n : Int) (h : -9223372036854775808 ≤ n) (h' : n ≤ 9223372036854775807) (w : World) :
    Calls Try.prog 14 #[.int .i64 n] w fun e w' => e = .returned (.int .u64 (n.natAbs : Int)) ∧ w = w' := by
  by_cases hn : n < 0
  · obtain ⟨m, rfl⟩ : ∃ m : Nat, n = -((m : Int) + 1) := ⟨(-n - 1).toNat, by omega⟩
    have hm : m ≤ 9223372036854775807 := by omega
    have e1 : -((m : Int) + 1) + 1 = -(m : Int) := by omega
    have e2 : -(-(m : Int)) = (m : Int) := by omega
    have e3 : (((-((m : Int) + 1)).natAbs : Nat) : Int) = (m : Int) + 1 := by omega
    rw [e3]
    clear e3
    go_enter Try.func14, Try.ntmps14
    go_wp2
    go_ret
    exact ⟨rfl, rfl⟩
  · obtain ⟨m, rfl⟩ := Int.eq_ofNat_of_zero_le (by omega : 0 ≤ n)
    have e3 : ((((m : Int)).natAbs : Nat) : Int) = (m : Int) := by omega
    rw [e3]
    clear e3
    have hm : m ≤ 9223372036854775807 := by omega
    go_enter Try.func14, Try.ntmps14
    go_wp2
    go_ret
    exact ⟨rfl, rfl⟩

/-- minus: the sign again. -/
theorem minus_pos (n : Nat) (hn : n ≤ 9223372036854775807) (w : World) :
    Calls Try.prog 21 #[.int .u64 n, .bool false] w fun e w' => e = .returned (.int .i64 (n : Int)) ∧ w = w' := by
  go_enter Try.func21, Try.ntmps21
  go_wp2
  go_ret
  exact ⟨rfl, rfl⟩
theorem minus_neg (n : Nat) (hn : n ≤ 9223372036854775807) (w : World) :
    Calls Try.prog 21 #[.int .u64 (n + 1 : Nat), .bool true] w fun e w' => e = .returned (.int .i64 (-((n + 1 : Nat) : Int))) ∧ w = w' := by
  obtain ⟨m, hm⟩ : ∃ m : Int, ((n + 1 : Nat) : Int) = m := ⟨_, rfl⟩
  rw [hm]
  have e1 : m - 1 = (n : Int) := by omega
  have e2 : -(n : Int) - 1 = - m := by omega
  have h1 : 1 ≤ m := by omega
  have h2 : m ≤ 9223372036854775808 := by omega
  clear hm
  go_enter Try.func21, Try.ntmps21
  go_wp2
  go_ret
  exact ⟨rfl, rfl⟩

theorem d3_lt (A : Nat) (h : A < 65536 ^ 4) : (A / 65536 ^ 3 % 65536 < 32768) = (A < 9223372036854775808) := by
  have h' : A < 18446744073709551616 := h
  rw [show (65536 : Nat) ^ 3 = 281474976710656 from rfl]
  apply propext
  omega

set_option maxHeartbeats 1000000 in
theorem fits_any (ga ca A : Nat) (w : World) (ha : NumD w ga A) :
    Calls Try.prog 35 #[.slice (some ⟨ga, 0, none⟩) 12 ca] w fun e w' => e = .returned (.bool (decide (A < 9223372036854775808))) ∧ w = w' := by
  have c1 := small_any ga ca A 4 (by omega) w ha
  have Hp : Hid ((65536 : Nat) ^ 4 = 18446744073709551616) := by show _ = _; decide
  by_cases h : A < 65536 ^ 4
  · rw [decide_eq_true h] at c1
    have C1 := Lib.hid c1
    have h3 := ha.at_ 3 (by omega)
    have He : Hid (decide (A < 9223372036854775808) = decide (A / 65536 ^ 3 % 65536 < 32768)) := by show _ = _; rw [decide_eq_decide, d3_lt A h]
    generalize A / 65536 ^ 3 % 65536 = x at *
    clear c1 ha h
    go_enter Try.func35, Try.ntmps35
    go_wp2_with fail
    refine C1.out.mono ?_
    rintro e w' ⟨rfl, rfl⟩
    go_wp2
    go_ret
    exact ⟨by rw [He.out]; simp; omega, rfl⟩
  · rw [decide_eq_false h] at c1
    have C1 := Lib.hid c1
    have He : Hid (decide (A < 9223372036854775808) = false) := by
      show _ = _
      rw [decide_eq_false_iff_not]
      have := Hp.out
      omega
    clear c1 ha h
    go_enter Try.func35, Try.ntmps35
    go_wp2_with fail
    refine C1.out.mono ?_
    rintro e w' ⟨rfl, rfl⟩
    go_wp2
    go_ret
    exact ⟨by rw [He.out]; rfl, rfl⟩

/-- Whole: does a product's number fit, with its sign? -/
theorem whole_yes (ga ca A : Nat) (b : Bool) (w : World) (ha : NumD w ga A) (h : A < 9223372036854775808) :
    Calls Try.prog 20 #[.slice (some ⟨ga, 0, none⟩) 12 ca, .bool b] w fun e w' => e = .returned (.bool true) ∧ w = w' := by
  have c1 := fits_any ga ca A w ha
  rw [decide_eq_true h] at c1
  have C1 := Lib.hid c1
  clear c1 ha h
  go_enter Try.func20, Try.ntmps20
  go_wp2_with fail
  refine C1.out.mono ?_
  rintro e w' ⟨rfl, rfl⟩
  go_wp2
  go_ret
  exact ⟨rfl, rfl⟩
theorem whole_pos (ga ca A : Nat) (w : World) (ha : NumD w ga A) (h : ¬ A < 9223372036854775808) :
    Calls Try.prog 20 #[.slice (some ⟨ga, 0, none⟩) 12 ca, .bool false] w fun e w' => e = .returned (.bool false) ∧ w = w' := by
  have c1 := fits_any ga ca A w ha
  rw [decide_eq_false h] at c1
  have C1 := Lib.hid c1
  clear c1 ha h
  go_enter Try.func20, Try.ntmps20
  go_wp2_with fail
  refine C1.out.mono ?_
  rintro e w' ⟨rfl, rfl⟩
  go_wp2
  go_ret
  exact ⟨rfl, rfl⟩
theorem digits4 (A : Nat) (h : A < 65536 ^ 4) : A = A / 65536 ^ 0 % 65536 + 65536 * (A / 65536 ^ 1 % 65536) + 4294967296 * (A / 65536 ^ 2 % 65536) + 281474976710656 * (A / 65536 ^ 3 % 65536) := by
  have h' : A < 18446744073709551616 := h
  rw [show (65536 : Nat) ^ 3 = 281474976710656 from rfl, show (65536 : Nat) ^ 2 = 4294967296 from rfl, Nat.pow_one, Nat.pow_zero]
  omega

set_option maxHeartbeats 1000000 in
theorem whole_neg (ga ca A : Nat) (w : World) (ha : NumD w ga A) (h : ¬ A < 9223372036854775808) :
    Calls Try.prog 20 #[.slice (some ⟨ga, 0, none⟩) 12 ca, .bool true] w fun e w' => e = .returned (.bool (decide (A = 9223372036854775808))) ∧ w = w' := by
  have c1 := fits_any ga ca A w ha
  rw [decide_eq_false h] at c1
  have C1 := Lib.hid c1
  have c2 := small_any ga ca A 4 (by omega) w ha
  by_cases h4 : A < 65536 ^ 4
  · rw [decide_eq_true h4] at c2
    have C2 := Lib.hid c2
    have h0 := ha.at_ 0 (by omega)
    have h1 := ha.at_ 1 (by omega)
    have h2 := ha.at_ 2 (by omega)
    have h3 := ha.at_ 3 (by omega)
    have hd := digits4 A h4
    have l0 : A / 65536 ^ 0 % 65536 < 65536 := Nat.mod_lt _ (by decide)
    have l1 : A / 65536 ^ 1 % 65536 < 65536 := Nat.mod_lt _ (by decide)
    have l2 : A / 65536 ^ 2 % 65536 < 65536 := Nat.mod_lt _ (by decide)
    clear c1 c2 ha h4
    generalize A / 65536 ^ 0 % 65536 = x0 at *
    generalize A / 65536 ^ 1 % 65536 = x1 at *
    generalize A / 65536 ^ 2 % 65536 = x2 at *
    generalize A / 65536 ^ 3 % 65536 = x3 at *
    by_cases y3 : x3 = 32768
    · subst y3
      by_cases y2 : x2 = 0
      · subst y2
        by_cases y1 : x1 = 0
        · subst y1
          by_cases y0 : x0 = 0
          · subst y0
            have He : Hid (decide (A = 9223372036854775808) = true) := by show _ = _; rw [decide_eq_true_eq]; omega
            clear hd h
            go_enter Try.func20, Try.ntmps20
            go_wp2_with fail
            refine C1.out.mono ?_
            rintro e w' ⟨rfl, rfl⟩
            go_wp2_with fail
            refine C2.out.mono ?_
            rintro e w' ⟨rfl, rfl⟩
            go_wp2
            go_ret
            exact ⟨by rw [He.out]; rfl, rfl⟩
          · have yb : ((x0 : Int) == 0) = false := by simp; omega
            have He : Hid (decide (A = 9223372036854775808) = false) := by show _ = _; rw [decide_eq_false_iff_not]; omega
            clear hd h y0
            go_enter Try.func20, Try.ntmps20
            go_wp2_with fail
            refine C1.out.mono ?_
            rintro e w' ⟨rfl, rfl⟩
            go_wp2_with fail
            refine C2.out.mono ?_
            rintro e w' ⟨rfl, rfl⟩
            go_wp2
            go_ret
            exact ⟨by rw [He.out]; rfl, rfl⟩
        · have yb : ((x1 : Int) == 0) = false := by simp; omega
          have He : Hid (decide (A = 9223372036854775808) = false) := by show _ = _; rw [decide_eq_false_iff_not]; omega
          clear hd h y1
          go_enter Try.func20, Try.ntmps20
          go_wp2_with fail
          refine C1.out.mono ?_
          rintro e w' ⟨rfl, rfl⟩
          go_wp2_with fail
          refine C2.out.mono ?_
          rintro e w' ⟨rfl, rfl⟩
          go_wp2
          go_ret
          exact ⟨by rw [He.out]; rfl, rfl⟩
      · have yb : ((x2 : Int) == 0) = false := by simp; omega
        have He : Hid (decide (A = 9223372036854775808) = false) := by show _ = _; rw [decide_eq_false_iff_not]; omega
        clear hd h y2
        go_enter Try.func20, Try.ntmps20
        go_wp2_with fail
        refine C1.out.mono ?_
        rintro e w' ⟨rfl, rfl⟩
        go_wp2_with fail
        refine C2.out.mono ?_
        rintro e w' ⟨rfl, rfl⟩
        go_wp2
        go_ret
        exact ⟨by rw [He.out]; rfl, rfl⟩
    · have yb : ((x3 : Int) == 32768) = false := by simp; omega
      have He : Hid (decide (A = 9223372036854775808) = false) := by show _ = _; rw [decide_eq_false_iff_not]; omega
      clear hd h y3
      go_enter Try.func20, Try.ntmps20
      go_wp2_with fail
      refine C1.out.mono ?_
      rintro e w' ⟨rfl, rfl⟩
      go_wp2_with fail
      refine C2.out.mono ?_
      rintro e w' ⟨rfl, rfl⟩
      go_wp2
      go_ret
      exact ⟨by rw [He.out]; rfl, rfl⟩
  · rw [decide_eq_false h4] at c2
    have C2 := Lib.hid c2
    have He : Hid (decide (A = 9223372036854775808) = false) := by
      show _ = _
      rw [decide_eq_false_iff_not]
      rintro rfl
      exact h4 (by decide)
    clear c1 c2 ha h4 h
    go_enter Try.func20, Try.ntmps20
    go_wp2_with fail
    refine C1.out.mono ?_
    rintro e w' ⟨rfl, rfl⟩
    go_wp2_with fail
    refine C2.out.mono ?_
    rintro e w' ⟨rfl, rfl⟩
    go_wp2
    go_ret
    exact ⟨by rw [He.out]; rfl, rfl⟩
end Go.Proofs.Ytmbkmljglajenaa
