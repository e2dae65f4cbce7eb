/-
  The walk of AdmitHard.
-/
import Derived.Test.YtfjepkakimhbbaaAj
import Derived.Test.YtfjepkakimhbbaaOpA
namespace Go.Proofs.Ytfjepkakimhbbaa
open Go.RowKit Go.Sort Go.Shelf Go.Maps
set_option linter.unusedVariables false
set_option linter.unusedSimpArgs false

/-- The params and the two rules in their boxes. -/
structure Hd (w W : World) (k x y z : Int) : Prop where
  below : Below w.heap.size w W
  p : Box3 W w.heap.size 40 (.int .i64 x) (.int .i64 y) (.int .i64 z)
  r : Box3 W (w.heap.size + 1) 23 (.bool true) (.int .i64 0) (.int .i64 k)
  s : Box3 W (w.heap.size + 1 + 1) 23 (.bool false) (.int .i64 1048576) (.int .i64 k)
theorem Hd.next {w W W' : World} {k x y z : Int} (h : Hd w W k x y z) (b : Below W.heap.size W W') : Hd w W' k x y z :=
  ⟨h.below.trans (b.mono h.below.size), h.p.next' b, h.r.next' b, h.s.next' b⟩
theorem Hd.start (w : World) (k x y z : Int) : Hd w (((w.alloc (.cells #[.int .i64 x, .int .i64 y, .int .i64 z] 40)).alloc (.cells #[.bool true, .int .i64 0, .int .i64 k] 23)).alloc (.cells #[.bool false, .int .i64 1048576, .int .i64 k] 23)) k x y z := by
  refine ⟨(((Below.refl _ _).alloc (Nat.le_refl _) _).alloc (by simp) _).alloc (by simp; omega) _, ((Box3.start w _ _ _ _).next' ((Below.refl _ _).alloc (Nat.le_refl _) _)).next' ((Below.refl _ _).alloc (Nat.le_refl _) _), ?_, ?_⟩
  · have := Box3.start (w.alloc (.cells #[.int .i64 x, .int .i64 y, .int .i64 z] 40)) 23 (.bool true) (.int .i64 0) (.int .i64 k)
    exact (show Box3 _ (w.heap.size + 1) _ _ _ _ by simpa using this).next' ((Below.refl _ _).alloc (Nat.le_refl _) _)
  · have := Box3.start ((w.alloc (.cells #[.int .i64 x, .int .i64 y, .int .i64 z] 40)).alloc (.cells #[.bool true, .int .i64 0, .int .i64 k] 23)) 23 (.bool false) (.int .i64 1048576) (.int .i64 k)
    simpa using this

theorem hard_o0 (k : Int) (a : Option Addr) (n cap : Nat) (x y z : Int) (h0 : decide (k < 1) = true) (cA : AwC9) (w : World) :
    Calls Try.prog 7 #[.int .i64 k, .slice a n cap, .agg #[.int .i64 x, .int .i64 y, .int .i64 z]] w fun E w' => E = .returned (.bool true) ∧ Below w.heap.size w w' := by
  go_enter Try.func7, Try.ntmps7
  go_wp2_with fail
  refine (Hid.out cA _).mono ?_
  rintro e w1 ⟨rfl, b1⟩
  go_wp2
  go_ret
  exact ⟨rfl, below_alloc b1⟩
theorem hard_o1 (k : Int) (a : Option Addr) (n cap : Nat) (x y z : Int) (h0 : decide (k < 1) = false) (h1 : decide (16 < k) = true) (cA : AwC9) (w : World) :
    Calls Try.prog 7 #[.int .i64 k, .slice a n cap, .agg #[.int .i64 x, .int .i64 y, .int .i64 z]] w fun E w' => E = .returned (.bool true) ∧ Below w.heap.size w w' := by
  go_enter Try.func7, Try.ntmps7
  go_wp2_with fail
  refine (Hid.out cA _).mono ?_
  rintro e w1 ⟨rfl, b1⟩
  go_wp2
  go_ret
  exact ⟨rfl, below_alloc b1⟩
theorem hard_o2 (k : Int) (a : Option Addr) (n cap : Nat) (x y z : Int) (h0 : decide (k < 1) = false) (h1 : decide (16 < k) = false) (h2 : decide (70 < n) = true) (h2' : decide (70 < (n : Int)) = true) (cA : AwC9) (w : World) :
    Calls Try.prog 7 #[.int .i64 k, .slice a n cap, .agg #[.int .i64 x, .int .i64 y, .int .i64 z]] w fun E w' => E = .returned (.bool true) ∧ Below w.heap.size w w' := by
  go_enter Try.func7, Try.ntmps7
  go_wp2_with fail
  refine (Hid.out cA _).mono ?_
  rintro e w1 ⟨rfl, b1⟩
  go_wp2
  go_ret
  exact ⟨rfl, below_alloc b1⟩

set_option maxHeartbeats 2000000 in
set_option maxRecDepth 20000 in
/-- What follows; OK: may the server be? T: what is wrong with the others. -/
theorem hard_ok_t (k : Int) (a : Option Addr) (n cap : Nat) (L : List Pa) (x y z : Int) (hL : L.length = n) (hn : n ≤ 70) (hc : Fit (x, y, z)) (k0 : 1 ≤ k) (k1 : k ≤ 16) (hok : okB (x, y, z) = true) (htest : testE true 0 k L = 0) (cA : AwC9) (w : World) (hp : PAt w a L) :
    Calls Try.prog 7 #[.int .i64 k, .slice a n cap, .agg #[.int .i64 x, .int .i64 y, .int .i64 z]] w fun E w' => E = .returned (.bool true) ∧ Below w.heap.size w w' := by
  have h0 : decide (k < 1) = false := decide_eq_false (by omega)
  have h1 : decide (16 < k) = false := decide_eq_false (by omega)
  have h2 : decide (70 < n) = false := decide_eq_false (by omega)
  have h2' : decide (70 < (n : Int)) = false := decide_eq_false (by omega)
  have hr : ruleE 0 k = 0 := if_neg (by omega)
  have hr2 : ruleE 1048576 k = 0 := if_neg (by omega)
  have CR : Hid (∀ W, Calls Try.prog 21 #[.agg #[.int .i64 x, .int .i64 y, .int .i64 z]] W fun e w' => e = .returned (.bool true) ∧ Below W.heap.size W w') := fun W => by
    have := right_xyz x y z W
    rwa [hok] at this
  have CN : Hid (∀ W, Calls Try.prog 14 #[.agg #[.bool true, .int .i64 0, .int .i64 k], .slice none 0 0] W fun e w' => e = .returned (.int .i64 0) ∧ Below W.heap.size W w') := fun W => by
    have := atest_any true 0 k none 0 [] (by simp) W (.inl rfl)
    rwa [test_nil true hr] at this
  have CM : Hid (∀ W, Calls Try.prog 14 #[.agg #[.bool false, .int .i64 1048576, .int .i64 k], .slice none 0 0] W fun e w' => e = .returned (.int .i64 0) ∧ Below W.heap.size W w') := fun W => by
    have := atest_any false 1048576 k none 0 [] (by simp) W (.inl rfl)
    rwa [test_nil false hr2] at this
  have CP : Hid (∀ W, Calls Try.prog 14 #[.agg #[.bool true, .int .i64 0, .int .i64 k], .slice (some ⟨W.heap.size, 0, none⟩) 1 1] (W.alloc (.cells #[.int .i64 x, .int .i64 y, .int .i64 z] 40)) fun e w' => e = .returned (.int .i64 0) ∧ Below W.heap.size W w') := fun W => by
    have hb := (built_p W [(x, y, z)] (fun p hp => by simp at hp; rw [hp]; exact hc) (by simp)).at_.2
    have := atest_any true 0 k (some ⟨W.heap.size, 0, none⟩) 1 [(x, y, z)] (by simp) (W.alloc (.cells #[.int .i64 x, .int .i64 y, .int .i64 z] 40)) hb
    rw [test_one k0 k1 hok] at this
    exact this.mono fun e w' ⟨h1, h2⟩ => ⟨h1, ((Below.refl _ _).alloc (Nat.le_refl _) _).trans (h2.mono (by simp))⟩
  have CT : Hid (∀ W, Below w.heap.size w W → Calls Try.prog 14 #[.agg #[.bool true, .int .i64 0, .int .i64 k], .slice a n cap] W fun e w' => e = .returned (.int .i64 0) ∧ Below W.heap.size W w') := fun W hW => by
    have := atest_any true 0 k a cap L (by omega) W (hp.next hW)
    rw [hL] at this
    rwa [htest] at this
  obtain ⟨hA, q1, q2, q3, q4⟩ := test_soft k0 k1 htest
  have CL : Hid (∀ W, Below w.heap.size w W → Calls Try.prog 10 #[.agg #[.bool true, .int .i64 0, .int .i64 k], .slice a n cap] W fun e w' => e = .returned (.tuple #[.int .i64 (sumU true L), .int .i64 (maxU true L), .int .i64 0]) ∧ Below W.heap.size W w') := fun W hW => by
    have := load_any true 0 k a cap L (by omega) W (hp.next hW)
    rw [hL] at this
    rwa [show LoadR true 0 k L = (sumU true L, maxU true L, 0) by unfold LoadR loadR; rw [if_pos hr, if_pos hA]] at this
  have CK : Hid (∀ W, Below w.heap.size w W → Calls Try.prog 10 #[.agg #[.bool false, .int .i64 1048576, .int .i64 k], .slice a n cap] W fun e w' => e = .returned (.tuple #[.int .i64 (sumU false L), .int .i64 (maxU false L), .int .i64 0]) ∧ Below W.heap.size W w') := fun W hW => by
    have := load_any false 1048576 k a cap L (by omega) W (hp.next hW)
    rw [hL] at this
    rwa [show LoadR false 1048576 k L = (sumU false L, maxU false L, 0) by unfold LoadR loadR; rw [if_pos hr2, if_pos hA]] at this
  have CS : Hid (∀ W, Below w.heap.size w W → Calls Try.prog 14 #[.agg #[.bool false, .int .i64 1048576, .int .i64 k], .slice a n cap] W fun e w' => e = .returned (.int .i64 0) ∧ Below W.heap.size W w') := fun W hW => by
    have := atest_any false 1048576 k a cap L (by omega) W (hp.next hW)
    rw [hL] at this
    rwa [q4] at this
  have d1 : decide (sumU false L ≤ sumU true L) = true := decide_eq_true q1
  have d2 : decide (maxU true L ≤ 1048576) = true := decide_eq_true q2
  have d3 : decide (sumU true L ≤ k * 1048576) = true := decide_eq_true q3
  generalize sumU false L = bb at *
  generalize maxU false L = bm at *
  generalize sumU true L = aa at *
  generalize maxU true L = am at *
  have S0 := Lib.hid (Hd.start w k x y z)
  obtain ⟨W0, hW0⟩ : ∃ W0, (((w.alloc (.cells #[.int .i64 x, .int .i64 y, .int .i64 z] 40)).alloc (.cells #[.bool true, .int .i64 0, .int .i64 k] 23)).alloc (.cells #[.bool false, .int .i64 1048576, .int .i64 k] 23)) = W0 := ⟨_, rfl⟩
  rw [hW0] at S0
  have HW := Lib.hid hW0
  clear hW0 hok hp hc hL htest q1 q2 q3 q4 hA
  go_enter Try.func7, Try.ntmps7
  go_upto_region 5 with (fail)
  rw [HW.out]
  have p0 := S0.out.p.c0
  have p1 := S0.out.p.c1
  have p2 := S0.out.p.c2
  have r0 := S0.out.r.c0
  have r1 := S0.out.r.c1
  have r2 := S0.out.r.c2
  have s0 := S0.out.s.c0
  have s1 := S0.out.s.c1
  have s2 := S0.out.s.c2
  go_wp2_with fail
  refine (CR.out _).mono ?_
  rintro e w1 ⟨rfl, b1⟩
  have S1 := Lib.hid (S0.out.next b1)
  clear p0 p1 p2 r0 r1 r2 s0 s1 s2
  have p0 := S1.out.p.c0
  have p1 := S1.out.p.c1
  have p2 := S1.out.p.c2
  have r0 := S1.out.r.c0
  have r1 := S1.out.r.c1
  have r2 := S1.out.r.c2
  have s0 := S1.out.s.c0
  have s1 := S1.out.s.c1
  have s2 := S1.out.s.c2
  go_wp2_with fail
  refine (CP.out _).mono ?_
  rintro e w2 ⟨rfl, b2⟩
  have S2 := Lib.hid (S1.out.next b2)
  clear p0 p1 p2 r0 r1 r2 s0 s1 s2
  have p0 := S2.out.p.c0
  have p1 := S2.out.p.c1
  have p2 := S2.out.p.c2
  have r0 := S2.out.r.c0
  have r1 := S2.out.r.c1
  have r2 := S2.out.r.c2
  have s0 := S2.out.s.c0
  have s1 := S2.out.s.c1
  have s2 := S2.out.s.c2
  go_wp2_with fail
  refine (CN.out _).mono ?_
  rintro e w3 ⟨rfl, b3⟩
  have S3 := Lib.hid (S2.out.next b3)
  clear p0 p1 p2 r0 r1 r2 s0 s1 s2
  have p0 := S3.out.p.c0
  have p1 := S3.out.p.c1
  have p2 := S3.out.p.c2
  have r0 := S3.out.r.c0
  have r1 := S3.out.r.c1
  have r2 := S3.out.r.c2
  have s0 := S3.out.s.c0
  have s1 := S3.out.s.c1
  have s2 := S3.out.s.c2
  go_wp2_with fail
  refine (CM.out _).mono ?_
  rintro e w4 ⟨rfl, b4⟩
  have S4 := Lib.hid (S3.out.next b4)
  clear p0 p1 p2 r0 r1 r2 s0 s1 s2
  have p0 := S4.out.p.c0
  have p1 := S4.out.p.c1
  have p2 := S4.out.p.c2
  have r0 := S4.out.r.c0
  have r1 := S4.out.r.c1
  have r2 := S4.out.r.c2
  have s0 := S4.out.s.c0
  have s1 := S4.out.s.c1
  have s2 := S4.out.s.c2
  go_wp2_with fail
  refine (CT.out _ S4.out.below).mono ?_
  rintro e w5 ⟨rfl, b5⟩
  have S5 := Lib.hid (S4.out.next b5)
  clear p0 p1 p2 r0 r1 r2 s0 s1 s2
  have p0 := S5.out.p.c0
  have p1 := S5.out.p.c1
  have p2 := S5.out.p.c2
  have r0 := S5.out.r.c0
  have r1 := S5.out.r.c1
  have r2 := S5.out.r.c2
  have s0 := S5.out.s.c0
  have s1 := S5.out.s.c1
  have s2 := S5.out.s.c2
  go_wp2_with fail
  refine (CL.out _ S5.out.below).mono ?_
  rintro e w6 ⟨rfl, b6⟩
  have S6 := Lib.hid (S5.out.next b6)
  clear p0 p1 p2 r0 r1 r2 s0 s1 s2
  have p0 := S6.out.p.c0
  have p1 := S6.out.p.c1
  have p2 := S6.out.p.c2
  have r0 := S6.out.r.c0
  have r1 := S6.out.r.c1
  have r2 := S6.out.r.c2
  have s0 := S6.out.s.c0
  have s1 := S6.out.s.c1
  have s2 := S6.out.s.c2
  go_wp2_with fail
  refine (CK.out _ S6.out.below).mono ?_
  rintro e w7 ⟨rfl, b7⟩
  have S7 := Lib.hid (S6.out.next b7)
  clear p0 p1 p2 r0 r1 r2 s0 s1 s2
  have p0 := S7.out.p.c0
  have p1 := S7.out.p.c1
  have p2 := S7.out.p.c2
  have r0 := S7.out.r.c0
  have r1 := S7.out.r.c1
  have r2 := S7.out.r.c2
  have s0 := S7.out.s.c0
  have s1 := S7.out.s.c1
  have s2 := S7.out.s.c2
  go_wp2_with fail
  refine (CS.out _ S7.out.below).mono ?_
  rintro e w8 ⟨rfl, b8⟩
  have S8 := Lib.hid (S7.out.next b8)
  clear p0 p1 p2 r0 r1 r2 s0 s1 s2
  have p0 := S8.out.p.c0
  have p1 := S8.out.p.c1
  have p2 := S8.out.p.c2
  have r0 := S8.out.r.c0
  have r1 := S8.out.r.c1
  have r2 := S8.out.r.c2
  have s0 := S8.out.s.c0
  have s1 := S8.out.s.c1
  have s2 := S8.out.s.c2
  go_wp2_with fail
  refine (Hid.out cA _).mono ?_
  rintro e w9 ⟨rfl, b9⟩
  go_wp2
  go_ret
  exact ⟨rfl, (S8.out.next b9).below⟩

set_option maxHeartbeats 2000000 in
set_option maxRecDepth 20000 in
/-- What follows; OK: may the server be? T: what is wrong with the others. -/
theorem hard_ok_n (k : Int) (a : Option Addr) (n cap : Nat) (L : List Pa) (x y z : Int) (hL : L.length = n) (hn : n ≤ 70) (hc : Fit (x, y, z)) (k0 : 1 ≤ k) (k1 : k ≤ 16) (hok : okB (x, y, z) = true) (t : Int) (htest : testE true 0 k L = t) (hne : t ≠ 0) (cA : AwC9) (w : World) (hp : PAt w a L) :
    Calls Try.prog 7 #[.int .i64 k, .slice a n cap, .agg #[.int .i64 x, .int .i64 y, .int .i64 z]] w fun E w' => E = .returned (.bool true) ∧ Below w.heap.size w w' := by
  have h0 : decide (k < 1) = false := decide_eq_false (by omega)
  have h1 : decide (16 < k) = false := decide_eq_false (by omega)
  have h2 : decide (70 < n) = false := decide_eq_false (by omega)
  have h2' : decide (70 < (n : Int)) = false := decide_eq_false (by omega)
  have hr : ruleE 0 k = 0 := if_neg (by omega)
  have hr2 : ruleE 1048576 k = 0 := if_neg (by omega)
  have CR : Hid (∀ W, Calls Try.prog 21 #[.agg #[.int .i64 x, .int .i64 y, .int .i64 z]] W fun e w' => e = .returned (.bool true) ∧ Below W.heap.size W w') := fun W => by
    have := right_xyz x y z W
    rwa [hok] at this
  have CN : Hid (∀ W, Calls Try.prog 14 #[.agg #[.bool true, .int .i64 0, .int .i64 k], .slice none 0 0] W fun e w' => e = .returned (.int .i64 0) ∧ Below W.heap.size W w') := fun W => by
    have := atest_any true 0 k none 0 [] (by simp) W (.inl rfl)
    rwa [test_nil true hr] at this
  have CM : Hid (∀ W, Calls Try.prog 14 #[.agg #[.bool false, .int .i64 1048576, .int .i64 k], .slice none 0 0] W fun e w' => e = .returned (.int .i64 0) ∧ Below W.heap.size W w') := fun W => by
    have := atest_any false 1048576 k none 0 [] (by simp) W (.inl rfl)
    rwa [test_nil false hr2] at this
  have CP : Hid (∀ W, Calls Try.prog 14 #[.agg #[.bool true, .int .i64 0, .int .i64 k], .slice (some ⟨W.heap.size, 0, none⟩) 1 1] (W.alloc (.cells #[.int .i64 x, .int .i64 y, .int .i64 z] 40)) fun e w' => e = .returned (.int .i64 0) ∧ Below W.heap.size W w') := fun W => by
    have hb := (built_p W [(x, y, z)] (fun p hp => by simp at hp; rw [hp]; exact hc) (by simp)).at_.2
    have := atest_any true 0 k (some ⟨W.heap.size, 0, none⟩) 1 [(x, y, z)] (by simp) (W.alloc (.cells #[.int .i64 x, .int .i64 y, .int .i64 z] 40)) hb
    rw [test_one k0 k1 hok] at this
    exact this.mono fun e w' ⟨h1, h2⟩ => ⟨h1, ((Below.refl _ _).alloc (Nat.le_refl _) _).trans (h2.mono (by simp))⟩
  have CT : Hid (∀ W, Below w.heap.size w W → Calls Try.prog 14 #[.agg #[.bool true, .int .i64 0, .int .i64 k], .slice a n cap] W fun e w' => e = .returned (.int .i64 t) ∧ Below W.heap.size W w') := fun W hW => by
    have := atest_any true 0 k a cap L (by omega) W (hp.next hW)
    rw [hL] at this
    rwa [htest] at this
  have d5 : (t != 0) = true := by simpa using hne
  have d6 : (t == 0) = false := by simpa using hne
  have S0 := Lib.hid (Hd.start w k x y z)
  obtain ⟨W0, hW0⟩ : ∃ W0, (((w.alloc (.cells #[.int .i64 x, .int .i64 y, .int .i64 z] 40)).alloc (.cells #[.bool true, .int .i64 0, .int .i64 k] 23)).alloc (.cells #[.bool false, .int .i64 1048576, .int .i64 k] 23)) = W0 := ⟨_, rfl⟩
  rw [hW0] at S0
  have HW := Lib.hid hW0
  clear hW0 hok hp hc hL htest hne
  go_enter Try.func7, Try.ntmps7
  go_upto_region 5 with (fail)
  rw [HW.out]
  have p0 := S0.out.p.c0
  have p1 := S0.out.p.c1
  have p2 := S0.out.p.c2
  have r0 := S0.out.r.c0
  have r1 := S0.out.r.c1
  have r2 := S0.out.r.c2
  have s0 := S0.out.s.c0
  have s1 := S0.out.s.c1
  have s2 := S0.out.s.c2
  go_wp2_with fail
  refine (CR.out _).mono ?_
  rintro e w1 ⟨rfl, b1⟩
  have S1 := Lib.hid (S0.out.next b1)
  clear p0 p1 p2 r0 r1 r2 s0 s1 s2
  have p0 := S1.out.p.c0
  have p1 := S1.out.p.c1
  have p2 := S1.out.p.c2
  have r0 := S1.out.r.c0
  have r1 := S1.out.r.c1
  have r2 := S1.out.r.c2
  have s0 := S1.out.s.c0
  have s1 := S1.out.s.c1
  have s2 := S1.out.s.c2
  go_wp2_with fail
  refine (CP.out _).mono ?_
  rintro e w2 ⟨rfl, b2⟩
  have S2 := Lib.hid (S1.out.next b2)
  clear p0 p1 p2 r0 r1 r2 s0 s1 s2
  have p0 := S2.out.p.c0
  have p1 := S2.out.p.c1
  have p2 := S2.out.p.c2
  have r0 := S2.out.r.c0
  have r1 := S2.out.r.c1
  have r2 := S2.out.r.c2
  have s0 := S2.out.s.c0
  have s1 := S2.out.s.c1
  have s2 := S2.out.s.c2
  go_wp2_with fail
  refine (CN.out _).mono ?_
  rintro e w3 ⟨rfl, b3⟩
  have S3 := Lib.hid (S2.out.next b3)
  clear p0 p1 p2 r0 r1 r2 s0 s1 s2
  have p0 := S3.out.p.c0
  have p1 := S3.out.p.c1
  have p2 := S3.out.p.c2
  have r0 := S3.out.r.c0
  have r1 := S3.out.r.c1
  have r2 := S3.out.r.c2
  have s0 := S3.out.s.c0
  have s1 := S3.out.s.c1
  have s2 := S3.out.s.c2
  go_wp2_with fail
  refine (CM.out _).mono ?_
  rintro e w4 ⟨rfl, b4⟩
  have S4 := Lib.hid (S3.out.next b4)
  clear p0 p1 p2 r0 r1 r2 s0 s1 s2
  have p0 := S4.out.p.c0
  have p1 := S4.out.p.c1
  have p2 := S4.out.p.c2
  have r0 := S4.out.r.c0
  have r1 := S4.out.r.c1
  have r2 := S4.out.r.c2
  have s0 := S4.out.s.c0
  have s1 := S4.out.s.c1
  have s2 := S4.out.s.c2
  go_wp2_with fail
  refine (CT.out _ S4.out.below).mono ?_
  rintro e w5 ⟨rfl, b5⟩
  have S5 := Lib.hid (S4.out.next b5)
  clear p0 p1 p2 r0 r1 r2 s0 s1 s2
  have p0 := S5.out.p.c0
  have p1 := S5.out.p.c1
  have p2 := S5.out.p.c2
  have r0 := S5.out.r.c0
  have r1 := S5.out.r.c1
  have r2 := S5.out.r.c2
  have s0 := S5.out.s.c0
  have s1 := S5.out.s.c1
  have s2 := S5.out.s.c2
  go_wp2_with fail
  refine (Hid.out cA _).mono ?_
  rintro e w6 ⟨rfl, b6⟩
  go_wp2
  go_ret
  exact ⟨rfl, (S5.out.next b6).below⟩

set_option maxHeartbeats 2000000 in
set_option maxRecDepth 20000 in
/-- What follows; OK: may the server be? T: what is wrong with the others. -/
theorem hard_no_t (k : Int) (a : Option Addr) (n cap : Nat) (L : List Pa) (x y z : Int) (hL : L.length = n) (hn : n ≤ 70) (hc : Fit (x, y, z)) (k0 : 1 ≤ k) (k1 : k ≤ 16) (hok : okB (x, y, z) = false) (htest : testE true 0 k L = 0) (cA : AwC9) (w : World) (hp : PAt w a L) :
    Calls Try.prog 7 #[.int .i64 k, .slice a n cap, .agg #[.int .i64 x, .int .i64 y, .int .i64 z]] w fun E w' => E = .returned (.bool true) ∧ Below w.heap.size w w' := by
  have h0 : decide (k < 1) = false := decide_eq_false (by omega)
  have h1 : decide (16 < k) = false := decide_eq_false (by omega)
  have h2 : decide (70 < n) = false := decide_eq_false (by omega)
  have h2' : decide (70 < (n : Int)) = false := decide_eq_false (by omega)
  have hr : ruleE 0 k = 0 := if_neg (by omega)
  have hr2 : ruleE 1048576 k = 0 := if_neg (by omega)
  have CR : Hid (∀ W, Calls Try.prog 21 #[.agg #[.int .i64 x, .int .i64 y, .int .i64 z]] W fun e w' => e = .returned (.bool false) ∧ Below W.heap.size W w') := fun W => by
    have := right_xyz x y z W
    rwa [hok] at this
  have CN : Hid (∀ W, Calls Try.prog 14 #[.agg #[.bool true, .int .i64 0, .int .i64 k], .slice none 0 0] W fun e w' => e = .returned (.int .i64 0) ∧ Below W.heap.size W w') := fun W => by
    have := atest_any true 0 k none 0 [] (by simp) W (.inl rfl)
    rwa [test_nil true hr] at this
  have CM : Hid (∀ W, Calls Try.prog 14 #[.agg #[.bool false, .int .i64 1048576, .int .i64 k], .slice none 0 0] W fun e w' => e = .returned (.int .i64 0) ∧ Below W.heap.size W w') := fun W => by
    have := atest_any false 1048576 k none 0 [] (by simp) W (.inl rfl)
    rwa [test_nil false hr2] at this
  have CT : Hid (∀ W, Below w.heap.size w W → Calls Try.prog 14 #[.agg #[.bool true, .int .i64 0, .int .i64 k], .slice a n cap] W fun e w' => e = .returned (.int .i64 0) ∧ Below W.heap.size W w') := fun W hW => by
    have := atest_any true 0 k a cap L (by omega) W (hp.next hW)
    rw [hL] at this
    rwa [htest] at this
  obtain ⟨hA, q1, q2, q3, q4⟩ := test_soft k0 k1 htest
  have CL : Hid (∀ W, Below w.heap.size w W → Calls Try.prog 10 #[.agg #[.bool true, .int .i64 0, .int .i64 k], .slice a n cap] W fun e w' => e = .returned (.tuple #[.int .i64 (sumU true L), .int .i64 (maxU true L), .int .i64 0]) ∧ Below W.heap.size W w') := fun W hW => by
    have := load_any true 0 k a cap L (by omega) W (hp.next hW)
    rw [hL] at this
    rwa [show LoadR true 0 k L = (sumU true L, maxU true L, 0) by unfold LoadR loadR; rw [if_pos hr, if_pos hA]] at this
  have CK : Hid (∀ W, Below w.heap.size w W → Calls Try.prog 10 #[.agg #[.bool false, .int .i64 1048576, .int .i64 k], .slice a n cap] W fun e w' => e = .returned (.tuple #[.int .i64 (sumU false L), .int .i64 (maxU false L), .int .i64 0]) ∧ Below W.heap.size W w') := fun W hW => by
    have := load_any false 1048576 k a cap L (by omega) W (hp.next hW)
    rw [hL] at this
    rwa [show LoadR false 1048576 k L = (sumU false L, maxU false L, 0) by unfold LoadR loadR; rw [if_pos hr2, if_pos hA]] at this
  have CS : Hid (∀ W, Below w.heap.size w W → Calls Try.prog 14 #[.agg #[.bool false, .int .i64 1048576, .int .i64 k], .slice a n cap] W fun e w' => e = .returned (.int .i64 0) ∧ Below W.heap.size W w') := fun W hW => by
    have := atest_any false 1048576 k a cap L (by omega) W (hp.next hW)
    rw [hL] at this
    rwa [q4] at this
  have d1 : decide (sumU false L ≤ sumU true L) = true := decide_eq_true q1
  have d2 : decide (maxU true L ≤ 1048576) = true := decide_eq_true q2
  have d3 : decide (sumU true L ≤ k * 1048576) = true := decide_eq_true q3
  generalize sumU false L = bb at *
  generalize maxU false L = bm at *
  generalize sumU true L = aa at *
  generalize maxU true L = am at *
  have S0 := Lib.hid (Hd.start w k x y z)
  obtain ⟨W0, hW0⟩ : ∃ W0, (((w.alloc (.cells #[.int .i64 x, .int .i64 y, .int .i64 z] 40)).alloc (.cells #[.bool true, .int .i64 0, .int .i64 k] 23)).alloc (.cells #[.bool false, .int .i64 1048576, .int .i64 k] 23)) = W0 := ⟨_, rfl⟩
  rw [hW0] at S0
  have HW := Lib.hid hW0
  clear hW0 hok hp hc hL htest q1 q2 q3 q4 hA
  go_enter Try.func7, Try.ntmps7
  go_upto_region 5 with (fail)
  rw [HW.out]
  have p0 := S0.out.p.c0
  have p1 := S0.out.p.c1
  have p2 := S0.out.p.c2
  have r0 := S0.out.r.c0
  have r1 := S0.out.r.c1
  have r2 := S0.out.r.c2
  have s0 := S0.out.s.c0
  have s1 := S0.out.s.c1
  have s2 := S0.out.s.c2
  go_wp2_with fail
  refine (CR.out _).mono ?_
  rintro e w1 ⟨rfl, b1⟩
  have S1 := Lib.hid (S0.out.next b1)
  clear p0 p1 p2 r0 r1 r2 s0 s1 s2
  have p0 := S1.out.p.c0
  have p1 := S1.out.p.c1
  have p2 := S1.out.p.c2
  have r0 := S1.out.r.c0
  have r1 := S1.out.r.c1
  have r2 := S1.out.r.c2
  have s0 := S1.out.s.c0
  have s1 := S1.out.s.c1
  have s2 := S1.out.s.c2
  go_wp2_with fail
  refine (CN.out _).mono ?_
  rintro e w2 ⟨rfl, b2⟩
  have S2 := Lib.hid (S1.out.next b2)
  clear p0 p1 p2 r0 r1 r2 s0 s1 s2
  have p0 := S2.out.p.c0
  have p1 := S2.out.p.c1
  have p2 := S2.out.p.c2
  have r0 := S2.out.r.c0
  have r1 := S2.out.r.c1
  have r2 := S2.out.r.c2
  have s0 := S2.out.s.c0
  have s1 := S2.out.s.c1
  have s2 := S2.out.s.c2
  go_wp2_with fail
  refine (CM.out _).mono ?_
  rintro e w3 ⟨rfl, b3⟩
  have S3 := Lib.hid (S2.out.next b3)
  clear p0 p1 p2 r0 r1 r2 s0 s1 s2
  have p0 := S3.out.p.c0
  have p1 := S3.out.p.c1
  have p2 := S3.out.p.c2
  have r0 := S3.out.r.c0
  have r1 := S3.out.r.c1
  have r2 := S3.out.r.c2
  have s0 := S3.out.s.c0
  have s1 := S3.out.s.c1
  have s2 := S3.out.s.c2
  go_wp2_with fail
  refine (CT.out _ S3.out.below).mono ?_
  rintro e w4 ⟨rfl, b4⟩
  have S4 := Lib.hid (S3.out.next b4)
  clear p0 p1 p2 r0 r1 r2 s0 s1 s2
  have p0 := S4.out.p.c0
  have p1 := S4.out.p.c1
  have p2 := S4.out.p.c2
  have r0 := S4.out.r.c0
  have r1 := S4.out.r.c1
  have r2 := S4.out.r.c2
  have s0 := S4.out.s.c0
  have s1 := S4.out.s.c1
  have s2 := S4.out.s.c2
  go_wp2_with fail
  refine (CL.out _ S4.out.below).mono ?_
  rintro e w5 ⟨rfl, b5⟩
  have S5 := Lib.hid (S4.out.next b5)
  clear p0 p1 p2 r0 r1 r2 s0 s1 s2
  have p0 := S5.out.p.c0
  have p1 := S5.out.p.c1
  have p2 := S5.out.p.c2
  have r0 := S5.out.r.c0
  have r1 := S5.out.r.c1
  have r2 := S5.out.r.c2
  have s0 := S5.out.s.c0
  have s1 := S5.out.s.c1
  have s2 := S5.out.s.c2
  go_wp2_with fail
  refine (CK.out _ S5.out.below).mono ?_
  rintro e w6 ⟨rfl, b6⟩
  have S6 := Lib.hid (S5.out.next b6)
  clear p0 p1 p2 r0 r1 r2 s0 s1 s2
  have p0 := S6.out.p.c0
  have p1 := S6.out.p.c1
  have p2 := S6.out.p.c2
  have r0 := S6.out.r.c0
  have r1 := S6.out.r.c1
  have r2 := S6.out.r.c2
  have s0 := S6.out.s.c0
  have s1 := S6.out.s.c1
  have s2 := S6.out.s.c2
  go_wp2_with fail
  refine (CS.out _ S6.out.below).mono ?_
  rintro e w7 ⟨rfl, b7⟩
  have S7 := Lib.hid (S6.out.next b7)
  clear p0 p1 p2 r0 r1 r2 s0 s1 s2
  have p0 := S7.out.p.c0
  have p1 := S7.out.p.c1
  have p2 := S7.out.p.c2
  have r0 := S7.out.r.c0
  have r1 := S7.out.r.c1
  have r2 := S7.out.r.c2
  have s0 := S7.out.s.c0
  have s1 := S7.out.s.c1
  have s2 := S7.out.s.c2
  go_wp2_with fail
  refine (Hid.out cA _).mono ?_
  rintro e w8 ⟨rfl, b8⟩
  go_wp2
  go_ret
  exact ⟨rfl, (S7.out.next b8).below⟩

set_option maxHeartbeats 2000000 in
set_option maxRecDepth 20000 in
/-- What follows; OK: may the server be? T: what is wrong with the others. -/
theorem hard_no_n (k : Int) (a : Option Addr) (n cap : Nat) (L : List Pa) (x y z : Int) (hL : L.length = n) (hn : n ≤ 70) (hc : Fit (x, y, z)) (k0 : 1 ≤ k) (k1 : k ≤ 16) (hok : okB (x, y, z) = false) (t : Int) (htest : testE true 0 k L = t) (hne : t ≠ 0) (cA : AwC9) (w : World) (hp : PAt w a L) :
    Calls Try.prog 7 #[.int .i64 k, .slice a n cap, .agg #[.int .i64 x, .int .i64 y, .int .i64 z]] w fun E w' => E = .returned (.bool true) ∧ Below w.heap.size w w' := by
  have h0 : decide (k < 1) = false := decide_eq_false (by omega)
  have h1 : decide (16 < k) = false := decide_eq_false (by omega)
  have h2 : decide (70 < n) = false := decide_eq_false (by omega)
  have h2' : decide (70 < (n : Int)) = false := decide_eq_false (by omega)
  have hr : ruleE 0 k = 0 := if_neg (by omega)
  have hr2 : ruleE 1048576 k = 0 := if_neg (by omega)
  have CR : Hid (∀ W, Calls Try.prog 21 #[.agg #[.int .i64 x, .int .i64 y, .int .i64 z]] W fun e w' => e = .returned (.bool false) ∧ Below W.heap.size W w') := fun W => by
    have := right_xyz x y z W
    rwa [hok] at this
  have CN : Hid (∀ W, Calls Try.prog 14 #[.agg #[.bool true, .int .i64 0, .int .i64 k], .slice none 0 0] W fun e w' => e = .returned (.int .i64 0) ∧ Below W.heap.size W w') := fun W => by
    have := atest_any true 0 k none 0 [] (by simp) W (.inl rfl)
    rwa [test_nil true hr] at this
  have CM : Hid (∀ W, Calls Try.prog 14 #[.agg #[.bool false, .int .i64 1048576, .int .i64 k], .slice none 0 0] W fun e w' => e = .returned (.int .i64 0) ∧ Below W.heap.size W w') := fun W => by
    have := atest_any false 1048576 k none 0 [] (by simp) W (.inl rfl)
    rwa [test_nil false hr2] at this
  have CT : Hid (∀ W, Below w.heap.size w W → Calls Try.prog 14 #[.agg #[.bool true, .int .i64 0, .int .i64 k], .slice a n cap] W fun e w' => e = .returned (.int .i64 t) ∧ Below W.heap.size W w') := fun W hW => by
    have := atest_any true 0 k a cap L (by omega) W (hp.next hW)
    rw [hL] at this
    rwa [htest] at this
  have d5 : (t != 0) = true := by simpa using hne
  have d6 : (t == 0) = false := by simpa using hne
  have S0 := Lib.hid (Hd.start w k x y z)
  obtain ⟨W0, hW0⟩ : ∃ W0, (((w.alloc (.cells #[.int .i64 x, .int .i64 y, .int .i64 z] 40)).alloc (.cells #[.bool true, .int .i64 0, .int .i64 k] 23)).alloc (.cells #[.bool false, .int .i64 1048576, .int .i64 k] 23)) = W0 := ⟨_, rfl⟩
  rw [hW0] at S0
  have HW := Lib.hid hW0
  clear hW0 hok hp hc hL htest hne
  go_enter Try.func7, Try.ntmps7
  go_upto_region 5 with (fail)
  rw [HW.out]
  have p0 := S0.out.p.c0
  have p1 := S0.out.p.c1
  have p2 := S0.out.p.c2
  have r0 := S0.out.r.c0
  have r1 := S0.out.r.c1
  have r2 := S0.out.r.c2
  have s0 := S0.out.s.c0
  have s1 := S0.out.s.c1
  have s2 := S0.out.s.c2
  go_wp2_with fail
  refine (CR.out _).mono ?_
  rintro e w1 ⟨rfl, b1⟩
  have S1 := Lib.hid (S0.out.next b1)
  clear p0 p1 p2 r0 r1 r2 s0 s1 s2
  have p0 := S1.out.p.c0
  have p1 := S1.out.p.c1
  have p2 := S1.out.p.c2
  have r0 := S1.out.r.c0
  have r1 := S1.out.r.c1
  have r2 := S1.out.r.c2
  have s0 := S1.out.s.c0
  have s1 := S1.out.s.c1
  have s2 := S1.out.s.c2
  go_wp2_with fail
  refine (CN.out _).mono ?_
  rintro e w2 ⟨rfl, b2⟩
  have S2 := Lib.hid (S1.out.next b2)
  clear p0 p1 p2 r0 r1 r2 s0 s1 s2
  have p0 := S2.out.p.c0
  have p1 := S2.out.p.c1
  have p2 := S2.out.p.c2
  have r0 := S2.out.r.c0
  have r1 := S2.out.r.c1
  have r2 := S2.out.r.c2
  have s0 := S2.out.s.c0
  have s1 := S2.out.s.c1
  have s2 := S2.out.s.c2
  go_wp2_with fail
  refine (CM.out _).mono ?_
  rintro e w3 ⟨rfl, b3⟩
  have S3 := Lib.hid (S2.out.next b3)
  clear p0 p1 p2 r0 r1 r2 s0 s1 s2
  have p0 := S3.out.p.c0
  have p1 := S3.out.p.c1
  have p2 := S3.out.p.c2
  have r0 := S3.out.r.c0
  have r1 := S3.out.r.c1
  have r2 := S3.out.r.c2
  have s0 := S3.out.s.c0
  have s1 := S3.out.s.c1
  have s2 := S3.out.s.c2
  go_wp2_with fail
  refine (CT.out _ S3.out.below).mono ?_
  rintro e w4 ⟨rfl, b4⟩
  have S4 := Lib.hid (S3.out.next b4)
  clear p0 p1 p2 r0 r1 r2 s0 s1 s2
  have p0 := S4.out.p.c0
  have p1 := S4.out.p.c1
  have p2 := S4.out.p.c2
  have r0 := S4.out.r.c0
  have r1 := S4.out.r.c1
  have r2 := S4.out.r.c2
  have s0 := S4.out.s.c0
  have s1 := S4.out.s.c1
  have s2 := S4.out.s.c2
  go_wp2_with fail
  refine (Hid.out cA _).mono ?_
  rintro e w5 ⟨rfl, b5⟩
  go_wp2
  go_ret
  exact ⟨rfl, (S4.out.next b5).below⟩

theorem walk_AdmitHard (k : Int) (a : Option Addr) (len cap : Nat) (x y z : Int) (w : World) (hk : -9223372036854775808 ≤ k ∧ k ≤ 9223372036854775807) (hL : ∃ L, ParIn w a len cap L) (hx : -9223372036854775808 ≤ x ∧ x ≤ 9223372036854775807) (hy : -9223372036854775808 ≤ y ∧ y ≤ 9223372036854775807) (hz : -9223372036854775808 ≤ z ∧ z ≤ 9223372036854775807) :
    Calls Try.prog 7 #[.int .i64 k, .slice a len cap, .agg #[.int .i64 x, .int .i64 y, .int .i64 z]] w fun E w' => E = .returned (.bool true) ∧ Below w.heap.size w w' := by
  obtain ⟨L, hP⟩ := hL
  by_cases h0 : k < 1
  · exact hard_o0 k a len cap x y z (decide_eq_true h0) awC9 w
  by_cases h1 : 16 < k
  · exact hard_o1 k a len cap x y z (decide_eq_false h0) (decide_eq_true h1) awC9 w
  by_cases h2 : 70 < len
  · exact hard_o2 k a len cap x y z (decide_eq_false h0) (decide_eq_false h1) (decide_eq_true h2) (decide_eq_true (by omega)) awC9 w
  by_cases ht : testE true 0 k L = 0
  · cases ho : okB (x, y, z) with
    | true => exact hard_ok_t k a len cap L x y z hP.len_ (by omega) ⟨hx, hy, hz⟩ (by omega) (by omega) ho ht awC9 w hP.at_
    | false => exact hard_no_t k a len cap L x y z hP.len_ (by omega) ⟨hx, hy, hz⟩ (by omega) (by omega) ho ht awC9 w hP.at_
  · cases ho : okB (x, y, z) with
    | true => exact hard_ok_n k a len cap L x y z hP.len_ (by omega) ⟨hx, hy, hz⟩ (by omega) (by omega) ho _ rfl ht awC9 w hP.at_
    | false => exact hard_no_n k a len cap L x y z hP.len_ (by omega) ⟨hx, hy, hz⟩ (by omega) (by omega) ho _ rfl ht awC9 w hP.at_
end Go.Proofs.Ytfjepkakimhbbaa
