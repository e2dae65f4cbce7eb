/-
  The walk of AdmitBeside.
-/
import Derived.Test.YtfjepkakimhbbaaLawA1
namespace Go.Proofs.Ytfjepkakimhbbaa
open Go.RowKit Go.Sort Go.Shelf Go.Maps
set_option linter.unusedVariables false
set_option linter.unusedSimpArgs false

/-- The rule and the params in their boxes. -/
structure Tp (w W : World) (h : Bool) (c k x y z : Int) : Prop where
  below : Below w.heap.size w W
  r : Box3 W w.heap.size 23 (.bool h) (.int .i64 c) (.int .i64 k)
  p : Box3 W (w.heap.size + 1) 40 (.int .i64 x) (.int .i64 y) (.int .i64 z)
theorem Tp.next {w W W' : World} {h : Bool} {c k x y z : Int} (s : Tp w W h c k x y z) (b : Below W.heap.size W W') : Tp w W' h c k x y z :=
  ⟨s.below.trans (b.mono s.below.size), s.r.next' b, s.p.next' b⟩
theorem Tp.far {w W W' : World} {h : Bool} {c k x y z : Int} (s : Tp w W h c k x y z) {B : Nat} (b : Below B W W') (hB : w.heap.size + 1 < B) : Tp w W' h c k x y z :=
  ⟨s.below.trans (b.mono (by omega)), s.r.next b (by omega), s.p.next b (by omega)⟩
theorem Tp.start (w : World) (h : Bool) (c k x y z : Int) : Tp w ((w.alloc (.cells #[.bool h, .int .i64 c, .int .i64 k] 23)).alloc (.cells #[.int .i64 x, .int .i64 y, .int .i64 z] 40)) h c k x y z := by
  refine ⟨((Below.refl _ _).alloc (Nat.le_refl _) _).alloc (by simp) _, (Box3.start w _ _ _ _).next' ((Below.refl _ _).alloc (Nat.le_refl _) _), ?_⟩
  have := Box3.start (w.alloc (.cells #[.bool h, .int .i64 c, .int .i64 k] 23)) 40 (.int .i64 x) (.int .i64 y) (.int .i64 z)
  simpa using this
/-- One of params that was built on the spot, behind a row of the function's own. -/
theorem built_one (w : World) (p : Pa) (hf : Fit p) : PAt (w.alloc (.cells #[.int .i64 p.1, .int .i64 p.2.1, .int .i64 p.2.2] 40)) (some ⟨w.heap.size, 0, none⟩) [p] :=
  (built_p w [p] (fun q hq => by simp at hq; rw [hq]; exact hf) (by simp)).at_.2

theorem beside_long (h : Bool) (c k : Int) (a : Option Addr) (n cap : Nat) (x y z : Int) (h2 : decide (60 < n) = true) (h2' : decide (60 < (n : Int)) = true) (cA : AwC9) (w : World) :
    Calls Try.prog 8 #[.agg #[.bool h, .int .i64 c, .int .i64 k], .slice a n cap, .agg #[.int .i64 x, .int .i64 y, .int .i64 z]] w fun E w' => E = .returned (.bool true) ∧ Below w.heap.size w w' := by
  have S0 := Lib.hid (Tp.start w h c k x y z)
  go_enter Try.func8, Try.ntmps8
  go_wp2_with fail
  refine (Hid.out cA _).mono ?_
  rintro e w1 ⟨rfl, b1⟩
  go_wp2
  go_ret
  exact ⟨rfl, (S0.out.next b1).below⟩

set_option maxRecDepth 20000 in
theorem beside_no (h : Bool) (c k : Int) (a : Option Addr) (n cap : Nat) (x y z : Int) (hn : n ≤ 60) (hok : okB (x, y, z) = false) (cA : AwC9) (w : World) :
    Calls Try.prog 8 #[.agg #[.bool h, .int .i64 c, .int .i64 k], .slice a n cap, .agg #[.int .i64 x, .int .i64 y, .int .i64 z]] w fun E w' => E = .returned (.bool true) ∧ Below w.heap.size w w' := by
  have h2 : decide (60 < n) = false := decide_eq_false (by omega)
  have h2' : decide (60 < (n : Int)) = false := decide_eq_false (by omega)
  have CR : Hid (∀ W, Calls Try.prog 21 #[.agg #[.int .i64 x, .int .i64 y, .int .i64 z]] W fun e w' => e = .returned (.bool false) ∧ Below W.heap.size W w') := fun W => by
    have := right_xyz x y z W
    rwa [hok] at this
  have S0 := Lib.hid (Tp.start w h c k x y z)
  obtain ⟨W0, hW0⟩ : ∃ W0, (w.alloc (.cells #[.bool h, .int .i64 c, .int .i64 k] 23)).alloc (.cells #[.int .i64 x, .int .i64 y, .int .i64 z] 40) = W0 := ⟨_, rfl⟩
  rw [hW0] at S0
  have HW := Lib.hid hW0
  clear hW0 hok
  go_enter Try.func8, Try.ntmps8
  go_wp2_with fail
  rw [HW.out]
  refine (CR.out _).mono ?_
  rintro e w1 ⟨rfl, b1⟩
  have S1 := Lib.hid (S0.out.next b1)
  have p0 := S1.out.r.c0
  have p1 := S1.out.r.c1
  have p2 := S1.out.r.c2
  have t0 := S1.out.p.c0
  have t1 := S1.out.p.c1
  have t2 := S1.out.p.c2
  go_wp2_with fail
  refine (Hid.out cA _).mono ?_
  rintro e w20 ⟨rfl, b20⟩
  go_wp2
  go_ret
  exact ⟨rfl, (S1.out.next b20).below⟩

set_option maxRecDepth 20000 in
theorem beside_t (h : Bool) (c k : Int) (a : Option Addr) (n cap : Nat) (L : List Pa) (x y z : Int) (hL : L.length = n) (hn : n ≤ 60) (hok : okB (x, y, z) = true) (t : Int) (ht : testE h c k L = t) (hne : t ≠ 0) (cA : AwC9) (w : World) (hp : PAt w a L) :
    Calls Try.prog 8 #[.agg #[.bool h, .int .i64 c, .int .i64 k], .slice a n cap, .agg #[.int .i64 x, .int .i64 y, .int .i64 z]] w fun E w' => E = .returned (.bool true) ∧ Below w.heap.size w w' := by
  have h2 : decide (60 < n) = false := decide_eq_false (by omega)
  have h2' : decide (60 < (n : Int)) = false := decide_eq_false (by omega)
  have CR : Hid (∀ W, Calls Try.prog 21 #[.agg #[.int .i64 x, .int .i64 y, .int .i64 z]] W fun e w' => e = .returned (.bool true) ∧ Below W.heap.size W w') := fun W => by
    have := right_xyz x y z W
    rwa [hok] at this
  have CT : Hid (∀ W, Below w.heap.size w W → Calls Try.prog 14 #[.agg #[.bool h, .int .i64 c, .int .i64 k], .slice a n cap] W fun e w' => e = .returned (.int .i64 t) ∧ Below W.heap.size W w') := fun W hW => by
    have := atest_any h c k a cap L (by omega) W (hp.next hW)
    rw [hL] at this
    rwa [ht] at this
  have d5 : (t != 0) = true := by simpa using hne
  have d6 : (t == 0) = false := by simpa using hne
  have S0 := Lib.hid (Tp.start w h c k x y z)
  obtain ⟨W0, hW0⟩ : ∃ W0, (w.alloc (.cells #[.bool h, .int .i64 c, .int .i64 k] 23)).alloc (.cells #[.int .i64 x, .int .i64 y, .int .i64 z] 40) = W0 := ⟨_, rfl⟩
  rw [hW0] at S0
  have HW := Lib.hid hW0
  clear hW0 hok hp hL ht hne
  go_enter Try.func8, Try.ntmps8
  go_wp2_with fail
  rw [HW.out]
  refine (CR.out _).mono ?_
  rintro e w1 ⟨rfl, b1⟩
  have S1 := Lib.hid (S0.out.next b1)
  have p0 := S1.out.r.c0
  have p1 := S1.out.r.c1
  have p2 := S1.out.r.c2
  have t0 := S1.out.p.c0
  have t1 := S1.out.p.c1
  have t2 := S1.out.p.c2
  go_wp2_with fail
  refine (CT.out _ S1.out.below).mono ?_
  rintro e w2 ⟨rfl, b2⟩
  have S2 := Lib.hid (S1.out.next b2)
  clear p0 p1 p2 t0 t1 t2
  have p0 := S2.out.r.c0
  have p1 := S2.out.r.c1
  have p2 := S2.out.r.c2
  have t0 := S2.out.p.c0
  have t1 := S2.out.p.c1
  have t2 := S2.out.p.c2
  go_wp2_with fail
  refine (Hid.out cA _).mono ?_
  rintro e w20 ⟨rfl, b20⟩
  go_wp2
  go_ret
  exact ⟨rfl, (S2.out.next b20).below⟩

set_option maxHeartbeats 4000000 in
set_option maxRecDepth 20000 in
theorem beside_over (h : Bool) (c k : Int) (a : Option Addr) (n cap : Nat) (L : List Pa) (x y z : Int) (hL : L.length = n) (hn : n ≤ 60) (hnil : a = none → n = 0 ∧ cap = 0) (hf : Fit (x, y, z)) (hok : okB (x, y, z) = true) (ht : testE h c k L = 0) (hu : roomN h c k (sumU h L) (maxU h L) < upA h (x, y, z)) (cA : AwC9) (w : World) (hp : PAt w a L) :
    Calls Try.prog 8 #[.agg #[.bool h, .int .i64 c, .int .i64 k], .slice a n cap, .agg #[.int .i64 x, .int .i64 y, .int .i64 z]] w fun E w' => E = .returned (.bool true) ∧ Below w.heap.size w w' := by
  have h2 : decide (60 < n) = false := decide_eq_false (by omega)
  have h2' : decide (60 < (n : Int)) = false := decide_eq_false (by omega)
  have CR : Hid (∀ W, Calls Try.prog 21 #[.agg #[.int .i64 x, .int .i64 y, .int .i64 z]] W fun e w' => e = .returned (.bool true) ∧ Below W.heap.size W w') := fun W => by
    have := right_xyz x y z W
    rwa [hok] at this
  have CT : Hid (∀ W, Below w.heap.size w W → Calls Try.prog 14 #[.agg #[.bool h, .int .i64 c, .int .i64 k], .slice a n cap] W fun e w' => e = .returned (.int .i64 0) ∧ Below W.heap.size W w') := fun W hW => by
    have := atest_any h c k a cap L (by omega) W (hp.next hW)
    rw [hL] at this
    rwa [ht] at this
  obtain ⟨i1, i2⟩ := beside_is ht hok
  have CM : Hid (∀ W, Below w.heap.size w W → Calls Try.prog 18 #[.agg #[.bool h, .int .i64 c, .int .i64 k], .slice a n cap] W fun e w' => e = .returned (.tuple #[.int .i64 (roomN h c k (sumU h L) (maxU h L)), .int .i64 0]) ∧ Below W.heap.size W w') := fun W hW => by
    have := room_any h c k a cap L (by omega) W (hp.next hW)
    rw [hL] at this
    rwa [show RoomR h c k L = (roomN h c k (sumU h L) (maxU h L), 0) from if_pos ht] at this
  have CK : Hid (∀ W, Calls Try.prog 23 #[.bool h, .agg #[.int .i64 x, .int .i64 y, .int .i64 z]] W fun e w' => e = .returned (.int .i64 (upA h (x, y, z))) ∧ Below W.heap.size W w') := fun W => asks_ok h x y z hok W
  have CC : Hid (∀ W, Below w.heap.size w W → Calls Try.prog 19 #[.agg #[.bool h, .int .i64 c, .int .i64 k], .agg #[.int .i64 x, .int .i64 y, .int .i64 z], .slice a n cap] W fun e w' => e = .returned (.tuple #[.int .i64 (copN h c k L (x, y, z)), .int .i64 0]) ∧ Below W.heap.size W w') := fun W hW => by
    have := copies_any h c k (x, y, z) hf a cap L (by omega) W (hp.next hW)
    rw [hL] at this
    rwa [show CopR h c k L (x, y, z) = (copN h c k L (x, y, z), 0) by unfold CopR; rw [if_pos ht, if_pos hok]] at this
  have hT2 : testE h c k (L ++ [(x, y, z)]) = 17 := by
    have e := test_snoc ht hok
    split at e
    · next => exact absurd (i1.1 e) (by omega)
    · next => exact e
  have hm : ¬ 0 < copN h c k L (x, y, z) := fun e => by have := i2.1 e; omega
  have CT2 : Hid (∀ W a2 cap2, PAt W a2 (L ++ [(x, y, z)]) → Calls Try.prog 14 #[.agg #[.bool h, .int .i64 c, .int .i64 k], .slice a2 (n + 1) cap2] W fun e w' => e = .returned (.int .i64 17) ∧ Below W.heap.size W w') := fun W a2 cap2 hW => by
    have := atest_any h c k a2 cap2 (L ++ [(x, y, z)]) (by simp; omega) W hW
    rw [hT2, List.length_append, hL] at this
    exact this
  have RB := room_is (h := h) (testE_ok ht).1 (sumU h L) (maxU h L)
  have RB1 := RB.1
  have UB := (ask_ok (h := h) hok).2
  generalize roomN h c k (sumU h L) (maxU h L) = nn at *
  generalize upA h (x, y, z) = u at *
  generalize copN h c k L (x, y, z) = m at *
  have d1 : decide (u ≤ nn) = false := decide_eq_false (by omega)
  have d2 : decide (0 < m) = false := decide_eq_false hm
  have d3 : decide (nn < u) = true := decide_eq_true hu
  have HP : Hid (PAt w a L ∧ L.length = n ∧ (a = none → n = 0 ∧ cap = 0) ∧ n ≤ 60 ∧ Fit (x, y, z)) := ⟨hp, hL, hnil, hn, hf⟩
  have S0 := Lib.hid (Tp.start w h c k x y z)
  obtain ⟨W0, hW0⟩ : ∃ W0, (w.alloc (.cells #[.bool h, .int .i64 c, .int .i64 k] 23)).alloc (.cells #[.int .i64 x, .int .i64 y, .int .i64 z] 40) = W0 := ⟨_, rfl⟩
  rw [hW0] at S0
  have HW := Lib.hid hW0
  clear hW0 hok hp hL ht hu hm hT2 hn hf hnil i1 i2 RB RB1 UB
  go_enter Try.func8, Try.ntmps8
  go_wp2_with fail
  rw [HW.out]
  refine (CR.out _).mono ?_
  rintro e w1 ⟨rfl, b1⟩
  have S1 := Lib.hid (S0.out.next b1)
  have p0 := S1.out.r.c0
  have p1 := S1.out.r.c1
  have p2 := S1.out.r.c2
  have t0 := S1.out.p.c0
  have t1 := S1.out.p.c1
  have t2 := S1.out.p.c2
  go_wp2_with fail
  refine (CT.out _ S1.out.below).mono ?_
  rintro e w2 ⟨rfl, b2⟩
  have S2 := Lib.hid (S1.out.next b2)
  clear p0 p1 p2 t0 t1 t2
  have p0 := S2.out.r.c0
  have p1 := S2.out.r.c1
  have p2 := S2.out.r.c2
  have t0 := S2.out.p.c0
  have t1 := S2.out.p.c1
  have t2 := S2.out.p.c2
  go_wp2_with fail
  refine (CM.out _ S2.out.below).mono ?_
  rintro e w3 ⟨rfl, b3⟩
  have S3 := Lib.hid (S2.out.next b3)
  clear p0 p1 p2 t0 t1 t2
  have p0 := S3.out.r.c0
  have p1 := S3.out.r.c1
  have p2 := S3.out.r.c2
  have t0 := S3.out.p.c0
  have t1 := S3.out.p.c1
  have t2 := S3.out.p.c2
  go_wp2_with fail
  refine (CK.out _).mono ?_
  rintro e w4 ⟨rfl, b4⟩
  have S4 := Lib.hid (S3.out.next b4)
  clear p0 p1 p2 t0 t1 t2
  have p0 := S4.out.r.c0
  have p1 := S4.out.r.c1
  have p2 := S4.out.r.c2
  have t0 := S4.out.p.c0
  have t1 := S4.out.p.c1
  have t2 := S4.out.p.c2
  go_wp2_with (at_builtin; refine append_p rfl _ _ rfl w4.heap.size _ [] L rfl (OwnP.nil _ _) a n cap rfl HP.out.2.1 (HP.out.1.next S4.out.below) HP.out.2.2.1 (by have := HP.out.2.2.2.1; simp; omega) (Nat.le_refl _) ?_)
  intro v5 w5 hown hgrow
  have b5 : Below w4.heap.size w4 w5 := (Below.refl _ _).grown hgrow (Nat.le_refl _) (fun k e => by cases e)
  have S5 := Lib.hid (S4.out.next b5)
  have HB : Hid (w.heap.size + 1 < w4.heap.size ∧ w4.heap.size ≤ w5.heap.size) := ⟨S4.out.p.lt, b5.size⟩
  obtain ⟨a5, cap5, rfl, _, _⟩ := hown.form
  rw [HP.out.2.1]
  rw [HP.out.2.1] at hown
  have HO := Lib.hid hown
  clear hown hgrow b5
  clear p0 p1 p2 t0 t1 t2
  have p0 := S5.out.r.c0
  have p1 := S5.out.r.c1
  have p2 := S5.out.r.c2
  have t0 := S5.out.p.c0
  have t1 := S5.out.p.c1
  have t2 := S5.out.p.c2
  go_wp2_with (at_builtin; refine append_p rfl _ _ rfl w4.heap.size _ L [(x, y, z)] rfl (HO.out.kept ((Below.refl _ _).alloc (Nat.le_refl _) _)) (some ⟨w5.heap.size, 0, none⟩) 1 1 rfl rfl (built_one w5 (x, y, z) HP.out.2.2.2.2) (fun e => by cases e) (by have := HP.out.2.2.2.1; have := HP.out.2.1; omega) (by have := HB.out; simp; omega) ?_)
  intro v6 w6 hown hgrow
  have b6 : Below w4.heap.size w5 w6 := ((Below.refl _ _).alloc HB.out.2 _).grown hgrow (by have := HB.out; simp; omega) (fun k e => HO.out.blk k e)
  have S6 := Lib.hid (S5.out.far b6 HB.out.1)
  obtain ⟨a6, cap6, e6, _, _⟩ := hown.form
  rw [List.length_append, HP.out.2.1] at e6
  have e6' : v6 = .slice a6 (n + 1) cap6 := e6
  subst e6'
  have HO6 := Lib.hid hown
  clear hown hgrow b6 e6 HO
  clear p0 p1 p2 t0 t1 t2
  have p0 := S6.out.r.c0
  have p1 := S6.out.r.c1
  have p2 := S6.out.r.c2
  have t0 := S6.out.p.c0
  have t1 := S6.out.p.c1
  have t2 := S6.out.p.c2
  go_wp2_with fail
  refine (CC.out _ S6.out.below).mono ?_
  rintro e w7 ⟨rfl, b7⟩
  have S7 := Lib.hid (S6.out.next b7)
  clear p0 p1 p2 t0 t1 t2
  have p0 := S7.out.r.c0
  have p1 := S7.out.r.c1
  have p2 := S7.out.r.c2
  have t0 := S7.out.p.c0
  have t1 := S7.out.p.c1
  have t2 := S7.out.p.c2
  have HO7 := Lib.hid (HO6.out.kept b7)
  go_wp2_with fail
  refine (CT2.out _ _ _ HO7.out.at_.2).mono ?_
  rintro e w8 ⟨rfl, b8⟩
  have S8 := Lib.hid (S7.out.next b8)
  clear p0 p1 p2 t0 t1 t2
  have p0 := S8.out.r.c0
  have p1 := S8.out.r.c1
  have p2 := S8.out.r.c2
  have t0 := S8.out.p.c0
  have t1 := S8.out.p.c1
  have t2 := S8.out.p.c2
  have HO8 := Lib.hid (HO7.out.kept b8)
  go_wp2_with fail
  refine (Hid.out cA _).mono ?_
  rintro e w20 ⟨rfl, b20⟩
  go_wp2
  go_ret
  exact ⟨rfl, (S8.out.next b20).below⟩

set_option maxHeartbeats 4000000 in
set_option maxRecDepth 20000 in
theorem beside_hard (c k : Int) (a : Option Addr) (n cap : Nat) (L : List Pa) (x y z : Int) (hL : L.length = n) (hn : n ≤ 60) (hnil : a = none → n = 0 ∧ cap = 0) (hf : Fit (x, y, z)) (hok : okB (x, y, z) = true) (ht : testE true c k L = 0) (hu : upA true (x, y, z) ≤ roomN true c k (sumU true L) (maxU true L)) (cA : AwC9) (w : World) (hp : PAt w a L) :
    Calls Try.prog 8 #[.agg #[.bool true, .int .i64 c, .int .i64 k], .slice a n cap, .agg #[.int .i64 x, .int .i64 y, .int .i64 z]] w fun E w' => E = .returned (.bool true) ∧ Below w.heap.size w w' := by
  have h2 : decide (60 < n) = false := decide_eq_false (by omega)
  have h2' : decide (60 < (n : Int)) = false := decide_eq_false (by omega)
  have CR : Hid (∀ W, Calls Try.prog 21 #[.agg #[.int .i64 x, .int .i64 y, .int .i64 z]] W fun e w' => e = .returned (.bool true) ∧ Below W.heap.size W w') := fun W => by
    have := right_xyz x y z W
    rwa [hok] at this
  have CT : Hid (∀ W, Below w.heap.size w W → Calls Try.prog 14 #[.agg #[.bool true, .int .i64 c, .int .i64 k], .slice a n cap] W fun e w' => e = .returned (.int .i64 0) ∧ Below W.heap.size W w') := fun W hW => by
    have := atest_any true c k a cap L (by omega) W (hp.next hW)
    rw [hL] at this
    rwa [ht] at this
  obtain ⟨i1, i2⟩ := beside_is ht hok
  have CM : Hid (∀ W, Below w.heap.size w W → Calls Try.prog 18 #[.agg #[.bool true, .int .i64 c, .int .i64 k], .slice a n cap] W fun e w' => e = .returned (.tuple #[.int .i64 (roomN true c k (sumU true L) (maxU true L)), .int .i64 0]) ∧ Below W.heap.size W w') := fun W hW => by
    have := room_any true c k a cap L (by omega) W (hp.next hW)
    rw [hL] at this
    rwa [show RoomR true c k L = (roomN true c k (sumU true L) (maxU true L), 0) from if_pos ht] at this
  have CK : Hid (∀ W, Calls Try.prog 23 #[.bool true, .agg #[.int .i64 x, .int .i64 y, .int .i64 z]] W fun e w' => e = .returned (.int .i64 (upA true (x, y, z))) ∧ Below W.heap.size W w') := fun W => asks_ok true x y z hok W
  have CC : Hid (∀ W, Below w.heap.size w W → Calls Try.prog 19 #[.agg #[.bool true, .int .i64 c, .int .i64 k], .agg #[.int .i64 x, .int .i64 y, .int .i64 z], .slice a n cap] W fun e w' => e = .returned (.tuple #[.int .i64 (copN true c k L (x, y, z)), .int .i64 0]) ∧ Below W.heap.size W w') := fun W hW => by
    have := copies_any true c k (x, y, z) hf a cap L (by omega) W (hp.next hW)
    rw [hL] at this
    rwa [show CopR true c k L (x, y, z) = (copN true c k L (x, y, z), 0) by unfold CopR; rw [if_pos ht, if_pos hok]] at this
  have hT2 : testE true c k (L ++ [(x, y, z)]) = 0 := i1.2 hu
  have hm : 0 < copN true c k L (x, y, z) := i2.2 hu
  obtain ⟨_, l1, l2⟩ := room_less ht hok hu
  have l3 : ¬ roomN true c k (sumU true L) (maxU true L) < roomN true c k (sumU true (L ++ [(x, y, z)])) (maxU true (L ++ [(x, y, z)])) := by omega
  have CT2 : Hid (∀ W a2 cap2, PAt W a2 (L ++ [(x, y, z)]) → Calls Try.prog 14 #[.agg #[.bool true, .int .i64 c, .int .i64 k], .slice a2 (n + 1) cap2] W fun e w' => e = .returned (.int .i64 0) ∧ Below W.heap.size W w') := fun W a2 cap2 hW => by
    have := atest_any true c k a2 cap2 (L ++ [(x, y, z)]) (by simp; omega) W hW
    rw [hT2, List.length_append, hL] at this
    exact this
  have CM2 : Hid (∀ W a2 cap2, PAt W a2 (L ++ [(x, y, z)]) → Calls Try.prog 18 #[.agg #[.bool true, .int .i64 c, .int .i64 k], .slice a2 (n + 1) cap2] W fun e w' => e = .returned (.tuple #[.int .i64 (roomN true c k (sumU true (L ++ [(x, y, z)])) (maxU true (L ++ [(x, y, z)]))), .int .i64 0]) ∧ Below W.heap.size W w') := fun W a2 cap2 hW => by
    have := room_any true c k a2 cap2 (L ++ [(x, y, z)]) (by simp; omega) W hW
    rw [show RoomR true c k (L ++ [(x, y, z)]) = (roomN true c k (sumU true (L ++ [(x, y, z)])) (maxU true (L ++ [(x, y, z)])), 0) from if_pos hT2, List.length_append, hL] at this
    exact this
  generalize roomN true c k (sumU true (L ++ [(x, y, z)])) (maxU true (L ++ [(x, y, z)])) = nn2 at *
  have RB := room_is (h := true) (testE_ok ht).1 (sumU true L) (maxU true L)
  have RB1 := RB.1
  have UB := (ask_ok (h := true) hok).2
  generalize roomN true c k (sumU true L) (maxU true L) = nn at *
  generalize upA true (x, y, z) = u at *
  generalize copN true c k L (x, y, z) = m at *
  have d1 : decide (u ≤ nn) = true := decide_eq_true hu
  have d2 : decide (0 < m) = true := decide_eq_true hm
  have d3 : decide (nn < u) = false := decide_eq_false (by omega)
  have d4 : decide (nn < nn2) = false := decide_eq_false l3
  have HP : Hid (PAt w a L ∧ L.length = n ∧ (a = none → n = 0 ∧ cap = 0) ∧ n ≤ 60 ∧ Fit (x, y, z)) := ⟨hp, hL, hnil, hn, hf⟩
  have S0 := Lib.hid (Tp.start w true c k x y z)
  obtain ⟨W0, hW0⟩ : ∃ W0, (w.alloc (.cells #[.bool true, .int .i64 c, .int .i64 k] 23)).alloc (.cells #[.int .i64 x, .int .i64 y, .int .i64 z] 40) = W0 := ⟨_, rfl⟩
  rw [hW0] at S0
  have HW := Lib.hid hW0
  clear hW0 hok hp hL ht hu hm hT2 hn hf hnil i1 i2 RB RB1 UB l1 l2 l3
  go_enter Try.func8, Try.ntmps8
  go_wp2_with fail
  rw [HW.out]
  refine (CR.out _).mono ?_
  rintro e w1 ⟨rfl, b1⟩
  have S1 := Lib.hid (S0.out.next b1)
  have p0 := S1.out.r.c0
  have p1 := S1.out.r.c1
  have p2 := S1.out.r.c2
  have t0 := S1.out.p.c0
  have t1 := S1.out.p.c1
  have t2 := S1.out.p.c2
  go_wp2_with fail
  refine (CT.out _ S1.out.below).mono ?_
  rintro e w2 ⟨rfl, b2⟩
  have S2 := Lib.hid (S1.out.next b2)
  clear p0 p1 p2 t0 t1 t2
  have p0 := S2.out.r.c0
  have p1 := S2.out.r.c1
  have p2 := S2.out.r.c2
  have t0 := S2.out.p.c0
  have t1 := S2.out.p.c1
  have t2 := S2.out.p.c2
  go_wp2_with fail
  refine (CM.out _ S2.out.below).mono ?_
  rintro e w3 ⟨rfl, b3⟩
  have S3 := Lib.hid (S2.out.next b3)
  clear p0 p1 p2 t0 t1 t2
  have p0 := S3.out.r.c0
  have p1 := S3.out.r.c1
  have p2 := S3.out.r.c2
  have t0 := S3.out.p.c0
  have t1 := S3.out.p.c1
  have t2 := S3.out.p.c2
  go_wp2_with fail
  refine (CK.out _).mono ?_
  rintro e w4 ⟨rfl, b4⟩
  have S4 := Lib.hid (S3.out.next b4)
  clear p0 p1 p2 t0 t1 t2
  have p0 := S4.out.r.c0
  have p1 := S4.out.r.c1
  have p2 := S4.out.r.c2
  have t0 := S4.out.p.c0
  have t1 := S4.out.p.c1
  have t2 := S4.out.p.c2
  go_wp2_with (at_builtin; refine append_p rfl _ _ rfl w4.heap.size _ [] L rfl (OwnP.nil _ _) a n cap rfl HP.out.2.1 (HP.out.1.next S4.out.below) HP.out.2.2.1 (by have := HP.out.2.2.2.1; simp; omega) (Nat.le_refl _) ?_)
  intro v5 w5 hown hgrow
  have b5 : Below w4.heap.size w4 w5 := (Below.refl _ _).grown hgrow (Nat.le_refl _) (fun k e => by cases e)
  have S5 := Lib.hid (S4.out.next b5)
  have HB : Hid (w.heap.size + 1 < w4.heap.size ∧ w4.heap.size ≤ w5.heap.size) := ⟨S4.out.p.lt, b5.size⟩
  obtain ⟨a5, cap5, rfl, _, _⟩ := hown.form
  rw [HP.out.2.1]
  rw [HP.out.2.1] at hown
  have HO := Lib.hid hown
  clear hown hgrow b5
  clear p0 p1 p2 t0 t1 t2
  have p0 := S5.out.r.c0
  have p1 := S5.out.r.c1
  have p2 := S5.out.r.c2
  have t0 := S5.out.p.c0
  have t1 := S5.out.p.c1
  have t2 := S5.out.p.c2
  go_wp2_with (at_builtin; refine append_p rfl _ _ rfl w4.heap.size _ L [(x, y, z)] rfl (HO.out.kept ((Below.refl _ _).alloc (Nat.le_refl _) _)) (some ⟨w5.heap.size, 0, none⟩) 1 1 rfl rfl (built_one w5 (x, y, z) HP.out.2.2.2.2) (fun e => by cases e) (by have := HP.out.2.2.2.1; have := HP.out.2.1; omega) (by have := HB.out; simp; omega) ?_)
  intro v6 w6 hown hgrow
  have b6 : Below w4.heap.size w5 w6 := ((Below.refl _ _).alloc HB.out.2 _).grown hgrow (by have := HB.out; simp; omega) (fun k e => HO.out.blk k e)
  have S6 := Lib.hid (S5.out.far b6 HB.out.1)
  obtain ⟨a6, cap6, e6, _, _⟩ := hown.form
  rw [List.length_append, HP.out.2.1] at e6
  have e6' : v6 = .slice a6 (n + 1) cap6 := e6
  subst e6'
  have HO6 := Lib.hid hown
  clear hown hgrow b6 e6 HO
  clear p0 p1 p2 t0 t1 t2
  have p0 := S6.out.r.c0
  have p1 := S6.out.r.c1
  have p2 := S6.out.r.c2
  have t0 := S6.out.p.c0
  have t1 := S6.out.p.c1
  have t2 := S6.out.p.c2
  go_wp2_with fail
  refine (CC.out _ S6.out.below).mono ?_
  rintro e w7 ⟨rfl, b7⟩
  have S7 := Lib.hid (S6.out.next b7)
  clear p0 p1 p2 t0 t1 t2
  have p0 := S7.out.r.c0
  have p1 := S7.out.r.c1
  have p2 := S7.out.r.c2
  have t0 := S7.out.p.c0
  have t1 := S7.out.p.c1
  have t2 := S7.out.p.c2
  have HO7 := Lib.hid (HO6.out.kept b7)
  go_wp2_with fail
  refine (CT2.out _ _ _ HO7.out.at_.2).mono ?_
  rintro e w8 ⟨rfl, b8⟩
  have S8 := Lib.hid (S7.out.next b8)
  clear p0 p1 p2 t0 t1 t2
  have p0 := S8.out.r.c0
  have p1 := S8.out.r.c1
  have p2 := S8.out.r.c2
  have t0 := S8.out.p.c0
  have t1 := S8.out.p.c1
  have t2 := S8.out.p.c2
  have HO8 := Lib.hid (HO7.out.kept b8)
  go_wp2_with fail
  refine (CM2.out _ _ _ HO8.out.at_.2).mono ?_
  rintro e w9 ⟨rfl, b9⟩
  have S9 := Lib.hid (S8.out.next b9)
  clear p0 p1 p2 t0 t1 t2
  have p0 := S9.out.r.c0
  have p1 := S9.out.r.c1
  have p2 := S9.out.r.c2
  have t0 := S9.out.p.c0
  have t1 := S9.out.p.c1
  have t2 := S9.out.p.c2
  go_wp2_with fail
  refine (Hid.out cA _).mono ?_
  rintro e w20 ⟨rfl, b20⟩
  go_wp2
  go_ret
  exact ⟨rfl, (S9.out.next b20).below⟩

set_option maxHeartbeats 4000000 in
set_option maxRecDepth 20000 in
theorem beside_soft_s (c k : Int) (a : Option Addr) (n cap : Nat) (L : List Pa) (x y z : Int) (hL : L.length = n) (hn : n ≤ 60) (hnil : a = none → n = 0 ∧ cap = 0) (hf : Fit (x, y, z)) (hok : okB (x, y, z) = true) (ht : testE false c k L = 0) (hu : upA false (x, y, z) ≤ roomN false c k (sumU false L) (maxU false L)) (hs : roomN false c k (sumU false L) (maxU false L) < 1048576) (cA : AwC9) (w : World) (hp : PAt w a L) :
    Calls Try.prog 8 #[.agg #[.bool false, .int .i64 c, .int .i64 k], .slice a n cap, .agg #[.int .i64 x, .int .i64 y, .int .i64 z]] w fun E w' => E = .returned (.bool true) ∧ Below w.heap.size w w' := by
  have h2 : decide (60 < n) = false := decide_eq_false (by omega)
  have h2' : decide (60 < (n : Int)) = false := decide_eq_false (by omega)
  have CR : Hid (∀ W, Calls Try.prog 21 #[.agg #[.int .i64 x, .int .i64 y, .int .i64 z]] W fun e w' => e = .returned (.bool true) ∧ Below W.heap.size W w') := fun W => by
    have := right_xyz x y z W
    rwa [hok] at this
  have CT : Hid (∀ W, Below w.heap.size w W → Calls Try.prog 14 #[.agg #[.bool false, .int .i64 c, .int .i64 k], .slice a n cap] W fun e w' => e = .returned (.int .i64 0) ∧ Below W.heap.size W w') := fun W hW => by
    have := atest_any false c k a cap L (by omega) W (hp.next hW)
    rw [hL] at this
    rwa [ht] at this
  obtain ⟨i1, i2⟩ := beside_is ht hok
  have CM : Hid (∀ W, Below w.heap.size w W → Calls Try.prog 18 #[.agg #[.bool false, .int .i64 c, .int .i64 k], .slice a n cap] W fun e w' => e = .returned (.tuple #[.int .i64 (roomN false c k (sumU false L) (maxU false L)), .int .i64 0]) ∧ Below W.heap.size W w') := fun W hW => by
    have := room_any false c k a cap L (by omega) W (hp.next hW)
    rw [hL] at this
    rwa [show RoomR false c k L = (roomN false c k (sumU false L) (maxU false L), 0) from if_pos ht] at this
  have CK : Hid (∀ W, Calls Try.prog 23 #[.bool false, .agg #[.int .i64 x, .int .i64 y, .int .i64 z]] W fun e w' => e = .returned (.int .i64 (upA false (x, y, z))) ∧ Below W.heap.size W w') := fun W => asks_ok false x y z hok W
  have CC : Hid (∀ W, Below w.heap.size w W → Calls Try.prog 19 #[.agg #[.bool false, .int .i64 c, .int .i64 k], .agg #[.int .i64 x, .int .i64 y, .int .i64 z], .slice a n cap] W fun e w' => e = .returned (.tuple #[.int .i64 (copN false c k L (x, y, z)), .int .i64 0]) ∧ Below W.heap.size W w') := fun W hW => by
    have := copies_any false c k (x, y, z) hf a cap L (by omega) W (hp.next hW)
    rw [hL] at this
    rwa [show CopR false c k L (x, y, z) = (copN false c k L (x, y, z), 0) by unfold CopR; rw [if_pos ht, if_pos hok]] at this
  have hT2 : testE false c k (L ++ [(x, y, z)]) = 0 := i1.2 hu
  have hm : 0 < copN false c k L (x, y, z) := i2.2 hu
  obtain ⟨_, l1, l2⟩ := room_less ht hok hu
  have l3 : ¬ roomN false c k (sumU false L) (maxU false L) < roomN false c k (sumU false (L ++ [(x, y, z)])) (maxU false (L ++ [(x, y, z)])) := by omega
  have l4 : roomN false c k (sumU false (L ++ [(x, y, z)])) (maxU false (L ++ [(x, y, z)])) = roomN false c k (sumU false L) (maxU false L) - upA false (x, y, z) := l2 rfl hs
  have CT2 : Hid (∀ W a2 cap2, PAt W a2 (L ++ [(x, y, z)]) → Calls Try.prog 14 #[.agg #[.bool false, .int .i64 c, .int .i64 k], .slice a2 (n + 1) cap2] W fun e w' => e = .returned (.int .i64 0) ∧ Below W.heap.size W w') := fun W a2 cap2 hW => by
    have := atest_any false c k a2 cap2 (L ++ [(x, y, z)]) (by simp; omega) W hW
    rw [hT2, List.length_append, hL] at this
    exact this
  have CM2 : Hid (∀ W a2 cap2, PAt W a2 (L ++ [(x, y, z)]) → Calls Try.prog 18 #[.agg #[.bool false, .int .i64 c, .int .i64 k], .slice a2 (n + 1) cap2] W fun e w' => e = .returned (.tuple #[.int .i64 (roomN false c k (sumU false (L ++ [(x, y, z)])) (maxU false (L ++ [(x, y, z)]))), .int .i64 0]) ∧ Below W.heap.size W w') := fun W a2 cap2 hW => by
    have := room_any false c k a2 cap2 (L ++ [(x, y, z)]) (by simp; omega) W hW
    rw [show RoomR false c k (L ++ [(x, y, z)]) = (roomN false c k (sumU false (L ++ [(x, y, z)])) (maxU false (L ++ [(x, y, z)])), 0) from if_pos hT2, List.length_append, hL] at this
    exact this
  generalize roomN false c k (sumU false (L ++ [(x, y, z)])) (maxU false (L ++ [(x, y, z)])) = nn2 at *
  have RB := room_is (h := false) (testE_ok ht).1 (sumU false L) (maxU false L)
  have RB1 := RB.1
  have UB := (ask_ok (h := false) hok).2
  generalize roomN false c k (sumU false L) (maxU false L) = nn at *
  generalize upA false (x, y, z) = u at *
  generalize copN false c k L (x, y, z) = m at *
  have d1 : decide (u ≤ nn) = true := decide_eq_true hu
  have d2 : decide (0 < m) = true := decide_eq_true hm
  have d3 : decide (nn < u) = false := decide_eq_false (by omega)
  have d4 : decide (nn < nn2) = false := decide_eq_false l3
  have d5 : decide (nn < 1048576) = true := decide_eq_true hs
  have d6 : wrap64 (nn - u) = nn - u := wrapA (by omega) (by omega)
  have d7 : (nn2 == nn - u) = true := by rw [l4]; simp
  have HP : Hid (PAt w a L ∧ L.length = n ∧ (a = none → n = 0 ∧ cap = 0) ∧ n ≤ 60 ∧ Fit (x, y, z)) := ⟨hp, hL, hnil, hn, hf⟩
  have S0 := Lib.hid (Tp.start w false c k x y z)
  obtain ⟨W0, hW0⟩ : ∃ W0, (w.alloc (.cells #[.bool false, .int .i64 c, .int .i64 k] 23)).alloc (.cells #[.int .i64 x, .int .i64 y, .int .i64 z] 40) = W0 := ⟨_, rfl⟩
  rw [hW0] at S0
  have HW := Lib.hid hW0
  clear hW0 hok hp hL ht hu hm hT2 hn hf hnil i1 i2 RB RB1 UB l1 l2 l3 hs l4
  go_enter Try.func8, Try.ntmps8
  go_wp2_with fail
  rw [HW.out]
  refine (CR.out _).mono ?_
  rintro e w1 ⟨rfl, b1⟩
  have S1 := Lib.hid (S0.out.next b1)
  have p0 := S1.out.r.c0
  have p1 := S1.out.r.c1
  have p2 := S1.out.r.c2
  have t0 := S1.out.p.c0
  have t1 := S1.out.p.c1
  have t2 := S1.out.p.c2
  go_wp2_with fail
  refine (CT.out _ S1.out.below).mono ?_
  rintro e w2 ⟨rfl, b2⟩
  have S2 := Lib.hid (S1.out.next b2)
  clear p0 p1 p2 t0 t1 t2
  have p0 := S2.out.r.c0
  have p1 := S2.out.r.c1
  have p2 := S2.out.r.c2
  have t0 := S2.out.p.c0
  have t1 := S2.out.p.c1
  have t2 := S2.out.p.c2
  go_wp2_with fail
  refine (CM.out _ S2.out.below).mono ?_
  rintro e w3 ⟨rfl, b3⟩
  have S3 := Lib.hid (S2.out.next b3)
  clear p0 p1 p2 t0 t1 t2
  have p0 := S3.out.r.c0
  have p1 := S3.out.r.c1
  have p2 := S3.out.r.c2
  have t0 := S3.out.p.c0
  have t1 := S3.out.p.c1
  have t2 := S3.out.p.c2
  go_wp2_with fail
  refine (CK.out _).mono ?_
  rintro e w4 ⟨rfl, b4⟩
  have S4 := Lib.hid (S3.out.next b4)
  clear p0 p1 p2 t0 t1 t2
  have p0 := S4.out.r.c0
  have p1 := S4.out.r.c1
  have p2 := S4.out.r.c2
  have t0 := S4.out.p.c0
  have t1 := S4.out.p.c1
  have t2 := S4.out.p.c2
  go_wp2_with (at_builtin; refine append_p rfl _ _ rfl w4.heap.size _ [] L rfl (OwnP.nil _ _) a n cap rfl HP.out.2.1 (HP.out.1.next S4.out.below) HP.out.2.2.1 (by have := HP.out.2.2.2.1; simp; omega) (Nat.le_refl _) ?_)
  intro v5 w5 hown hgrow
  have b5 : Below w4.heap.size w4 w5 := (Below.refl _ _).grown hgrow (Nat.le_refl _) (fun k e => by cases e)
  have S5 := Lib.hid (S4.out.next b5)
  have HB : Hid (w.heap.size + 1 < w4.heap.size ∧ w4.heap.size ≤ w5.heap.size) := ⟨S4.out.p.lt, b5.size⟩
  obtain ⟨a5, cap5, rfl, _, _⟩ := hown.form
  rw [HP.out.2.1]
  rw [HP.out.2.1] at hown
  have HO := Lib.hid hown
  clear hown hgrow b5
  clear p0 p1 p2 t0 t1 t2
  have p0 := S5.out.r.c0
  have p1 := S5.out.r.c1
  have p2 := S5.out.r.c2
  have t0 := S5.out.p.c0
  have t1 := S5.out.p.c1
  have t2 := S5.out.p.c2
  go_wp2_with (at_builtin; refine append_p rfl _ _ rfl w4.heap.size _ L [(x, y, z)] rfl (HO.out.kept ((Below.refl _ _).alloc (Nat.le_refl _) _)) (some ⟨w5.heap.size, 0, none⟩) 1 1 rfl rfl (built_one w5 (x, y, z) HP.out.2.2.2.2) (fun e => by cases e) (by have := HP.out.2.2.2.1; have := HP.out.2.1; omega) (by have := HB.out; simp; omega) ?_)
  intro v6 w6 hown hgrow
  have b6 : Below w4.heap.size w5 w6 := ((Below.refl _ _).alloc HB.out.2 _).grown hgrow (by have := HB.out; simp; omega) (fun k e => HO.out.blk k e)
  have S6 := Lib.hid (S5.out.far b6 HB.out.1)
  obtain ⟨a6, cap6, e6, _, _⟩ := hown.form
  rw [List.length_append, HP.out.2.1] at e6
  have e6' : v6 = .slice a6 (n + 1) cap6 := e6
  subst e6'
  have HO6 := Lib.hid hown
  clear hown hgrow b6 e6 HO
  clear p0 p1 p2 t0 t1 t2
  have p0 := S6.out.r.c0
  have p1 := S6.out.r.c1
  have p2 := S6.out.r.c2
  have t0 := S6.out.p.c0
  have t1 := S6.out.p.c1
  have t2 := S6.out.p.c2
  go_wp2_with fail
  refine (CC.out _ S6.out.below).mono ?_
  rintro e w7 ⟨rfl, b7⟩
  have S7 := Lib.hid (S6.out.next b7)
  clear p0 p1 p2 t0 t1 t2
  have p0 := S7.out.r.c0
  have p1 := S7.out.r.c1
  have p2 := S7.out.r.c2
  have t0 := S7.out.p.c0
  have t1 := S7.out.p.c1
  have t2 := S7.out.p.c2
  have HO7 := Lib.hid (HO6.out.kept b7)
  go_wp2_with fail
  refine (CT2.out _ _ _ HO7.out.at_.2).mono ?_
  rintro e w8 ⟨rfl, b8⟩
  have S8 := Lib.hid (S7.out.next b8)
  clear p0 p1 p2 t0 t1 t2
  have p0 := S8.out.r.c0
  have p1 := S8.out.r.c1
  have p2 := S8.out.r.c2
  have t0 := S8.out.p.c0
  have t1 := S8.out.p.c1
  have t2 := S8.out.p.c2
  have HO8 := Lib.hid (HO7.out.kept b8)
  go_wp2_with fail
  refine (CM2.out _ _ _ HO8.out.at_.2).mono ?_
  rintro e w9 ⟨rfl, b9⟩
  have S9 := Lib.hid (S8.out.next b9)
  clear p0 p1 p2 t0 t1 t2
  have p0 := S9.out.r.c0
  have p1 := S9.out.r.c1
  have p2 := S9.out.r.c2
  have t0 := S9.out.p.c0
  have t1 := S9.out.p.c1
  have t2 := S9.out.p.c2
  go_wp2_with fail
  refine (Hid.out cA _).mono ?_
  rintro e w20 ⟨rfl, b20⟩
  go_wp2
  go_ret
  exact ⟨rfl, (S9.out.next b20).below⟩

set_option maxHeartbeats 4000000 in
set_option maxRecDepth 20000 in
theorem beside_soft_b (c k : Int) (a : Option Addr) (n cap : Nat) (L : List Pa) (x y z : Int) (hL : L.length = n) (hn : n ≤ 60) (hnil : a = none → n = 0 ∧ cap = 0) (hf : Fit (x, y, z)) (hok : okB (x, y, z) = true) (ht : testE false c k L = 0) (hu : upA false (x, y, z) ≤ roomN false c k (sumU false L) (maxU false L)) (hs : ¬ roomN false c k (sumU false L) (maxU false L) < 1048576) (cA : AwC9) (w : World) (hp : PAt w a L) :
    Calls Try.prog 8 #[.agg #[.bool false, .int .i64 c, .int .i64 k], .slice a n cap, .agg #[.int .i64 x, .int .i64 y, .int .i64 z]] w fun E w' => E = .returned (.bool true) ∧ Below w.heap.size w w' := by
  have h2 : decide (60 < n) = false := decide_eq_false (by omega)
  have h2' : decide (60 < (n : Int)) = false := decide_eq_false (by omega)
  have CR : Hid (∀ W, Calls Try.prog 21 #[.agg #[.int .i64 x, .int .i64 y, .int .i64 z]] W fun e w' => e = .returned (.bool true) ∧ Below W.heap.size W w') := fun W => by
    have := right_xyz x y z W
    rwa [hok] at this
  have CT : Hid (∀ W, Below w.heap.size w W → Calls Try.prog 14 #[.agg #[.bool false, .int .i64 c, .int .i64 k], .slice a n cap] W fun e w' => e = .returned (.int .i64 0) ∧ Below W.heap.size W w') := fun W hW => by
    have := atest_any false c k a cap L (by omega) W (hp.next hW)
    rw [hL] at this
    rwa [ht] at this
  obtain ⟨i1, i2⟩ := beside_is ht hok
  have CM : Hid (∀ W, Below w.heap.size w W → Calls Try.prog 18 #[.agg #[.bool false, .int .i64 c, .int .i64 k], .slice a n cap] W fun e w' => e = .returned (.tuple #[.int .i64 (roomN false c k (sumU false L) (maxU false L)), .int .i64 0]) ∧ Below W.heap.size W w') := fun W hW => by
    have := room_any false c k a cap L (by omega) W (hp.next hW)
    rw [hL] at this
    rwa [show RoomR false c k L = (roomN false c k (sumU false L) (maxU false L), 0) from if_pos ht] at this
  have CK : Hid (∀ W, Calls Try.prog 23 #[.bool false, .agg #[.int .i64 x, .int .i64 y, .int .i64 z]] W fun e w' => e = .returned (.int .i64 (upA false (x, y, z))) ∧ Below W.heap.size W w') := fun W => asks_ok false x y z hok W
  have CC : Hid (∀ W, Below w.heap.size w W → Calls Try.prog 19 #[.agg #[.bool false, .int .i64 c, .int .i64 k], .agg #[.int .i64 x, .int .i64 y, .int .i64 z], .slice a n cap] W fun e w' => e = .returned (.tuple #[.int .i64 (copN false c k L (x, y, z)), .int .i64 0]) ∧ Below W.heap.size W w') := fun W hW => by
    have := copies_any false c k (x, y, z) hf a cap L (by omega) W (hp.next hW)
    rw [hL] at this
    rwa [show CopR false c k L (x, y, z) = (copN false c k L (x, y, z), 0) by unfold CopR; rw [if_pos ht, if_pos hok]] at this
  have hT2 : testE false c k (L ++ [(x, y, z)]) = 0 := i1.2 hu
  have hm : 0 < copN false c k L (x, y, z) := i2.2 hu
  obtain ⟨_, l1, l2⟩ := room_less ht hok hu
  have l3 : ¬ roomN false c k (sumU false L) (maxU false L) < roomN false c k (sumU false (L ++ [(x, y, z)])) (maxU false (L ++ [(x, y, z)])) := by omega
  have CT2 : Hid (∀ W a2 cap2, PAt W a2 (L ++ [(x, y, z)]) → Calls Try.prog 14 #[.agg #[.bool false, .int .i64 c, .int .i64 k], .slice a2 (n + 1) cap2] W fun e w' => e = .returned (.int .i64 0) ∧ Below W.heap.size W w') := fun W a2 cap2 hW => by
    have := atest_any false c k a2 cap2 (L ++ [(x, y, z)]) (by simp; omega) W hW
    rw [hT2, List.length_append, hL] at this
    exact this
  have CM2 : Hid (∀ W a2 cap2, PAt W a2 (L ++ [(x, y, z)]) → Calls Try.prog 18 #[.agg #[.bool false, .int .i64 c, .int .i64 k], .slice a2 (n + 1) cap2] W fun e w' => e = .returned (.tuple #[.int .i64 (roomN false c k (sumU false (L ++ [(x, y, z)])) (maxU false (L ++ [(x, y, z)]))), .int .i64 0]) ∧ Below W.heap.size W w') := fun W a2 cap2 hW => by
    have := room_any false c k a2 cap2 (L ++ [(x, y, z)]) (by simp; omega) W hW
    rw [show RoomR false c k (L ++ [(x, y, z)]) = (roomN false c k (sumU false (L ++ [(x, y, z)])) (maxU false (L ++ [(x, y, z)])), 0) from if_pos hT2, List.length_append, hL] at this
    exact this
  generalize roomN false c k (sumU false (L ++ [(x, y, z)])) (maxU false (L ++ [(x, y, z)])) = nn2 at *
  have RB := room_is (h := false) (testE_ok ht).1 (sumU false L) (maxU false L)
  have RB1 := RB.1
  have UB := (ask_ok (h := false) hok).2
  generalize roomN false c k (sumU false L) (maxU false L) = nn at *
  generalize upA false (x, y, z) = u at *
  generalize copN false c k L (x, y, z) = m at *
  have d1 : decide (u ≤ nn) = true := decide_eq_true hu
  have d2 : decide (0 < m) = true := decide_eq_true hm
  have d3 : decide (nn < u) = false := decide_eq_false (by omega)
  have d4 : decide (nn < nn2) = false := decide_eq_false l3
  have d5 : decide (nn < 1048576) = false := decide_eq_false hs
  have HP : Hid (PAt w a L ∧ L.length = n ∧ (a = none → n = 0 ∧ cap = 0) ∧ n ≤ 60 ∧ Fit (x, y, z)) := ⟨hp, hL, hnil, hn, hf⟩
  have S0 := Lib.hid (Tp.start w false c k x y z)
  obtain ⟨W0, hW0⟩ : ∃ W0, (w.alloc (.cells #[.bool false, .int .i64 c, .int .i64 k] 23)).alloc (.cells #[.int .i64 x, .int .i64 y, .int .i64 z] 40) = W0 := ⟨_, rfl⟩
  rw [hW0] at S0
  have HW := Lib.hid hW0
  clear hW0 hok hp hL ht hu hm hT2 hn hf hnil i1 i2 RB RB1 UB l1 l2 l3 hs
  go_enter Try.func8, Try.ntmps8
  go_wp2_with fail
  rw [HW.out]
  refine (CR.out _).mono ?_
  rintro e w1 ⟨rfl, b1⟩
  have S1 := Lib.hid (S0.out.next b1)
  have p0 := S1.out.r.c0
  have p1 := S1.out.r.c1
  have p2 := S1.out.r.c2
  have t0 := S1.out.p.c0
  have t1 := S1.out.p.c1
  have t2 := S1.out.p.c2
  go_wp2_with fail
  refine (CT.out _ S1.out.below).mono ?_
  rintro e w2 ⟨rfl, b2⟩
  have S2 := Lib.hid (S1.out.next b2)
  clear p0 p1 p2 t0 t1 t2
  have p0 := S2.out.r.c0
  have p1 := S2.out.r.c1
  have p2 := S2.out.r.c2
  have t0 := S2.out.p.c0
  have t1 := S2.out.p.c1
  have t2 := S2.out.p.c2
  go_wp2_with fail
  refine (CM.out _ S2.out.below).mono ?_
  rintro e w3 ⟨rfl, b3⟩
  have S3 := Lib.hid (S2.out.next b3)
  clear p0 p1 p2 t0 t1 t2
  have p0 := S3.out.r.c0
  have p1 := S3.out.r.c1
  have p2 := S3.out.r.c2
  have t0 := S3.out.p.c0
  have t1 := S3.out.p.c1
  have t2 := S3.out.p.c2
  go_wp2_with fail
  refine (CK.out _).mono ?_
  rintro e w4 ⟨rfl, b4⟩
  have S4 := Lib.hid (S3.out.next b4)
  clear p0 p1 p2 t0 t1 t2
  have p0 := S4.out.r.c0
  have p1 := S4.out.r.c1
  have p2 := S4.out.r.c2
  have t0 := S4.out.p.c0
  have t1 := S4.out.p.c1
  have t2 := S4.out.p.c2
  go_wp2_with (at_builtin; refine append_p rfl _ _ rfl w4.heap.size _ [] L rfl (OwnP.nil _ _) a n cap rfl HP.out.2.1 (HP.out.1.next S4.out.below) HP.out.2.2.1 (by have := HP.out.2.2.2.1; simp; omega) (Nat.le_refl _) ?_)
  intro v5 w5 hown hgrow
  have b5 : Below w4.heap.size w4 w5 := (Below.refl _ _).grown hgrow (Nat.le_refl _) (fun k e => by cases e)
  have S5 := Lib.hid (S4.out.next b5)
  have HB : Hid (w.heap.size + 1 < w4.heap.size ∧ w4.heap.size ≤ w5.heap.size) := ⟨S4.out.p.lt, b5.size⟩
  obtain ⟨a5, cap5, rfl, _, _⟩ := hown.form
  rw [HP.out.2.1]
  rw [HP.out.2.1] at hown
  have HO := Lib.hid hown
  clear hown hgrow b5
  clear p0 p1 p2 t0 t1 t2
  have p0 := S5.out.r.c0
  have p1 := S5.out.r.c1
  have p2 := S5.out.r.c2
  have t0 := S5.out.p.c0
  have t1 := S5.out.p.c1
  have t2 := S5.out.p.c2
  go_wp2_with (at_builtin; refine append_p rfl _ _ rfl w4.heap.size _ L [(x, y, z)] rfl (HO.out.kept ((Below.refl _ _).alloc (Nat.le_refl _) _)) (some ⟨w5.heap.size, 0, none⟩) 1 1 rfl rfl (built_one w5 (x, y, z) HP.out.2.2.2.2) (fun e => by cases e) (by have := HP.out.2.2.2.1; have := HP.out.2.1; omega) (by have := HB.out; simp; omega) ?_)
  intro v6 w6 hown hgrow
  have b6 : Below w4.heap.size w5 w6 := ((Below.refl _ _).alloc HB.out.2 _).grown hgrow (by have := HB.out; simp; omega) (fun k e => HO.out.blk k e)
  have S6 := Lib.hid (S5.out.far b6 HB.out.1)
  obtain ⟨a6, cap6, e6, _, _⟩ := hown.form
  rw [List.length_append, HP.out.2.1] at e6
  have e6' : v6 = .slice a6 (n + 1) cap6 := e6
  subst e6'
  have HO6 := Lib.hid hown
  clear hown hgrow b6 e6 HO
  clear p0 p1 p2 t0 t1 t2
  have p0 := S6.out.r.c0
  have p1 := S6.out.r.c1
  have p2 := S6.out.r.c2
  have t0 := S6.out.p.c0
  have t1 := S6.out.p.c1
  have t2 := S6.out.p.c2
  go_wp2_with fail
  refine (CC.out _ S6.out.below).mono ?_
  rintro e w7 ⟨rfl, b7⟩
  have S7 := Lib.hid (S6.out.next b7)
  clear p0 p1 p2 t0 t1 t2
  have p0 := S7.out.r.c0
  have p1 := S7.out.r.c1
  have p2 := S7.out.r.c2
  have t0 := S7.out.p.c0
  have t1 := S7.out.p.c1
  have t2 := S7.out.p.c2
  have HO7 := Lib.hid (HO6.out.kept b7)
  go_wp2_with fail
  refine (CT2.out _ _ _ HO7.out.at_.2).mono ?_
  rintro e w8 ⟨rfl, b8⟩
  have S8 := Lib.hid (S7.out.next b8)
  clear p0 p1 p2 t0 t1 t2
  have p0 := S8.out.r.c0
  have p1 := S8.out.r.c1
  have p2 := S8.out.r.c2
  have t0 := S8.out.p.c0
  have t1 := S8.out.p.c1
  have t2 := S8.out.p.c2
  have HO8 := Lib.hid (HO7.out.kept b8)
  go_wp2_with fail
  refine (CM2.out _ _ _ HO8.out.at_.2).mono ?_
  rintro e w9 ⟨rfl, b9⟩
  have S9 := Lib.hid (S8.out.next b9)
  clear p0 p1 p2 t0 t1 t2
  have p0 := S9.out.r.c0
  have p1 := S9.out.r.c1
  have p2 := S9.out.r.c2
  have t0 := S9.out.p.c0
  have t1 := S9.out.p.c1
  have t2 := S9.out.p.c2
  go_wp2_with fail
  refine (Hid.out cA _).mono ?_
  rintro e w20 ⟨rfl, b20⟩
  go_wp2
  go_ret
  exact ⟨rfl, (S9.out.next b20).below⟩

theorem walk_AdmitBeside (h : Bool) (c k : Int) (a : Option Addr) (len cap : Nat) (x y z : Int) (w : World) (hc : -9223372036854775808 ≤ c ∧ c ≤ 9223372036854775807) (hk : -9223372036854775808 ≤ k ∧ k ≤ 9223372036854775807) (hL : ∃ L, ParIn w a len cap L) (hx : -9223372036854775808 ≤ x ∧ x ≤ 9223372036854775807) (hy : -9223372036854775808 ≤ y ∧ y ≤ 9223372036854775807) (hz : -9223372036854775808 ≤ z ∧ z ≤ 9223372036854775807) :
    Calls Try.prog 8 #[.agg #[.bool h, .int .i64 c, .int .i64 k], .slice a len cap, .agg #[.int .i64 x, .int .i64 y, .int .i64 z]] w fun E w' => E = .returned (.bool true) ∧ Below w.heap.size w w' := by
  obtain ⟨L, hP⟩ := hL
  by_cases h2 : 60 < len
  · exact beside_long h c k a len cap x y z (decide_eq_true h2) (decide_eq_true (by omega)) awC9 w
  cases ho : okB (x, y, z) with
  | false => exact beside_no h c k a len cap x y z (by omega) ho awC9 w
  | true =>
    by_cases ht : testE h c k L = 0
    · by_cases hu : upA h (x, y, z) ≤ roomN h c k (sumU h L) (maxU h L)
      · cases h with
        | true => exact beside_hard c k a len cap L x y z hP.len_ (by omega) hP.nil ⟨hx, hy, hz⟩ ho ht hu awC9 w hP.at_
        | false =>
          by_cases hs : roomN false c k (sumU false L) (maxU false L) < 1048576
          · exact beside_soft_s c k a len cap L x y z hP.len_ (by omega) hP.nil ⟨hx, hy, hz⟩ ho ht hu hs awC9 w hP.at_
          · exact beside_soft_b c k a len cap L x y z hP.len_ (by omega) hP.nil ⟨hx, hy, hz⟩ ho ht hu hs awC9 w hP.at_
      · exact beside_over h c k a len cap L x y z hP.len_ (by omega) hP.nil ⟨hx, hy, hz⟩ ho ht (by omega) awC9 w hP.at_
    · exact beside_t h c k a len cap L x y z hP.len_ (by omega) ho _ rfl ht awC9 w hP.at_
end Go.Proofs.Ytfjepkakimhbbaa
