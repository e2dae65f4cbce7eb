/-
  The walk of AdmitChanges.
-/
import Derived.Test.YtfjepkakimhbbaaLawA1
namespace Go.Proofs.Ytfjepkakimhbbaa
open Go.RowKit Go.Sort Go.Shelf Go.Maps
set_option linter.unusedVariables false
set_option linter.unusedSimpArgs false

/-- A block of four cells, whole. -/
def Box4 (W : World) (b : Nat) (T : TypeId) (x y z u : Value) : Prop := W.heap[b]? = some (.cells #[x, y, z, u] T (0, 0))
section
variable {W W' : World} {b : Nat} {T : TypeId} {x y z u : Value}
theorem Box4.c0 (h : Box4 W b T x y z u) : W.cell? ⟨b, 0, none⟩ = some x := by unfold Box4 at h; simp [World.cell?, h]
theorem Box4.c1 (h : Box4 W b T x y z u) : W.cell? ⟨b, 1, none⟩ = some y := by unfold Box4 at h; simp [World.cell?, h]
theorem Box4.c2 (h : Box4 W b T x y z u) : W.cell? ⟨b, 2, none⟩ = some z := by unfold Box4 at h; simp [World.cell?, h]
theorem Box4.c3 (h : Box4 W b T x y z u) : W.cell? ⟨b, 3, none⟩ = some u := by unfold Box4 at h; simp [World.cell?, h]
theorem Box4.lt (h : Box4 W b T x y z u) : b < W.heap.size := (Array.getElem?_eq_some_iff.1 h).1
theorem Box4.kept (h : Box4 W b T x y z u) (k : W'.heap[b]? = W.heap[b]?) : Box4 W' b T x y z u := k.trans h
theorem Box4.start (w : World) (T : TypeId) (x y z u : Value) : Box4 (w.alloc (.cells #[x, y, z, u] T)) w.heap.size T x y z u := heap_alloc_new w _
end

/-- The rule and the turn in their boxes. -/
structure Tn (w W : World) (h : Bool) (c k i x y z : Int) : Prop where
  below : Below w.heap.size w W
  r : Box3 W w.heap.size 23 (.bool h) (.int .i64 c) (.int .i64 k)
  t : Box4 W (w.heap.size + 1) 46 (.int .i64 i) (.int .i64 x) (.int .i64 y) (.int .i64 z)
theorem Tn.next {w W W' : World} {h : Bool} {c k i x y z : Int} (s : Tn w W h c k i x y z) (b : Below W.heap.size W W') : Tn w W' h c k i x y z :=
  ⟨s.below.trans (b.mono s.below.size), s.r.next' b, s.t.kept (b.block _ s.t.lt)⟩
/-- Where blocks from B on turn alone. -/
theorem Tn.far {w W W' : World} {h : Bool} {c k i x y z : Int} (s : Tn w W h c k i x y z) {B : Nat} (b : Below B W W') (hB : w.heap.size + 1 < B) : Tn w W' h c k i x y z :=
  ⟨s.below.trans (b.mono (by omega)), s.r.next b (by omega), s.t.kept (b.block _ hB)⟩
theorem Tn.start (w : World) (h : Bool) (c k i x y z : Int) : Tn w ((w.alloc (.cells #[.bool h, .int .i64 c, .int .i64 k] 23)).alloc (.cells #[.int .i64 i, .int .i64 x, .int .i64 y, .int .i64 z] 46)) h c k i x y z := by
  refine ⟨((Below.refl _ _).alloc (Nat.le_refl _) _).alloc (by simp) _, (Box3.start w _ _ _ _).next' ((Below.refl _ _).alloc (Nat.le_refl _) _), ?_⟩
  have := Box4.start (w.alloc (.cells #[.bool h, .int .i64 c, .int .i64 k] 23)) 46 (.int .i64 i) (.int .i64 x) (.int .i64 y) (.int .i64 z)
  simpa using this

theorem changes_long (h : Bool) (c k : Int) (a : Option Addr) (n cap : Nat) (i x y z : Int) (h2 : decide (70 < n) = true) (h2' : decide (70 < (n : Int)) = true) (cA : AwC9) (w : World) :
    Calls Try.prog 5 #[.agg #[.bool h, .int .i64 c, .int .i64 k], .slice a n cap, .agg #[.int .i64 i, .int .i64 x, .int .i64 y, .int .i64 z]] w fun E w' => E = .returned (.bool true) ∧ Below w.heap.size w w' := by
  have S0 := Lib.hid (Tn.start w h c k i x y z)
  go_enter Try.func5, Try.ntmps5
  go_wp2_with fail
  refine (Hid.out cA _).mono ?_
  rintro e w1 ⟨rfl, b1⟩
  go_wp2
  go_ret
  exact ⟨rfl, (S0.out.next b1).below⟩

set_option maxHeartbeats 4000000 in
set_option maxRecDepth 20000 in
theorem changes_bad (h : Bool) (c k : Int) (a : Option Addr) (n cap : Nat) (L : List Pa) (i x y z : Int) (hL : L.length = n) (hn : n ≤ 70) (hf : Fit (x, y, z)) (hr : ruleE c k = 1) (cA : AwC9) (w : World) (hp : PAt w a L) :
    Calls Try.prog 5 #[.agg #[.bool h, .int .i64 c, .int .i64 k], .slice a n cap, .agg #[.int .i64 i, .int .i64 x, .int .i64 y, .int .i64 z]] w fun E w' => E = .returned (.bool true) ∧ Below w.heap.size w w' := by
  have h2 : decide (70 < n) = false := decide_eq_false (by omega)
  have h2' : decide (70 < (n : Int)) = false := decide_eq_false (by omega)
  have CC : Hid (∀ W, Below w.heap.size w W → Calls Try.prog 22 #[.agg #[.bool h, .int .i64 c, .int .i64 k], .int .i64 i, .agg #[.int .i64 x, .int .i64 y, .int .i64 z], .slice a n cap] W fun e w' => e = .returned (.int .i64 1) ∧ Below W.heap.size W w') := fun W hW => by
    have := change_any h c k i (x, y, z) hf a cap L (by omega) W (hp.next hW)
    rw [hL] at this
    rwa [show changeE h c k i (x, y, z) L = 1 by unfold changeE; rw [if_neg (by omega)]] at this
  have CU : Hid (∀ W, Calls Try.prog 12 #[.int .i64 c, .int .i64 k] W fun e w' => e = .returned (.bool false) ∧ W = w') := fun W => by
    have := rrule_any c k W
    rwa [hr] at this
  have S0 := Lib.hid (Tn.start w h c k i x y z)
  obtain ⟨W0, hW0⟩ : ∃ W0, (w.alloc (.cells #[.bool h, .int .i64 c, .int .i64 k] 23)).alloc (.cells #[.int .i64 i, .int .i64 x, .int .i64 y, .int .i64 z] 46) = W0 := ⟨_, rfl⟩
  rw [hW0] at S0
  have HW := Lib.hid hW0
  clear hW0 hp hL hr hf
  go_enter Try.func5, Try.ntmps5
  go_wp2_with fail
  rw [HW.out]
  refine (CC.out _ S0.out.below).mono ?_
  rintro e w1 ⟨rfl, b1⟩
  have S1 := Lib.hid (S0.out.next b1)
  have p0 := S1.out.r.c0
  have p1 := S1.out.r.c1
  have p2 := S1.out.r.c2
  have t0 := S1.out.t.c0
  have t1 := S1.out.t.c1
  have t2 := S1.out.t.c2
  have t3 := S1.out.t.c3
  go_wp2_with fail
  refine (CU.out _).mono ?_
  rintro e w2 ⟨rfl, rfl⟩
  go_wp2_with fail
  refine (Hid.out cA _).mono ?_
  rintro e w9 ⟨rfl, b9⟩
  go_wp2
  go_ret
  exact ⟨rfl, (S1.out.next b9).below⟩

set_option maxHeartbeats 4000000 in
set_option maxRecDepth 20000 in
theorem changes_low (h : Bool) (c k : Int) (a : Option Addr) (n cap : Nat) (L : List Pa) (i x y z : Int) (hL : L.length = n) (hn : n ≤ 70) (hf : Fit (x, y, z)) (hr : ruleE c k = 0) (hi : i < 0) (cA : AwC9) (w : World) (hp : PAt w a L) :
    Calls Try.prog 5 #[.agg #[.bool h, .int .i64 c, .int .i64 k], .slice a n cap, .agg #[.int .i64 i, .int .i64 x, .int .i64 y, .int .i64 z]] w fun E w' => E = .returned (.bool true) ∧ Below w.heap.size w w' := by
  have h2 : decide (70 < n) = false := decide_eq_false (by omega)
  have h2' : decide (70 < (n : Int)) = false := decide_eq_false (by omega)
  have CC : Hid (∀ W, Below w.heap.size w W → Calls Try.prog 22 #[.agg #[.bool h, .int .i64 c, .int .i64 k], .int .i64 i, .agg #[.int .i64 x, .int .i64 y, .int .i64 z], .slice a n cap] W fun e w' => e = .returned (.int .i64 14) ∧ Below W.heap.size W w') := fun W hW => by
    have := change_any h c k i (x, y, z) hf a cap L (by omega) W (hp.next hW)
    rw [hL] at this
    rwa [show changeE h c k i (x, y, z) L = 14 by unfold changeE; rw [if_pos hr, if_pos (by omega)]] at this
  have CU : Hid (∀ W, Calls Try.prog 12 #[.int .i64 c, .int .i64 k] W fun e w' => e = .returned (.bool true) ∧ W = w') := fun W => by
    have := rrule_any c k W
    rwa [hr] at this
  have d0 : decide (i < 0) = true := decide_eq_true hi
  have S0 := Lib.hid (Tn.start w h c k i x y z)
  obtain ⟨W0, hW0⟩ : ∃ W0, (w.alloc (.cells #[.bool h, .int .i64 c, .int .i64 k] 23)).alloc (.cells #[.int .i64 i, .int .i64 x, .int .i64 y, .int .i64 z] 46) = W0 := ⟨_, rfl⟩
  rw [hW0] at S0
  have HW := Lib.hid hW0
  clear hW0 hp hL hr hf hi
  go_enter Try.func5, Try.ntmps5
  go_wp2_with fail
  rw [HW.out]
  refine (CC.out _ S0.out.below).mono ?_
  rintro e w1 ⟨rfl, b1⟩
  have S1 := Lib.hid (S0.out.next b1)
  have p0 := S1.out.r.c0
  have p1 := S1.out.r.c1
  have p2 := S1.out.r.c2
  have t0 := S1.out.t.c0
  have t1 := S1.out.t.c1
  have t2 := S1.out.t.c2
  have t3 := S1.out.t.c3
  go_wp2_with fail
  refine (CU.out _).mono ?_
  rintro e w2 ⟨rfl, rfl⟩
  go_wp2_with fail
  refine (Hid.out cA _).mono ?_
  rintro e w9 ⟨rfl, b9⟩
  go_wp2
  go_ret
  exact ⟨rfl, (S1.out.next b9).below⟩

set_option maxHeartbeats 4000000 in
set_option maxRecDepth 20000 in
theorem changes_high (h : Bool) (c k : Int) (a : Option Addr) (n cap : Nat) (L : List Pa) (i x y z : Int) (hL : L.length = n) (hn : n ≤ 70) (hf : Fit (x, y, z)) (hr : ruleE c k = 0) (hi : 0 ≤ i) (hi2 : (n : Int) ≤ i) (cA : AwC9) (w : World) (hp : PAt w a L) :
    Calls Try.prog 5 #[.agg #[.bool h, .int .i64 c, .int .i64 k], .slice a n cap, .agg #[.int .i64 i, .int .i64 x, .int .i64 y, .int .i64 z]] w fun E w' => E = .returned (.bool true) ∧ Below w.heap.size w w' := by
  have h2 : decide (70 < n) = false := decide_eq_false (by omega)
  have h2' : decide (70 < (n : Int)) = false := decide_eq_false (by omega)
  have CC : Hid (∀ W, Below w.heap.size w W → Calls Try.prog 22 #[.agg #[.bool h, .int .i64 c, .int .i64 k], .int .i64 i, .agg #[.int .i64 x, .int .i64 y, .int .i64 z], .slice a n cap] W fun e w' => e = .returned (.int .i64 14) ∧ Below W.heap.size W w') := fun W hW => by
    have := change_any h c k i (x, y, z) hf a cap L (by omega) W (hp.next hW)
    rw [hL] at this
    rwa [show changeE h c k i (x, y, z) L = 14 by unfold changeE; rw [if_pos hr, if_pos (by omega)]] at this
  have CU : Hid (∀ W, Calls Try.prog 12 #[.int .i64 c, .int .i64 k] W fun e w' => e = .returned (.bool true) ∧ W = w') := fun W => by
    have := rrule_any c k W
    rwa [hr] at this
  have d0 : decide (i < 0) = false := decide_eq_false (by omega)
  have d1 : decide ((n : Int) ≤ i) = true := decide_eq_true hi2
  have S0 := Lib.hid (Tn.start w h c k i x y z)
  obtain ⟨W0, hW0⟩ : ∃ W0, (w.alloc (.cells #[.bool h, .int .i64 c, .int .i64 k] 23)).alloc (.cells #[.int .i64 i, .int .i64 x, .int .i64 y, .int .i64 z] 46) = W0 := ⟨_, rfl⟩
  rw [hW0] at S0
  have HW := Lib.hid hW0
  clear hW0 hp hL hr hf hi hi2
  go_enter Try.func5, Try.ntmps5
  go_wp2_with fail
  rw [HW.out]
  refine (CC.out _ S0.out.below).mono ?_
  rintro e w1 ⟨rfl, b1⟩
  have S1 := Lib.hid (S0.out.next b1)
  have p0 := S1.out.r.c0
  have p1 := S1.out.r.c1
  have p2 := S1.out.r.c2
  have t0 := S1.out.t.c0
  have t1 := S1.out.t.c1
  have t2 := S1.out.t.c2
  have t3 := S1.out.t.c3
  go_wp2_with fail
  refine (CU.out _).mono ?_
  rintro e w2 ⟨rfl, rfl⟩
  go_wp2_with fail
  refine (Hid.out cA _).mono ?_
  rintro e w9 ⟨rfl, b9⟩
  go_wp2
  go_ret
  exact ⟨rfl, (S1.out.next b9).below⟩

set_option maxHeartbeats 4000000 in
set_option maxRecDepth 20000 in
theorem changes_in (h : Bool) (c k : Int) (a : Option Addr) (n cap : Nat) (L : List Pa) (j : Nat) (x y z : Int) (hL : L.length = n) (hn : n ≤ 70) (hf : Fit (x, y, z)) (hr : ruleE c k = 0) (hj : j < n) (hnil : a = none → n = 0 ∧ cap = 0) (R : Int) (hR : testE h c k (L.set j (x, y, z)) = R) (cA : AwC9) (w : World) (hp : PAt w a L) :
    Calls Try.prog 5 #[.agg #[.bool h, .int .i64 c, .int .i64 k], .slice a n cap, .agg #[.int .i64 (j : Int), .int .i64 x, .int .i64 y, .int .i64 z]] w fun E w' => E = .returned (.bool true) ∧ Below w.heap.size w w' := by
  have h2 : decide (70 < n) = false := decide_eq_false (by omega)
  have h2' : decide (70 < (n : Int)) = false := decide_eq_false (by omega)
  have CC : Hid (∀ W, Below w.heap.size w W → Calls Try.prog 22 #[.agg #[.bool h, .int .i64 c, .int .i64 k], .int .i64 (j : Int), .agg #[.int .i64 x, .int .i64 y, .int .i64 z], .slice a n cap] W fun e w' => e = .returned (.int .i64 R) ∧ Below W.heap.size W w') := fun W hW => by
    have := change_any h c k (j : Int) (x, y, z) hf a cap L (by omega) W (hp.next hW)
    rw [hL] at this
    rwa [show changeE h c k (j : Int) (x, y, z) L = R by unfold changeE; rw [if_pos hr, if_neg (by omega), Int.toNat_natCast, hR]] at this
  have CU : Hid (∀ W, Calls Try.prog 12 #[.int .i64 c, .int .i64 k] W fun e w' => e = .returned (.bool true) ∧ W = w') := fun W => by
    have := rrule_any c k W
    rwa [hr] at this
  have d0 : decide ((j : Int) < 0) = false := decide_eq_false (by omega)
  have d1 : decide ((n : Int) ≤ (j : Int)) = false := decide_eq_false (by omega)
  have djz : (j : Int) < (n : Int) := by omega
  have HP : Hid (PAt w a L ∧ L.length = n ∧ j < L.length ∧ (a = none → n = 0 ∧ cap = 0) ∧ n ≤ 70 ∧ Fit (x, y, z) ∧ testE h c k (L.set j (x, y, z)) = R) := ⟨hp, hL, by omega, hnil, hn, hf, hR⟩
  have S0 := Lib.hid (Tn.start w h c k (j : Int) x y z)
  obtain ⟨W0, hW0⟩ : ∃ W0, (w.alloc (.cells #[.bool h, .int .i64 c, .int .i64 k] 23)).alloc (.cells #[.int .i64 (j : Int), .int .i64 x, .int .i64 y, .int .i64 z] 46) = W0 := ⟨_, rfl⟩
  rw [hW0] at S0
  have HW := Lib.hid hW0
  clear hW0 hp hL hr hf hnil hj hn hR
  go_enter Try.func5, Try.ntmps5
  go_wp2_with fail
  rw [HW.out]
  refine (CC.out _ S0.out.below).mono ?_
  rintro e w1 ⟨rfl, b1⟩
  have S1 := Lib.hid (S0.out.next b1)
  have p0 := S1.out.r.c0
  have p1 := S1.out.r.c1
  have p2 := S1.out.r.c2
  have t0 := S1.out.t.c0
  have t1 := S1.out.t.c1
  have t2 := S1.out.t.c2
  have t3 := S1.out.t.c3
  go_wp2_with fail
  refine (CU.out _).mono ?_
  rintro e w2 ⟨rfl, rfl⟩
  go_wp2_with (at_builtin; refine append_p rfl _ _ rfl w1.heap.size _ [] L rfl (OwnP.nil _ _) a n cap rfl HP.out.2.1 (HP.out.1.next S1.out.below) HP.out.2.2.2.1 (by have := HP.out.2.2.2.2.1; simp; omega) (Nat.le_refl _) ?_)
  intro v' w3 hown hgrow
  have b3 : Below w1.heap.size w1 w3 := (Below.refl _ _).grown hgrow (Nat.le_refl _) (fun k e => by cases e)
  have S3 := Lib.hid (S1.out.next b3)
  have HL1 : Hid (w.heap.size + 1 < w1.heap.size) := S1.out.t.lt
  obtain ⟨g, cap2, rfl, hB, hg, hfz, hset⟩ := hown.set (i := j) HP.out.2.2.1 (x, y, z) HP.out.2.2.2.2.2.1
  rw [HP.out.2.1]
  obtain ⟨⟨u0, y0⟩, z0⟩ := hfz 0 (by omega)
  obtain ⟨⟨u1, y1⟩, z1⟩ := hfz 1 (by omega)
  obtain ⟨⟨u2, y2⟩, z2⟩ := hfz 2 (by omega)
  rw [Nat.add_zero] at y0 z0
  have HS := Lib.hid hset
  have HG : Hid (w1.heap.size ≤ g ∧ g < w3.heap.size) := ⟨hB, hg⟩
  clear hset hfz hown hB hg b3 hgrow
  clear p0 p1 p2 t0 t1 t2 t3
  have p0 := S3.out.r.c0
  have p1 := S3.out.r.c1
  have p2 := S3.out.r.c2
  have t0 := S3.out.t.c0
  have t1 := S3.out.t.c1
  have t2 := S3.out.t.c2
  have t3 := S3.out.t.c3
  go_upto_region 11 with (fail)
  obtain ⟨W4, hW4⟩ : ∃ W4, ((w3.setCell ⟨g, j * 3, none⟩ (.int .i64 x)).setCell ⟨g, j * 3 + 1, none⟩ (.int .i64 y)).setCell ⟨g, j * 3 + 2, none⟩ (.int .i64 z) = W4 := ⟨_, rfl⟩
  rw [hW4]
  have b4 : Below w1.heap.size w3 W4 := by
    rw [← hW4]
    exact (((Below.refl _ _).setCell (p := ⟨g, j * 3, none⟩) HG.out.1 _).setCell (p := ⟨g, j * 3 + 1, none⟩) HG.out.1 _).setCell (p := ⟨g, j * 3 + 2, none⟩) HG.out.1 _
  have hown := HS.out
  rw [hW4] at hown
  have S4 := Lib.hid (S3.out.far b4 HL1.out)
  obtain ⟨a3, cap3, e3, _, hp3⟩ := hown.form
  have CT : Hid (Calls Try.prog 15 #[.agg #[.bool h, .int .i64 c, .int .i64 k], .slice (some ⟨g, 0, none⟩) n cap2] W4 fun e w' => e = .returned (.int .i64 R) ∧ Below W4.heap.size W4 w') := by
    have e4 := e3
    rw [List.length_set] at e4
    injection e4 with ea en ec
    subst ea ec
    have := ltest_any h c k (some ⟨g, 0, none⟩) cap2 (L.set j (x, y, z)) (by rw [List.length_set, HP.out.2.1]; have := HP.out.2.2.2.2.1; omega) W4 hp3
    rwa [List.length_set, HP.out.2.1, HP.out.2.2.2.2.2.2] at this
  clear hW4 hown e3 hp3 y0 y1 y2 z0 z1 z2 HS b4
  clear p0 p1 p2 t0 t1 t2 t3
  have p0 := S4.out.r.c0
  have p1 := S4.out.r.c1
  have p2 := S4.out.r.c2
  have t0 := S4.out.t.c0
  have t1 := S4.out.t.c1
  have t2 := S4.out.t.c2
  have t3 := S4.out.t.c3
  go_wp2_with fail
  refine CT.out.mono ?_
  rintro e w5 ⟨rfl, b5⟩
  have S5 := Lib.hid (S4.out.next b5)
  go_wp2_with fail
  refine (Hid.out cA _).mono ?_
  rintro e w9 ⟨rfl, b9⟩
  go_wp2
  go_ret
  exact ⟨rfl, (S5.out.next b9).below⟩

theorem walk_AdmitChanges (h : Bool) (c k : Int) (a : Option Addr) (len cap : Nat) (i x y z : Int) (w : World) (hc : -9223372036854775808 ≤ c ∧ c ≤ 9223372036854775807) (hk : -9223372036854775808 ≤ k ∧ k ≤ 9223372036854775807) (hL : ∃ L, ParIn w a len cap L) (hi : Is64 i) (hx : Is64 x) (hy : Is64 y) (hz : Is64 z) :
    Calls Try.prog 5 #[.agg #[.bool h, .int .i64 c, .int .i64 k], .slice a len cap, .agg #[.int .i64 i, .int .i64 x, .int .i64 y, .int .i64 z]] w fun E w' => E = .returned (.bool true) ∧ Below w.heap.size w w' := by
  obtain ⟨L, hP⟩ := hL
  by_cases h2 : 70 < len
  · exact changes_long h c k a len cap i x y z (decide_eq_true h2) (decide_eq_true (by omega)) awC9 w
  rcases ruleE_two c k with hr | hr
  · by_cases h3 : i < 0
    · exact changes_low h c k a len cap L i x y z hP.len_ (by omega) ⟨hx, hy, hz⟩ hr h3 awC9 w hP.at_
    by_cases h4 : (len : Int) ≤ i
    · exact changes_high h c k a len cap L i x y z hP.len_ (by omega) ⟨hx, hy, hz⟩ hr (by omega) h4 awC9 w hP.at_
    obtain ⟨j, rfl⟩ := Int.eq_ofNat_of_zero_le (by omega : 0 ≤ i)
    exact changes_in h c k a len cap L j x y z hP.len_ (by omega) ⟨hx, hy, hz⟩ hr (by omega) hP.nil _ rfl awC9 w hP.at_
  · exact changes_bad h c k a len cap L i x y z hP.len_ (by omega) ⟨hx, hy, hz⟩ hr awC9 w hP.at_
end Go.Proofs.Ytfjepkakimhbbaa
