/-
  The walk of AdmitLess.
-/
import Derived.Test.YtfjepkakimhbbaaLawA6
namespace Go.Proofs.Ytfjepkakimhbbaa
open Go.RowKit Go.Sort Go.Shelf Go.Maps
set_option linter.unusedVariables false
set_option linter.unusedSimpArgs false

theorem PAt.take {w : World} {a : Option Addr} {L : List Pa} (h : PAt w a L) (i : Nat) : PAt w a (L.take i) := by
  rcases h with h | ⟨g, o, rfl, hg, hc⟩
  · exact .inl (by rw [List.length_take]; omega)
  · refine .inr ⟨g, o, rfl, hg, fun j hj => ?_⟩
    rw [List.length_take] at hj
    have e : (L.take i).getD j p0 = L.getD j p0 := by
      rw [List.getD_eq_getElem?_getD, List.getD_eq_getElem?_getD, List.getElem?_take, if_pos (by omega)]
    rw [e]
    exact hc j (by omega)
theorem PAt.drop {w : World} {g o : Nat} {L : List Pa} (h : PAt w (some ⟨g, o, none⟩) L) (m : Nat) : PAt w (some ⟨g, o + m * 3, none⟩) (L.drop m) := by
  rcases h with h | ⟨g', o', e, hg, hc⟩
  · exact .inl (by rw [List.length_drop]; omega)
  · cases e
    refine .inr ⟨g, o + m * 3, rfl, hg, fun j hj => ?_⟩
    rw [List.length_drop] at hj
    have e : (L.drop m).getD j p0 = L.getD (m + j) p0 := by
      rw [List.getD_eq_getElem?_getD, List.getD_eq_getElem?_getD, List.getElem?_drop]
    rw [e]
    have := hc (m + j) (by omega)
    rwa [show o + (m + j) * 3 = o + m * 3 + j * 3 by omega] at this
/-- One of them. -/
theorem PAt.one {w : World} {g o : Nat} {L : List Pa} (h : PAt w (some ⟨g, o, none⟩) L) {i : Nat} (hi : i < L.length) : (w.cell? ⟨g, o + i * 3, none⟩ = some (.int .i64 (L.getD i p0).1) ∧ w.cell? ⟨g, o + i * 3 + 1, none⟩ = some (.int .i64 (L.getD i p0).2.1) ∧ w.cell? ⟨g, o + i * 3 + 2, none⟩ = some (.int .i64 (L.getD i p0).2.2)) ∧ Fit (L.getD i p0) ∧ g < w.heap.size := by
  rcases h with h | ⟨g', o', e, hg, hc⟩
  · omega
  · cases e
    exact ⟨(hc i hi).1, (hc i hi).2, hg⟩
theorem rev_take {L : List Pa} {j : Nat} (hj : j < L.length) : L.reverse.take (j + 1) = L.reverse.take j ++ [L.getD (L.length - 1 - j) p0] := by
  rw [take_snoc (by rw [List.length_reverse]; exact hj)]
  congr 2
  rw [List.getD_eq_getElem?_getD, List.getD_eq_getElem?_getD, List.getElem?_reverse hj]

/-- The rule and the two numbers in their boxes. -/
structure Tl (w W : World) (h : Bool) (c k i d : Int) : Prop where
  below : Below w.heap.size w W
  r : Box3 W w.heap.size 23 (.bool h) (.int .i64 c) (.int .i64 k)
  t : W.heap[w.heap.size + 1]? = some (.cells #[.int .i64 i, .int .i64 d] 49 (0, 0))
section
variable {w W W' : World} {h : Bool} {c k i d : Int}
theorem Tl.t0 (s : Tl w W h c k i d) : W.cell? ⟨w.heap.size + 1, 0, none⟩ = some (.int .i64 i) := by have := s.t; unfold World.cell?; rw [this]; rfl
theorem Tl.t1 (s : Tl w W h c k i d) : W.cell? ⟨w.heap.size + 1, 1, none⟩ = some (.int .i64 d) := by have := s.t; unfold World.cell?; rw [this]; rfl
theorem Tl.lt (s : Tl w W h c k i d) : w.heap.size + 1 < W.heap.size := (Array.getElem?_eq_some_iff.1 s.t).1
theorem Tl.far (s : Tl w W h c k i d) {B : Nat} (b : Below B W W') (hB : w.heap.size + 1 < B) : Tl w W' h c k i d :=
  ⟨s.below.trans (b.mono (by omega)), s.r.next b (by omega), (b.block _ hB).trans s.t⟩
theorem Tl.next (s : Tl w W h c k i d) (b : Below W.heap.size W W') : Tl w W' h c k i d := s.far b s.lt
end
theorem Tl.start (w : World) (h : Bool) (c k i d : Int) : Tl w ((w.alloc (.cells #[.bool h, .int .i64 c, .int .i64 k] 23)).alloc (.cells #[.int .i64 i, .int .i64 d] 49)) h c k i d := by
  refine ⟨((Below.refl _ _).alloc (Nat.le_refl _) _).alloc (by simp) _, (Box3.start w _ _ _ _).next' ((Below.refl _ _).alloc (Nat.le_refl _) _), ?_⟩
  have := heap_alloc_new (w.alloc (.cells #[.bool h, .int .i64 c, .int .i64 k] 23)) (.cells #[.int .i64 i, .int .i64 d] 49)
  simpa using this


theorem less_none (h : Bool) (c k : Int) (a : Option Addr) (n cap : Nat) (i d : Int) (h0 : n = 0) (cA : AwC9) (w : World) :
    Calls Try.prog 6 #[.agg #[.bool h, .int .i64 c, .int .i64 k], .slice a n cap, .agg #[.int .i64 i, .int .i64 d]] w fun E w' => E = .returned (.bool true) ∧ Below w.heap.size w w' := by
  subst h0
  have S0 := Lib.hid (Tl.start w h c k i d)
  go_enter Try.func6, Try.ntmps6
  go_wp2_with fail
  refine (Hid.out cA _).mono ?_
  rintro e w1 ⟨rfl, b1⟩
  go_wp2
  go_ret
  exact ⟨rfl, (S0.out.next b1).below⟩

theorem less_long (h : Bool) (c k : Int) (a : Option Addr) (n cap : Nat) (i d : Int) (hn : 70 < n) (cA : AwC9) (w : World) :
    Calls Try.prog 6 #[.agg #[.bool h, .int .i64 c, .int .i64 k], .slice a n cap, .agg #[.int .i64 i, .int .i64 d]] w fun E w' => E = .returned (.bool true) ∧ Below w.heap.size w w' := by
  have d0 : ((n : Int) == 0) = false := by simp; omega
  have d0' : (n == 0) = false := by simp; omega
  have d1 : decide (70 < n) = true := decide_eq_true hn
  have d2 : decide (70 < (n : Int)) = true := decide_eq_true (by omega)
  have S0 := Lib.hid (Tl.start w h c k i d)
  go_enter Try.func6, Try.ntmps6
  go_wp2_with fail
  refine (Hid.out cA _).mono ?_
  rintro e w1 ⟨rfl, b1⟩
  go_wp2
  go_ret
  exact ⟨rfl, (S0.out.next b1).below⟩

set_option maxRecDepth 20000 in
theorem less_t (h : Bool) (c k : Int) (a : Option Addr) (n cap : Nat) (L : List Pa) (i d : Int) (hL : L.length = n) (hn0 : n ≠ 0) (hn : n ≤ 70) (t : Int) (ht : testE h c k L = t) (hne : t ≠ 0) (cA : AwC9) (w : World) (hp : PAt w a L) :
    Calls Try.prog 6 #[.agg #[.bool h, .int .i64 c, .int .i64 k], .slice a n cap, .agg #[.int .i64 i, .int .i64 d]] w fun E w' => E = .returned (.bool true) ∧ Below w.heap.size w w' := by
  have d0 : ((n : Int) == 0) = false := by simp; omega
  have d0' : (n == 0) = false := by simp; omega
  have d1 : decide (70 < n) = false := decide_eq_false (by omega)
  have d2 : decide (70 < (n : Int)) = false := decide_eq_false (by omega)
  have CT : Hid (∀ W, Below w.heap.size w W → Calls Try.prog 14 #[.agg #[.bool h, .int .i64 c, .int .i64 k], .slice a n cap] W fun e w' => e = .returned (.int .i64 t) ∧ Below W.heap.size W w') := fun W hW => by
    have := atest_any h c k a cap L (by omega) W (hp.next hW)
    rw [hL] at this
    rwa [ht] at this
  have d5 : (t != 0) = true := by simpa using hne
  have d6 : (t == 0) = false := by simpa using hne
  have S0 := Lib.hid (Tl.start w h c k i d)
  obtain ⟨W0, hW0⟩ : ∃ W0, (w.alloc (.cells #[.bool h, .int .i64 c, .int .i64 k] 23)).alloc (.cells #[.int .i64 i, .int .i64 d] 49) = W0 := ⟨_, rfl⟩
  rw [hW0] at S0
  have HW := Lib.hid hW0
  clear hW0 hp hL ht hne hn0 hn
  go_enter Try.func6, Try.ntmps6
  go_wp2_with fail
  rw [HW.out]
  refine (CT.out _ S0.out.below).mono ?_
  rintro e w1 ⟨rfl, b1⟩
  have S1 := Lib.hid (S0.out.next b1)
  have p0 := S1.out.r.c0
  have p1 := S1.out.r.c1
  have p2 := S1.out.r.c2
  have t0 := S1.out.t0
  have t1 := S1.out.t1
  go_wp2_with fail
  refine (Hid.out cA _).mono ?_
  rintro e w40 ⟨rfl, b40⟩
  go_wp2
  go_ret
  exact ⟨rfl, (S1.out.next b40).below⟩

set_option maxRecDepth 20000 in
theorem less_low (h : Bool) (c k : Int) (a : Option Addr) (n cap : Nat) (L : List Pa) (i d : Int) (hL : L.length = n) (hn0 : n ≠ 0) (hn : n ≤ 70) (ht : testE h c k L = 0) (hi : i < 0) (cA : AwC9) (w : World) (hp : PAt w a L) :
    Calls Try.prog 6 #[.agg #[.bool h, .int .i64 c, .int .i64 k], .slice a n cap, .agg #[.int .i64 i, .int .i64 d]] w fun E w' => E = .returned (.bool true) ∧ Below w.heap.size w w' := by
  have d0 : ((n : Int) == 0) = false := by simp; omega
  have d0' : (n == 0) = false := by simp; omega
  have d1 : decide (70 < n) = false := decide_eq_false (by omega)
  have d2 : decide (70 < (n : Int)) = false := decide_eq_false (by omega)
  have d3 : decide (i < 0) = true := decide_eq_true hi
  have CT : Hid (∀ W, Below w.heap.size w W → Calls Try.prog 14 #[.agg #[.bool h, .int .i64 c, .int .i64 k], .slice a n cap] W fun e w' => e = .returned (.int .i64 0) ∧ Below W.heap.size W w') := fun W hW => by
    have := atest_any h c k a cap L (by omega) W (hp.next hW)
    rw [hL] at this
    rwa [ht] at this
  have S0 := Lib.hid (Tl.start w h c k i d)
  obtain ⟨W0, hW0⟩ : ∃ W0, (w.alloc (.cells #[.bool h, .int .i64 c, .int .i64 k] 23)).alloc (.cells #[.int .i64 i, .int .i64 d] 49) = W0 := ⟨_, rfl⟩
  rw [hW0] at S0
  have HW := Lib.hid hW0
  clear hW0 hp hL ht hn0 hn hi
  go_enter Try.func6, Try.ntmps6
  go_wp2_with fail
  rw [HW.out]
  refine (CT.out _ S0.out.below).mono ?_
  rintro e w1 ⟨rfl, b1⟩
  have S1 := Lib.hid (S0.out.next b1)
  have p0 := S1.out.r.c0
  have p1 := S1.out.r.c1
  have p2 := S1.out.r.c2
  have t0 := S1.out.t0
  have t1 := S1.out.t1
  go_wp2_with fail
  refine (Hid.out cA _).mono ?_
  rintro e w40 ⟨rfl, b40⟩
  go_wp2
  go_ret
  exact ⟨rfl, (S1.out.next b40).below⟩

set_option maxRecDepth 20000 in
theorem less_high (h : Bool) (c k : Int) (a : Option Addr) (n cap : Nat) (L : List Pa) (i d : Int) (hL : L.length = n) (hn0 : n ≠ 0) (hn : n ≤ 70) (ht : testE h c k L = 0) (hi0 : 0 ≤ i) (hi : (n : Int) ≤ i) (cA : AwC9) (w : World) (hp : PAt w a L) :
    Calls Try.prog 6 #[.agg #[.bool h, .int .i64 c, .int .i64 k], .slice a n cap, .agg #[.int .i64 i, .int .i64 d]] w fun E w' => E = .returned (.bool true) ∧ Below w.heap.size w w' := by
  have d0 : ((n : Int) == 0) = false := by simp; omega
  have d0' : (n == 0) = false := by simp; omega
  have d1 : decide (70 < n) = false := decide_eq_false (by omega)
  have d2 : decide (70 < (n : Int)) = false := decide_eq_false (by omega)
  have d3 : decide (i < 0) = false := decide_eq_false (by omega)
  have d4 : decide ((n : Int) ≤ i) = true := decide_eq_true hi
  have CT : Hid (∀ W, Below w.heap.size w W → Calls Try.prog 14 #[.agg #[.bool h, .int .i64 c, .int .i64 k], .slice a n cap] W fun e w' => e = .returned (.int .i64 0) ∧ Below W.heap.size W w') := fun W hW => by
    have := atest_any h c k a cap L (by omega) W (hp.next hW)
    rw [hL] at this
    rwa [ht] at this
  have S0 := Lib.hid (Tl.start w h c k i d)
  obtain ⟨W0, hW0⟩ : ∃ W0, (w.alloc (.cells #[.bool h, .int .i64 c, .int .i64 k] 23)).alloc (.cells #[.int .i64 i, .int .i64 d] 49) = W0 := ⟨_, rfl⟩
  rw [hW0] at S0
  have HW := Lib.hid hW0
  clear hW0 hp hL ht hn0 hn hi hi0
  go_enter Try.func6, Try.ntmps6
  go_wp2_with fail
  rw [HW.out]
  refine (CT.out _ S0.out.below).mono ?_
  rintro e w1 ⟨rfl, b1⟩
  have S1 := Lib.hid (S0.out.next b1)
  have p0 := S1.out.r.c0
  have p1 := S1.out.r.c1
  have p2 := S1.out.r.c2
  have t0 := S1.out.t0
  have t1 := S1.out.t1
  go_wp2_with fail
  refine (Hid.out cA _).mono ?_
  rintro e w40 ⟨rfl, b40⟩
  go_wp2
  go_ret
  exact ⟨rfl, (S1.out.next b40).below⟩
end Go.Proofs.Ytfjepkakimhbbaa
