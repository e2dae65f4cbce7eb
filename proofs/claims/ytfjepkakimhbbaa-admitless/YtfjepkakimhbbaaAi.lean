/-
  admit's law: the document's Test, the law's test, fits and awake.
-/
import Derived.Test.YtfjepkakimhbbaaAh
namespace Go.Proofs.Ytfjepkakimhbbaa
open Go.RowKit Go.Sort Go.Shelf Go.Maps
set_option linter.unusedVariables false
set_option linter.unusedSimpArgs false

theorem rtest_any (h : Bool) (c k : Int) (a : Option Addr) (cap : Nat) (L : List Pa) (hl : L.length ≤ 1000) (w : World) (hp : PAt w a L) :
    Calls Try.prog 27 #[.bool h, .int .i64 c, .int .i64 k, .slice a L.length cap] w fun e w' => e = .returned (.int .i64 (testE h c k L)) ∧ Below w.heap.size w w' := by
  have C1 := Lib.hid (fun W => rrule_any c k W)
  have C2 := Lib.hid (rload_any h a cap L hl w hp)
  obtain ⟨R, hR⟩ : ∃ R, testE h c k L = R := ⟨_, rfl⟩
  rw [hR]
  clear hp
  rcases ruleE_two c k with hk | hk
  · rw [hk] at C1
    cases hA : allB L with
    | true =>
      have e2 : rloadR h L = (sumU h L, maxU h L, true) := if_pos hA
      rw [e2] at C2
      obtain ⟨_, ⟨m0, m1⟩, _⟩ := uIn h hA
      have C3 := Lib.hid (fun W => rbound_any h c k (maxU h L) hk m0 m1 W)
      by_cases hb : boundN h c k (maxU h L) < sumU h L
      · obtain rfl : R = 17 := by rw [← hR]; unfold testE; rw [if_pos hk, if_pos hA, if_pos hb]
        have hb' : decide (boundN h c k (maxU h L) < sumU h L) = true := decide_eq_true hb
        clear hR hb e2 m0 m1
        generalize boundN h c k (maxU h L) = B at *
        generalize sumU h L = s at *
        generalize maxU h L = m at *
        generalize L.length = n at *
        go_enter Try.func27, Try.ntmps27
        go_wp2_with fail
        refine (C1.out _).mono ?_
        rintro e w1 ⟨rfl, rfl⟩
        go_wp2_with fail
        refine C2.out.mono ?_
        rintro e w2 ⟨rfl, b2⟩
        go_wp2_with fail
        refine (C3.out _).mono ?_
        rintro e w3 ⟨rfl, rfl⟩
        go_wp2
        go_ret
        exact ⟨rfl, b2⟩
      · obtain rfl : R = 0 := by rw [← hR]; unfold testE; rw [if_pos hk, if_pos hA, if_neg hb]
        have hb' : decide (boundN h c k (maxU h L) < sumU h L) = false := decide_eq_false hb
        clear hR hb e2 m0 m1
        generalize boundN h c k (maxU h L) = B at *
        generalize sumU h L = s at *
        generalize maxU h L = m at *
        generalize L.length = n at *
        go_enter Try.func27, Try.ntmps27
        go_wp2_with fail
        refine (C1.out _).mono ?_
        rintro e w1 ⟨rfl, rfl⟩
        go_wp2_with fail
        refine C2.out.mono ?_
        rintro e w2 ⟨rfl, b2⟩
        go_wp2_with fail
        refine (C3.out _).mono ?_
        rintro e w3 ⟨rfl, rfl⟩
        go_wp2
        go_ret
        exact ⟨rfl, b2⟩
    | false =>
      have e2 : rloadR h L = (0, 0, false) := if_neg (by rw [hA]; simp)
      rw [e2] at C2
      obtain rfl : R = 1 := by rw [← hR]; unfold testE; rw [if_pos hk, if_neg (by rw [hA]; simp)]
      clear hR e2
      generalize L.length = n at *
      go_enter Try.func27, Try.ntmps27
      go_wp2_with fail
      refine (C1.out _).mono ?_
      rintro e w1 ⟨rfl, rfl⟩
      go_wp2_with fail
      refine C2.out.mono ?_
      rintro e w2 ⟨rfl, b2⟩
      go_wp2
      go_ret
      exact ⟨rfl, b2⟩
  · rw [hk] at C1
    obtain rfl : R = 1 := by rw [← hR]; unfold testE; rw [if_neg (by omega)]
    clear hR
    go_enter Try.func27, Try.ntmps27
    go_wp2_with fail
    refine (C1.out _).mono ?_
    rintro e w1 ⟨rfl, rfl⟩
    go_wp2
    go_ret
    exact ⟨rfl, Below.refl _ _⟩

theorem ltest_any (h : Bool) (c k : Int) (a : Option Addr) (cap : Nat) (L : List Pa) (hl : L.length ≤ 1000) (w : World) (hp : PAt w a L) :
    Calls Try.prog 15 #[ruV h c k, .slice a L.length cap] w fun e w' => e = .returned (.int .i64 (testE h c k L)) ∧ Below w.heap.size w w' := by
  obtain ⟨W0, hW0⟩ : ∃ W0, w.alloc (.cells #[.bool h, .int .i64 c, .int .i64 k] 23) = W0 := ⟨_, rfl⟩
  have b0 : Below w.heap.size w W0 := by rw [← hW0]; exact (Below.refl _ _).alloc (Nat.le_refl _) _
  have C1 := Lib.hid (rtest_any h c k a cap L hl W0 (hp.next b0))
  have HW := Lib.hid hW0
  have B0 := Lib.hid b0
  clear hp hW0 b0
  generalize testE h c k L = R at *
  generalize L.length = n at *
  go_enter Try.func15, Try.ntmps15
  go_wp2_with fail
  rw [HW.out]
  refine C1.out.mono ?_
  rintro e w1 ⟨rfl, b1⟩
  go_wp2
  go_ret
  exact ⟨rfl, B0.out.trans (b1.mono B0.out.size)⟩

theorem fits_any (h : Bool) (c k u : Int) (hk : ruleE c k = 0) (u0 : 0 ≤ u) (u1 : u ≤ 1048576) (a : Option Addr) (cap : Nat) (L : List Pa) (hA : allB L = true) (hl : L.length ≤ 1000) (w : World) (hp : PAt w a L) :
    Calls Try.prog 20 #[ruV h c k, .slice a L.length cap, .int .i64 u] w fun e w' => e = .returned (.bool (fitN h c k (sumU h L) (maxU h L) u)) ∧ Below w.heap.size w w' := by
  obtain ⟨W0, hW0⟩ : ∃ W0, w.alloc (.cells #[.bool h, .int .i64 c, .int .i64 k] 23) = W0 := ⟨_, rfl⟩
  have b0 : Below w.heap.size w W0 := by rw [← hW0]; exact (Below.refl _ _).alloc (Nat.le_refl _) _
  have r0 : Box3 W0 w.heap.size 23 (.bool h) (.int .i64 c) (.int .i64 k) := by rw [← hW0]; exact Box3.start _ _ _ _ _
  have C1 := rload_any h a cap L hl W0 (hp.next b0)
  have e2 : rloadR h L = (sumU h L, maxU h L, true) := if_pos hA
  rw [e2] at C1
  have K1 := Lib.hid C1
  obtain ⟨⟨s0, s1⟩, ⟨m0, m1⟩, _⟩ := uIn h hA
  have C2 := Lib.hid (fun W => rbound_any h c k (max (maxU h L) u) hk (by omega) (by omega) W)
  have HW := Lib.hid hW0
  have H0 := Lib.hid (And.intro b0 r0)
  have e3 : fitN h c k (sumU h L) (maxU h L) u = decide (sumU h L + u ≤ boundN h c k (max (maxU h L) u)) := rfl
  rw [e3]
  have s2 : sumU h L ≤ 1048576000 := by omega
  clear hp hW0 b0 r0 C1 e2 e3 s1
  generalize boundN h c k (max (maxU h L) u) = B at *
  generalize sumU h L = s at *
  generalize maxU h L = m at *
  generalize L.length = n at *
  have hw2 : wrap64 (s + u) = s + u := wrapA (by omega) (by omega)
  go_enter Try.func20, Try.ntmps20
  go_wp2_with fail
  rw [HW.out]
  refine K1.out.mono ?_
  rintro e w1 ⟨rfl, b1⟩
  have R1 := H0.out.2.next' b1
  have q0 := R1.c0
  have q1 := R1.c1
  have q2 := R1.c2
  go_wp2_with fail
  refine (C2.out _).mono ?_
  rintro e w2 ⟨rfl, rfl⟩
  go_wp2
  go_ret
  exact ⟨rfl, H0.out.1.trans (b1.mono H0.out.1.size)⟩

/-- A slice of params that was built on the spot. -/
theorem built_p (w : World) (L : List Pa) (hf : ∀ p ∈ L, Fit p) (hl : L.length ≤ 1000) : OwnP w.heap.size (w.alloc (.cells (flatP L).toArray 40)) (.slice (some ⟨w.heap.size, 0, none⟩) L.length L.length) L := by
  refine ⟨⟨len_flatP L, .inr ⟨w.heap.size, L.length, (flatP L).toArray, rfl, Nat.le_refl _, heap_alloc_new _ _, Nat.le_refl _, by simp only [maxLen]; omega, by simp [len_flatP], ?_⟩⟩, hf⟩
  rw [List.take_of_length_le (by simp [len_flatP])]
theorem OwnP.at_ {B : Nat} {W : World} {a : Option Addr} {n cap : Nat} {L : List Pa} (h : OwnP B W (.slice a n cap) L) : n = L.length ∧ PAt W a L := by
  obtain ⟨a', cap', e, _, hp⟩ := h.form
  injection e with e1 e2 e3
  subst e1 e2
  exact ⟨rfl, hp⟩

abbrev halfP : Pa := (1, 2, 2)
abbrev wholeP : Pa := (9, 9, 9)
theorem half_up : upA true halfP = 524288 := by decide
theorem whole_up : upA true wholeP = 1048576 := by decide
theorem half_sum : sumU true [halfP, halfP] = 1048576 := by rw [sumU_cons, sumU_cons, sumU_nil, half_up]; rfl
theorem half_max : maxU true [halfP, halfP] = 524288 := by rw [maxU_cons, maxU_cons, maxU_nil, half_up]; rfl
theorem whole_sum : sumU true [wholeP, wholeP] = 2097152 := by rw [sumU_cons, sumU_cons, sumU_nil, whole_up]; rfl
theorem whole_max : maxU true [wholeP, wholeP] = 1048576 := by rw [maxU_cons, maxU_cons, maxU_nil, whole_up]; rfl
theorem half_test : testE true 0 2 [halfP, halfP] = 0 := testE_of (by decide) (by decide) (by rw [half_sum, half_max]; decide)
theorem whole_test : testE true 0 2 [wholeP, wholeP] = 17 := by
  unfold testE
  rw [if_pos (by decide), if_pos (by decide), whole_sum, whole_max, if_pos (by decide)]
theorem half_room : RoomR true 0 2 [halfP, halfP] = (524288, 0) := by
  unfold RoomR
  rw [if_pos half_test, half_sum, half_max]
  obtain ⟨⟨r0, r1⟩, r2, r3⟩ := room_is (h := true) (c := 0) (k := 2) (by decide) 1048576 524288
  have f1 : fitN true 0 2 1048576 524288 524288 = true := by decide
  have f2 : fitN true 0 2 1048576 524288 524289 = false := by decide
  have : roomN true 0 2 1048576 524288 = 524288 := by
    rcases Int.lt_trichotomy (roomN true 0 2 1048576 524288) 524288 with x | x | x
    · have := r3 524288 x (by omega)
      rw [f1] at this
      cases this
    · exact x
    · have := r2 524289 (by omega) (by omega)
      rw [f2] at this
      cases this
  rw [this]
theorem fit_half : ∀ p ∈ [halfP, halfP], Fit p := by
  intro p hp
  simp at hp
  subst hp
  exact ⟨⟨by decide, by decide⟩, ⟨by decide, by decide⟩, by decide, by decide⟩
theorem fit_whole : ∀ p ∈ [wholeP, wholeP], Fit p := by
  intro p hp
  simp at hp
  subst hp
  exact ⟨⟨by decide, by decide⟩, ⟨by decide, by decide⟩, by decide, by decide⟩

set_option maxHeartbeats 1000000 in
/-- The laws' awake answers true. -/
theorem awake9_any (w : World) : Calls Try.prog 9 #[] w fun e w' => e = .returned (.bool true) ∧ Below w.heap.size w w' := by
  have CR : Hid (∀ W g, PAt W (some ⟨g, 0, none⟩) [halfP, halfP] → Calls Try.prog 18 #[.agg #[.bool true, .int .i64 0, .int .i64 2], .slice (some ⟨g, 0, none⟩) 2 2] W fun e w' => e = .returned (.tuple #[.int .i64 524288, .int .i64 0]) ∧ Below W.heap.size W w') := fun W g hp => by
    have := room_any true 0 2 (some ⟨g, 0, none⟩) 2 [halfP, halfP] (by simp) W hp
    rwa [half_room] at this
  have CH : Hid (∀ W g, PAt W (some ⟨g, 0, none⟩) [halfP, halfP] → Calls Try.prog 14 #[.agg #[.bool true, .int .i64 0, .int .i64 2], .slice (some ⟨g, 0, none⟩) 2 2] W fun e w' => e = .returned (.int .i64 0) ∧ Below W.heap.size W w') := fun W g hp => by
    have := atest_any true 0 2 (some ⟨g, 0, none⟩) 2 [halfP, halfP] (by simp) W hp
    rwa [half_test] at this
  have CW : Hid (∀ W g, PAt W (some ⟨g, 0, none⟩) [wholeP, wholeP] → Calls Try.prog 14 #[.agg #[.bool true, .int .i64 0, .int .i64 2], .slice (some ⟨g, 0, none⟩) 2 2] W fun e w' => e = .returned (.int .i64 17) ∧ Below W.heap.size W w') := fun W g hp => by
    have := atest_any true 0 2 (some ⟨g, 0, none⟩) 2 [wholeP, wholeP] (by simp) W hp
    rwa [whole_test] at this
  obtain ⟨W0, hW0⟩ : ∃ W0, ((w.alloc (.cells #[.bool true, .int .i64 0, .int .i64 2] 23)).alloc (.cells #[.int .i64 9, .int .i64 9, .int .i64 9] 40)).alloc (.cells #[.int .i64 1, .int .i64 2, .int .i64 2] 40) = W0 := ⟨_, rfl⟩
  have b0 : Below w.heap.size w W0 := by rw [← hW0]; exact (((Below.refl _ _).alloc (Nat.le_refl _) _).alloc (by simp) _).alloc (by simp; omega) _
  have r0 : Box3 W0 w.heap.size 23 (.bool true) (.int .i64 0) (.int .i64 2) := by rw [← hW0]; exact ((Box3.start w _ _ _ _).next' ((Below.refl _ _).alloc (Nat.le_refl _) _)).next' ((Below.refl _ _).alloc (Nat.le_refl _) _)
  have q0 : Box3 W0 (w.heap.size + 1) 40 (.int .i64 9) (.int .i64 9) (.int .i64 9) := by
    rw [← hW0]
    have := Box3.start (w.alloc (.cells #[.bool true, .int .i64 0, .int .i64 2] 23)) 40 (.int .i64 9) (.int .i64 9) (.int .i64 9)
    exact (show Box3 _ (w.heap.size + 1) _ _ _ _ by simpa using this).next' ((Below.refl _ _).alloc (Nat.le_refl _) _)
  have h0 : Box3 W0 (w.heap.size + 1 + 1) 40 (.int .i64 1) (.int .i64 2) (.int .i64 2) := by
    rw [← hW0]
    have := Box3.start ((w.alloc (.cells #[.bool true, .int .i64 0, .int .i64 2] 23)).alloc (.cells #[.int .i64 9, .int .i64 9, .int .i64 9] 40)) 40 (.int .i64 1) (.int .i64 2) (.int .i64 2)
    simpa using this
  have HW := Lib.hid hW0
  have H0 := Lib.hid (And.intro b0 (And.intro r0 (And.intro q0 h0)))
  have BH : Hid (∀ W : World, PAt (W.alloc (.cells #[.int .i64 1, .int .i64 2, .int .i64 2, .int .i64 1, .int .i64 2, .int .i64 2] 40)) (some ⟨W.heap.size, 0, none⟩) [halfP, halfP]) := fun W => (built_p W [halfP, halfP] fit_half (by simp)).at_.2
  have BW : Hid (∀ W : World, PAt (W.alloc (.cells #[.int .i64 9, .int .i64 9, .int .i64 9, .int .i64 9, .int .i64 9, .int .i64 9] 40)) (some ⟨W.heap.size, 0, none⟩) [wholeP, wholeP]) := fun W => (built_p W [wholeP, wholeP] fit_whole (by simp)).at_.2
  clear hW0 b0 r0 q0 h0
  go_enter Try.func9, Try.ntmps9
  go_upto_region 4 with (fail)
  rw [HW.out]
  have p0 := H0.out.2.1.c0
  have p1 := H0.out.2.1.c1
  have p2 := H0.out.2.1.c2
  have p3 := H0.out.2.2.2.c0
  have p4 := H0.out.2.2.2.c1
  have p5 := H0.out.2.2.2.c2
  go_wp2_with fail
  refine (CR.out _ _ (BH.out _)).mono ?_
  rintro e w1 ⟨rfl, b1⟩
  have b1' : Below W0.heap.size W0 w1 := ((Below.refl _ _).alloc (Nat.le_refl _) _).trans (b1.mono (by simp))
  have H1 : Hid (Below w.heap.size w w1 ∧ Box3 w1 w.heap.size 23 (.bool true) (.int .i64 0) (.int .i64 2) ∧ Box3 w1 (w.heap.size + 1) 40 (.int .i64 9) (.int .i64 9) (.int .i64 9) ∧ Box3 w1 (w.heap.size + 1 + 1) 40 (.int .i64 1) (.int .i64 2) (.int .i64 2)) :=
    ⟨H0.out.1.trans (b1'.mono H0.out.1.size), H0.out.2.1.next' b1', H0.out.2.2.1.next' b1', H0.out.2.2.2.next' b1'⟩
  clear p0 p1 p2 p3 p4 p5 b1 b1'
  have p0 := H1.out.2.1.c0
  have p1 := H1.out.2.1.c1
  have p2 := H1.out.2.1.c2
  have p3 := H1.out.2.2.1.c0
  have p4 := H1.out.2.2.1.c1
  have p5 := H1.out.2.2.1.c2
  go_wp2_with fail
  refine (CW.out _ _ (BW.out _)).mono ?_
  rintro e w2 ⟨rfl, b2⟩
  have b2' : Below w1.heap.size w1 w2 := ((Below.refl _ _).alloc (Nat.le_refl _) _).trans (b2.mono (by simp))
  have H2 : Hid (Below w.heap.size w w2 ∧ Box3 w2 w.heap.size 23 (.bool true) (.int .i64 0) (.int .i64 2) ∧ Box3 w2 (w.heap.size + 1) 40 (.int .i64 9) (.int .i64 9) (.int .i64 9) ∧ Box3 w2 (w.heap.size + 1 + 1) 40 (.int .i64 1) (.int .i64 2) (.int .i64 2)) :=
    ⟨H1.out.1.trans (b2'.mono H1.out.1.size), H1.out.2.1.next' b2', H1.out.2.2.1.next' b2', H1.out.2.2.2.next' b2'⟩
  clear p0 p1 p2 p3 p4 p5 b2 b2'
  have p0 := H2.out.2.1.c0
  have p1 := H2.out.2.1.c1
  have p2 := H2.out.2.1.c2
  have p3 := H2.out.2.2.2.c0
  have p4 := H2.out.2.2.2.c1
  have p5 := H2.out.2.2.2.c2
  go_wp2_with fail
  refine (CH.out _ _ (BH.out _)).mono ?_
  rintro e w3 ⟨rfl, b3⟩
  have b3' : Below w2.heap.size w2 w3 := ((Below.refl _ _).alloc (Nat.le_refl _) _).trans (b3.mono (by simp))
  have B3 : Hid (Below w.heap.size w w3) := H2.out.1.trans (b3'.mono H2.out.1.size)
  clear p0 p1 p2 p3 p4 p5 b3 b3'
  go_wp2
  go_ret
  exact ⟨rfl, B3.out⟩
def AwC9 : Prop := Hid (∀ W, Calls Try.prog 9 #[] W fun E w' => E = .returned (.bool true) ∧ Below W.heap.size W w')
theorem awC9 : AwC9 := Lib.hid (fun W => awake9_any W)
end Go.Proofs.Ytfjepkakimhbbaa
