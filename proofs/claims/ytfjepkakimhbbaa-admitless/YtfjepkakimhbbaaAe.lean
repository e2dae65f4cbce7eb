/-
  admit: Load at a rule that may not be; taken, Test, Room, Copies.
-/
import Derived.Test.YtfjepkakimhbbaaAd
import Derived.OwnWalk
namespace Go.Proofs.Ytfjepkakimhbbaa
open Go.RowKit Go.Sort Go.Shelf Go.Maps
set_option linter.unusedVariables false
set_option linter.unusedSimpArgs false

theorem load_bad (h : Bool) (c k : Int) (hk : ruleE c k = 1) (a : Option Addr) (n cap : Nat) (w : World) :
    Calls Try.prog 10 #[ruV h c k, .slice a n cap] w fun e w' => e = .returned (.tuple #[.int .i64 0, .int .i64 0, .int .i64 1]) ∧ Below w.heap.size w w' := by
  obtain ⟨W0, hW0⟩ : ∃ W0, (((w.alloc (.cells #[.bool h, .int .i64 c, .int .i64 k] 23)).alloc (.cells #[.int .i64 0] 3)).alloc (.cells #[.int .i64 0] 3)).alloc (.cells #[.int .i64 0] 26) = W0 := ⟨_, rfl⟩
  have l0 : Ld w W0 (w.heap.size + 1) 0 0 0 := by
    rw [← hW0]
    refine ⟨((((Below.refl _ _).alloc (Nat.le_refl _) _).alloc (by simp) _).alloc (by simp; omega) _).alloc (by simp; omega) _, ?_, ?_, ?_⟩
    · have := N1.start (w.alloc (.cells #[.bool h, .int .i64 c, .int .i64 k] 23)) 3 0
      exact ((show N1 _ (w.heap.size + 1) _ _ by simpa using this).alloc _).alloc _
    · have := N1.start ((w.alloc (.cells #[.bool h, .int .i64 c, .int .i64 k] 23)).alloc (.cells #[.int .i64 0] 3)) 3 0
      exact (show N1 _ (w.heap.size + 1 + 1) _ _ by simpa using this).alloc _
    · have := N1.start (((w.alloc (.cells #[.bool h, .int .i64 c, .int .i64 k] 23)).alloc (.cells #[.int .i64 0] 3)).alloc (.cells #[.int .i64 0] 3)) 26 0
      simpa using this
  have C1 : Hid (∀ W, Calls Try.prog 13 #[.agg #[.bool h, .int .i64 c, .int .i64 k]] W fun e w' => e = .returned (.int .i64 1) ∧ Below W.heap.size W w') := fun W => by
    have := acheck_any h c k W
    rwa [hk] at this
  have HW := Lib.hid hW0
  have H0 := Lib.hid l0
  clear hW0 l0
  go_enter Try.func10, Try.ntmps10
  go_wp2_with fail
  rw [HW.out]
  refine (C1.out _).mono ?_
  rintro e W1 ⟨rfl, b1⟩
  have L1 := Lib.hid (H0.out.next b1)
  have c1 := L1.out.s.cell
  have c2 := L1.out.m.cell
  have c3 := L1.out.e.cell
  have f1 := L1.out.s.thaw
  have f2 := L1.out.m.thaw
  have f3 := L1.out.e.thaw
  go_wp2
  have hd := L1.out.set3 (Nat.le_succ _) 0 0 1
  generalize ((W1.setCell ⟨w.heap.size + 1, 0, none⟩ (.int .i64 0)).setCell ⟨w.heap.size + 1 + 1, 0, none⟩ (.int .i64 0)).setCell ⟨w.heap.size + 1 + 1 + 1, 0, none⟩ (.int .i64 1) = W6 at *
  have g1 := hd.s.cell
  have g2 := hd.m.cell
  have g3 := hd.e.cell
  exact bodyPost_ret (v := .tuple #[.int .i64 0, .int .i64 0, .int .i64 1]) (by simp [results, Try.f10, go_sem, g1, g2, g3]) rfl ⟨rfl, hd.below⟩

/-- Load, of any rule. -/
def LoadR (h : Bool) (c k : Int) (L : List Pa) : Int × Int × Int := if ruleE c k = 0 then loadR h L else (0, 0, 1)
theorem load_any (h : Bool) (c k : Int) (a : Option Addr) (cap : Nat) (L : List Pa) (hl : L.length ≤ 1000) (w : World) (hp : PAt w a L) :
    Calls Try.prog 10 #[ruV h c k, .slice a L.length cap] w fun e w' => e = .returned (.tuple #[.int .i64 (LoadR h c k L).1, .int .i64 (LoadR h c k L).2.1, .int .i64 (LoadR h c k L).2.2]) ∧ Below w.heap.size w w' := by
  rcases ruleE_two c k with hk | hk
  · have e : LoadR h c k L = loadR h L := if_pos hk
    rw [e]
    exact load_ok h c k hk a cap L hl w hp
  · have e : LoadR h c k L = (0, 0, 1) := if_neg (by omega)
    rw [e]
    exact load_bad h c k hk a L.length cap w

/-- What is wrong with servers that are to be taken together. -/
def testE (h : Bool) (c k : Int) (L : List Pa) : Int :=
  if ruleE c k = 0 then (if allB L = true then (if boundN h c k (maxU h L) < sumU h L then 17 else 0) else 1) else 1
def takenR (h : Bool) (c k : Int) (L : List Pa) : Int × Int × Int := if testE h c k L = 0 then (sumU h L, maxU h L, 0) else (0, 0, testE h c k L)
theorem testE_ok {h : Bool} {c k : Int} {L : List Pa} (e : testE h c k L = 0) : ruleE c k = 0 ∧ allB L = true ∧ sumU h L ≤ boundN h c k (maxU h L) := by
  unfold testE at e
  split at e
  next h1 =>
    split at e
    next h2 =>
      split at e
      next h3 => cases e
      next h3 => exact ⟨h1, h2, by omega⟩
    next h2 => cases e
  next h1 => cases e
theorem testE_of {h : Bool} {c k : Int} {L : List Pa} (h1 : ruleE c k = 0) (h2 : allB L = true) (h3 : sumU h L ≤ boundN h c k (maxU h L)) : testE h c k L = 0 := by
  unfold testE
  rw [if_pos h1, if_pos h2, if_neg (by omega)]

theorem taken_any (h : Bool) (c k : Int) (a : Option Addr) (cap : Nat) (L : List Pa) (hl : L.length ≤ 1000) (w : World) (hp : PAt w a L) :
    Calls Try.prog 26 #[ruV h c k, .slice a L.length cap] w fun e w' => e = .returned (.tuple #[.int .i64 (takenR h c k L).1, .int .i64 (takenR h c k L).2.1, .int .i64 (takenR h c k L).2.2]) ∧ Below w.heap.size w w' := by
  obtain ⟨W0, hW0⟩ : ∃ W0, w.alloc (.cells #[.bool h, .int .i64 c, .int .i64 k] 23) = W0 := ⟨_, rfl⟩
  have b0 : Below w.heap.size w W0 := by rw [← hW0]; exact (Below.refl _ _).alloc (Nat.le_refl _) _
  have r0 : Box3 W0 w.heap.size 23 (.bool h) (.int .i64 c) (.int .i64 k) := by rw [← hW0]; exact Box3.start _ _ _ _ _
  have C1 := load_any h c k a cap L hl W0 (hp.next b0)
  have HW := Lib.hid hW0
  have H0 := Lib.hid (And.intro b0 r0)
  obtain ⟨n, hn⟩ : ∃ n, L.length = n := ⟨_, rfl⟩
  have HN := Lib.hid hn
  obtain ⟨R, hR⟩ : ∃ R, takenR h c k L = R := ⟨_, rfl⟩
  have HR := Lib.hid hR
  rw [hR]
  clear hp hW0 b0 r0 hR
  rcases ruleE_two c k with hk | hk
  · have e1 : LoadR h c k L = loadR h L := if_pos hk
    cases hA : allB L with
    | true =>
      have e2 : loadR h L = (sumU h L, maxU h L, 0) := if_pos hA
      rw [e1, e2] at C1
      obtain ⟨_, ⟨m0, m1⟩, _⟩ := uIn h hA
      have C2 : Hid (∀ W, Calls Try.prog 25 #[.agg #[.bool h, .int .i64 c, .int .i64 k], .int .i64 (maxU h L)] W fun e w' => e = .returned (.int .i64 (boundN h c k (maxU h L))) ∧ Below W.heap.size W w') := fun W => abound_any h c k _ hk m0 m1 W
      by_cases hb : boundN h c k (maxU h L) < sumU h L
      · have e3 : testE h c k L = 17 := by unfold testE; rw [if_pos hk, if_pos hA, if_pos hb]
        obtain rfl : R = (0, 0, 17) := by rw [← HR.out]; unfold takenR; rw [e3, if_neg (by omega)]
        have hb' : decide (boundN h c k (maxU h L) < sumU h L) = true := decide_eq_true hb
        rw [hn] at C1 ⊢
        have K1 := Lib.hid C1
        clear C1 HR hb m0 m1 e1 e2 e3
        generalize boundN h c k (maxU h L) = B at *
        generalize sumU h L = s at *
        generalize maxU h L = m at *
        go_enter Try.func26, Try.ntmps26
        go_wp2_with fail
        rw [HW.out]
        refine K1.out.mono ?_
        rintro e w1 ⟨rfl, b1⟩
        have R1 := H0.out.2.next' b1
        have p0 := R1.c0
        have p1 := R1.c1
        have p2 := R1.c2
        go_wp2_with fail
        refine (C2.out _).mono ?_
        rintro e w2 ⟨rfl, b2⟩
        go_wp2
        go_ret3
        have q := H0.out.1.trans (b1.mono H0.out.1.size)
        exact ⟨rfl, q.trans (b2.mono q.size)⟩
      · have e3 : testE h c k L = 0 := by unfold testE; rw [if_pos hk, if_pos hA, if_neg hb]
        obtain rfl : R = (sumU h L, maxU h L, 0) := by rw [← HR.out]; unfold takenR; rw [e3, if_pos rfl]
        have hb' : decide (boundN h c k (maxU h L) < sumU h L) = false := decide_eq_false hb
        rw [hn] at C1 ⊢
        have K1 := Lib.hid C1
        clear C1 HR hb m0 m1 e1 e2 e3
        generalize boundN h c k (maxU h L) = B at *
        generalize sumU h L = s at *
        generalize maxU h L = m at *
        go_enter Try.func26, Try.ntmps26
        go_wp2_with fail
        rw [HW.out]
        refine K1.out.mono ?_
        rintro e w1 ⟨rfl, b1⟩
        have R1 := H0.out.2.next' b1
        have p0 := R1.c0
        have p1 := R1.c1
        have p2 := R1.c2
        go_wp2_with fail
        refine (C2.out _).mono ?_
        rintro e w2 ⟨rfl, b2⟩
        go_wp2
        go_ret3
        have q := H0.out.1.trans (b1.mono H0.out.1.size)
        exact ⟨rfl, q.trans (b2.mono q.size)⟩
    | false =>
      have e2 : loadR h L = (0, 0, 1) := if_neg (by rw [hA]; simp)
      rw [e1, e2] at C1
      have e3 : testE h c k L = 1 := by unfold testE; rw [if_pos hk, if_neg (by rw [hA]; simp)]
      obtain rfl : R = (0, 0, 1) := by rw [← HR.out]; unfold takenR; rw [e3, if_neg (by omega)]
      rw [hn] at C1 ⊢
      have K1 := Lib.hid C1
      clear C1 HR e1 e2 e3
      go_enter Try.func26, Try.ntmps26
      go_wp2_with fail
      rw [HW.out]
      refine K1.out.mono ?_
      rintro e w1 ⟨rfl, b1⟩
      go_wp2
      go_ret3
      exact ⟨rfl, H0.out.1.trans (b1.mono H0.out.1.size)⟩
  · have e1 : LoadR h c k L = (0, 0, 1) := if_neg (by omega)
    rw [e1] at C1
    have e3 : testE h c k L = 1 := by unfold testE; rw [if_neg (by omega)]
    obtain rfl : R = (0, 0, 1) := by rw [← HR.out]; unfold takenR; rw [e3, if_neg (by omega)]
    rw [hn] at C1 ⊢
    have K1 := Lib.hid C1
    clear C1 HR e1 e3
    go_enter Try.func26, Try.ntmps26
    go_wp2_with fail
    rw [HW.out]
    refine K1.out.mono ?_
    rintro e w1 ⟨rfl, b1⟩
    go_wp2
    go_ret3
    exact ⟨rfl, H0.out.1.trans (b1.mono H0.out.1.size)⟩

theorem takenR_e (h : Bool) (c k : Int) (L : List Pa) : (takenR h c k L).2.2 = testE h c k L := by
  unfold takenR
  split
  next e => exact e.symm
  next e => rfl

/-- admit.Test. -/
theorem atest_any (h : Bool) (c k : Int) (a : Option Addr) (cap : Nat) (L : List Pa) (hl : L.length ≤ 1000) (w : World) (hp : PAt w a L) :
    Calls Try.prog 14 #[ruV h c k, .slice a L.length cap] w fun e w' => e = .returned (.int .i64 (testE h c k L)) ∧ Below w.heap.size w w' := by
  obtain ⟨W0, hW0⟩ : ∃ W0, w.alloc (.cells #[.bool h, .int .i64 c, .int .i64 k] 23) = W0 := ⟨_, rfl⟩
  have b0 : Below w.heap.size w W0 := by rw [← hW0]; exact (Below.refl _ _).alloc (Nat.le_refl _) _
  have C1 := Lib.hid (taken_any h c k a cap L hl W0 (hp.next b0))
  have et := takenR_e h c k L
  have HW := Lib.hid hW0
  have B0 := Lib.hid b0
  rw [← et]
  clear hp hW0 b0 et
  generalize takenR h c k L = R at *
  generalize L.length = n at *
  go_enter Try.func14, Try.ntmps14
  go_wp2_with fail
  rw [HW.out]
  refine C1.out.mono ?_
  rintro e w1 ⟨rfl, b1⟩
  go_wp2
  go_ret
  exact ⟨rfl, B0.out.trans (b1.mono B0.out.size)⟩

/-- Does one more server that asks for u pass? -/
def fitN (h : Bool) (c k s m u : Int) : Bool := decide (s + u ≤ boundN h c k (max m u))
theorem fitN_mono {h : Bool} {c k s m u v : Int} (hr : ruleE c k = 0) (huv : u ≤ v) (h1 : fitN h c k s m v = true) : fitN h c k s m u = true := by
  obtain ⟨_, k0, k1⟩ := ruleE_may hr
  have h2 : s + v ≤ boundN h c k (max m v) := of_decide_eq_true h1
  refine decide_eq_true ?_
  cases h with
  | true =>
    have e : (k - 1) * max m u ≤ (k - 1) * max m v := Int.mul_le_mul_of_nonneg_left (by omega) (by omega)
    have h3 : s + v ≤ k * 1048576 - (k - 1) * max m v := h2
    show s + u ≤ k * 1048576 - (k - 1) * max m u
    generalize (k - 1) * max m v = x at *
    generalize (k - 1) * max m u = y at *
    omega
  | false =>
    have h3 : s + v ≤ c * k := h2
    show s + u ≤ c * k
    omega
/-- How much one more server may ask for, of the numbers up to n. -/
def roomU (n : Nat) (h : Bool) (c k s m : Int) : Nat := (List.range n).countP (fun i : Nat => fitN h c k s m ((i : Int) + 1))
theorem roomU_is (n : Nat) {h : Bool} {c k : Int} (hr : ruleE c k = 0) (s m : Int) : roomU n h c k s m ≤ n ∧ (∀ t : Nat, t < roomU n h c k s m → fitN h c k s m ((t : Int) + 1) = true) ∧ ∀ t : Nat, roomU n h c k s m ≤ t → t < n → fitN h c k s m ((t : Int) + 1) = false :=
  count_is (fun i : Nat => fitN h c k s m ((i : Int) + 1)) n (fun a b hab _ hb => fitN_mono hr (by omega) hb)
theorem roomU_any (n : Nat) (hn : n ≤ 1048576) (h : Bool) (c k s m : Int) (hk : ruleE c k = 0) (s0 : 0 ≤ s) (s1 : s ≤ 16777216) (m0 : 0 ≤ m) (m1 : m ≤ 1048576) (W : World) (sb rb mb : Nat) (h1 : N1 W sb 3 s) (h2 : N1 W mb 3 m) (h3 : Box3 W rb 23 (.bool h) (.int .i64 c) (.int .i64 k)) :
    Calls Try.prog 28 #[.int .i64 (n : Int), .func (.func 29) #[] #[.pointer (some ⟨sb, 0, none⟩), .pointer (some ⟨rb, 0, none⟩), .pointer (some ⟨mb, 0, none⟩)]] W fun e w' => e = .returned (.int .i64 ((roomU n h c k s m : Nat) : Int)) ∧ Grew W w' :=
  greatest_any 29 _ n (fun i : Nat => fitN h c k s m ((i : Int) + 1)) W (enters_of Try.func29 (by kernel_rfl) rfl) (by omega)
    (fun W' g i hi => room1_any h c k s m ((i : Int) + 1) sb rb mb hk s0 s1 m0 m1 (by omega) (by omega) W' (h1.kept (g.block h1.lt)) (h2.kept (g.block h2.lt)) (h3.kept (g.block h3.lt)))
    (fun a b hab _ hb => fitN_mono hk (by omega) hb)
/-- How much one more server may ask for. -/
def roomN (h : Bool) (c k s m : Int) : Int := ((roomU 1048576 h c k s m : Nat) : Int)
theorem room_is {h : Bool} {c k : Int} (hr : ruleE c k = 0) (s m : Int) : (0 ≤ roomN h c k s m ∧ roomN h c k s m ≤ 1048576) ∧ (∀ u, 1 ≤ u → u ≤ roomN h c k s m → fitN h c k s m u = true) ∧ ∀ u, roomN h c k s m < u → u ≤ 1048576 → fitN h c k s m u = false := by
  obtain ⟨h1, h2, h3⟩ := roomU_is 1048576 (h := h) hr s m
  unfold roomN
  generalize roomU 1048576 h c k s m = v at *
  refine ⟨⟨by omega, by omega⟩, fun u hu hv => ?_, fun u hu hv => ?_⟩
  · have := h2 (u - 1).toNat (by omega)
    rwa [show (((u - 1).toNat : Nat) : Int) + 1 = u by omega] at this
  · have := h3 (u - 1).toNat (by omega) (by omega)
    rwa [show (((u - 1).toNat : Nat) : Int) + 1 = u by omega] at this
def RoomR (h : Bool) (c k : Int) (L : List Pa) : Int × Int := if testE h c k L = 0 then (roomN h c k (sumU h L) (maxU h L), 0) else (0, testE h c k L)

theorem boundN_le {h : Bool} {c k m : Int} (hr : ruleE c k = 0) (m0 : 0 ≤ m) (m1 : m ≤ 1048576) : boundN h c k m ≤ 16777216 := (boundN_in h hr m0 m1).2

set_option maxHeartbeats 1000000 in
theorem room_any (h : Bool) (c k : Int) (a : Option Addr) (cap : Nat) (L : List Pa) (hl : L.length ≤ 1000) (w : World) (hp : PAt w a L) :
    Calls Try.prog 18 #[ruV h c k, .slice a L.length cap] w fun e w' => e = .returned (.tuple #[.int .i64 (RoomR h c k L).1, .int .i64 (RoomR h c k L).2]) ∧ Below w.heap.size w w' := by
  have hmf : ∀ (fn : Fn) (first cap : Array Value) (w : World), (Instr.makeFunc fn first cap).run Try.prog w = .ok (.func fn first cap) w := fun _ _ _ _ => rfl
  obtain ⟨W0, hW0⟩ : ∃ W0, w.alloc (.cells #[.bool h, .int .i64 c, .int .i64 k] 23) = W0 := ⟨_, rfl⟩
  have b0 : Below w.heap.size w W0 := by rw [← hW0]; exact (Below.refl _ _).alloc (Nat.le_refl _) _
  have r0 : Box3 W0 w.heap.size 23 (.bool h) (.int .i64 c) (.int .i64 k) := by rw [← hW0]; exact Box3.start _ _ _ _ _
  have C1 := taken_any h c k a cap L hl W0 (hp.next b0)
  have HW := Lib.hid hW0
  have H0 := Lib.hid (And.intro b0 r0)
  obtain ⟨R, hR⟩ : ∃ R, RoomR h c k L = R := ⟨_, rfl⟩
  rw [hR]
  by_cases ht : testE h c k L = 0
  · obtain ⟨hk, hA, hs⟩ := testE_ok ht
    obtain ⟨⟨s0, _⟩, ⟨m0, m1⟩, _⟩ := uIn h hA
    have s1 : sumU h L ≤ 16777216 := Int.le_trans hs (boundN_le hk m0 m1)
    have e1 : takenR h c k L = (sumU h L, maxU h L, 0) := if_pos ht
    obtain rfl : R = (roomN h c k (sumU h L) (maxU h L), 0) := by rw [← hR]; exact if_pos ht
    rw [e1] at C1
    have K1 := Lib.hid C1
    have CG : Hid (∀ W (sb rb mb : Nat), N1 W sb 3 (sumU h L) → N1 W mb 3 (maxU h L) → Box3 W rb 23 (.bool h) (.int .i64 c) (.int .i64 k) → Calls Try.prog 28 #[.int .i64 1048576, .func (.func 29) #[] #[.pointer (some ⟨sb, 0, none⟩), .pointer (some ⟨rb, 0, none⟩), .pointer (some ⟨mb, 0, none⟩)]] W fun e w' => e = .returned (.int .i64 (roomN h c k (sumU h L) (maxU h L))) ∧ Grew W w') := fun W sb rb mb h1 h2 h3 => roomU_any 1048576 (Nat.le_refl _) h c k (sumU h L) (maxU h L) hk s0 s1 m0 m1 W sb rb mb h1 h2 h3
    clear C1 hp hW0 b0 r0 hR ht hA hs s0 s1 m0 m1 e1
    generalize roomN h c k (sumU h L) (maxU h L) = v at *
    generalize sumU h L = s at *
    generalize maxU h L = m at *
    generalize L.length = n at *
    go_enter Try.func18, Try.ntmps18
    go_wp2_with fail
    rw [HW.out]
    refine K1.out.mono ?_
    rintro e w1 ⟨rfl, b1⟩
    have R1 := Lib.hid (H0.out.2.next' b1)
    go_wp2_with fail
    obtain ⟨W2, hW2⟩ : ∃ W2, (w1.alloc (.cells #[.int .i64 s] 3)).alloc (.cells #[.int .i64 m] 3) = W2 := ⟨_, rfl⟩
    have n1 : N1 W2 w1.heap.size 3 s := by rw [← hW2]; exact (N1.start _ _ _).alloc _
    have n2 : N1 W2 (w1.heap.size + 1) 3 m := by rw [← hW2]; have := N1.start (w1.alloc (.cells #[.int .i64 s] 3)) 3 m; simpa using this
    have b2 : Below w1.heap.size w1 W2 := by rw [← hW2]; exact ((Below.refl _ _).alloc (Nat.le_refl _) _).alloc (by simp) _
    rw [hW2]
    refine (CG.out W2 _ _ _ n1 n2 (R1.out.next' b2)).mono ?_
    rintro e w3 ⟨rfl, g3⟩
    clear hW2 n1 n2
    go_wp2
    go_ret2
    have q := H0.out.1.trans (b1.mono H0.out.1.size)
    have q2 := q.trans (b2.mono q.size)
    exact ⟨rfl, q2.trans (g3.below.mono q2.size)⟩
  · have e1 : takenR h c k L = (0, 0, testE h c k L) := if_neg ht
    obtain rfl : R = (0, testE h c k L) := by rw [← hR]; exact if_neg ht
    rw [e1] at C1
    have K1 := Lib.hid C1
    have hne : (testE h c k L != 0) = true := by simpa using ht
    have hne2 : (testE h c k L == 0) = false := by simpa using ht
    clear C1 hp hW0 b0 r0 hR e1
    generalize testE h c k L = t at *
    generalize L.length = n at *
    go_enter Try.func18, Try.ntmps18
    go_wp2_with fail
    rw [HW.out]
    refine K1.out.mono ?_
    rintro e w1 ⟨rfl, b1⟩
    go_wp2
    go_ret2
    have q := H0.out.1.trans (b1.mono H0.out.1.size)
    exact ⟨rfl, (q.alloc q.size _).alloc (by have := q.size; simp; omega) _⟩
end Go.Proofs.Ytfjepkakimhbbaa
