/-
  The walk of AdmitRooms.
-/
import Derived.Test.YtfjepkakimhbbaaLawA6
namespace Go.Proofs.Ytfjepkakimhbbaa
open Go.RowKit Go.Sort Go.Shelf Go.Maps
set_option linter.unusedVariables false
set_option linter.unusedSimpArgs false

theorem rooms_long (h : Bool) (c k : Int) (a : Option Addr) (n cap : Nat) (x y z : Int) (h2 : decide (70 < n) = true) (h2' : decide (70 < (n : Int)) = true) (cA : AwC9) (w : World) :
    Calls Try.prog 4 #[.agg #[.bool h, .int .i64 c, .int .i64 k], .slice a n cap, .agg #[.int .i64 x, .int .i64 y, .int .i64 z]] w fun E w' => E = .returned (.bool true) ∧ Below w.heap.size w w' := by
  have S0 := Lib.hid (Tp.start w h c k x y z)
  go_enter Try.func4, Try.ntmps4
  go_wp2_with fail
  refine (Hid.out cA _).mono ?_
  rintro e w1 ⟨rfl, b1⟩
  go_wp2
  go_ret
  exact ⟨rfl, (S0.out.next b1).below⟩

set_option maxHeartbeats 1000000 in
set_option maxRecDepth 20000 in
theorem rooms_t (h : Bool) (c k : Int) (a : Option Addr) (n cap : Nat) (L : List Pa) (x y z : Int) (hL : L.length = n) (hn : n ≤ 70) (hf : Fit (x, y, z)) (t : Int) (ht : testE h c k L = t) (hne : t ≠ 0) (cA : AwC9) (w : World) (hp : PAt w a L) :
    Calls Try.prog 4 #[.agg #[.bool h, .int .i64 c, .int .i64 k], .slice a n cap, .agg #[.int .i64 x, .int .i64 y, .int .i64 z]] w fun E w' => E = .returned (.bool true) ∧ Below w.heap.size w w' := by
  have h2 : decide (70 < n) = false := decide_eq_false (by omega)
  have h2' : decide (70 < (n : Int)) = false := decide_eq_false (by omega)
  have CM : Hid (∀ W, Below w.heap.size w W → Calls Try.prog 18 #[.agg #[.bool h, .int .i64 c, .int .i64 k], .slice a n cap] W fun e w' => e = .returned (.tuple #[.int .i64 0, .int .i64 t]) ∧ Below W.heap.size W w') := fun W hW => by
    have := room_any h c k a cap L (by omega) W (hp.next hW)
    rw [hL] at this
    rwa [show RoomR h c k L = (0, t) from by unfold RoomR; rw [ht, if_neg hne]] at this
  have CC : Hid (∀ W, Below w.heap.size w W → Calls Try.prog 19 #[.agg #[.bool h, .int .i64 c, .int .i64 k], .agg #[.int .i64 x, .int .i64 y, .int .i64 z], .slice a n cap] W fun e w' => e = .returned (.tuple #[.int .i64 0, .int .i64 t]) ∧ Below W.heap.size W w') := fun W hW => by
    have := copies_any h c k (x, y, z) hf a cap L (by omega) W (hp.next hW)
    rw [hL] at this
    rwa [show CopR h c k L (x, y, z) = (0, t) by unfold CopR; rw [ht, if_neg hne]] at this
  have CT : Hid (∀ W, Below w.heap.size w W → Calls Try.prog 15 #[.agg #[.bool h, .int .i64 c, .int .i64 k], .slice a n cap] W fun e w' => e = .returned (.int .i64 t) ∧ Below W.heap.size W w') := fun W hW => by
    have := ltest_any h c k a cap L (by omega) W (hp.next hW)
    rw [hL] at this
    rwa [ht] at this
  have d5 : (t != 0) = true := by simpa using hne
  have d6 : (t == 0) = false := by simpa using hne
  have S0 := Lib.hid (Tp.start w h c k x y z)
  obtain ⟨W0, hW0⟩ : ∃ W0, (w.alloc (.cells #[.bool h, .int .i64 c, .int .i64 k] 23)).alloc (.cells #[.int .i64 x, .int .i64 y, .int .i64 z] 40) = W0 := ⟨_, rfl⟩
  rw [hW0] at S0
  have HW := Lib.hid hW0
  clear hW0 hp hL ht hne hf
  go_enter Try.func4, Try.ntmps4
  go_wp2_with fail
  rw [HW.out]
  refine (CM.out _ S0.out.below).mono ?_
  rintro e w1 ⟨rfl, b1⟩
  have S1 := Lib.hid (S0.out.next b1)
  have p0 := S1.out.r.c0
  have p1 := S1.out.r.c1
  have p2 := S1.out.r.c2
  have t0 := S1.out.p.c0
  have t1 := S1.out.p.c1
  have t2 := S1.out.p.c2
  go_wp2_with fail
  refine (CC.out _ S1.out.below).mono ?_
  rintro e w2 ⟨rfl, b2⟩
  have S2 := Lib.hid (S1.out.next b2)
  clear p0 p1 p2 t0 t1 t2
  have p0 := S2.out.r.c0
  have p1 := S2.out.r.c1
  have p2 := S2.out.r.c2
  have t0 := S2.out.p.c0
  have t1 := S2.out.p.c1
  have t2 := S2.out.p.c2
  go_wp2_with fail
  refine (CT.out _ S2.out.below).mono ?_
  rintro e w3 ⟨rfl, b3⟩
  have S3 := Lib.hid (S2.out.next b3)
  clear p0 p1 p2 t0 t1 t2
  have p0 := S3.out.r.c0
  have p1 := S3.out.r.c1
  have p2 := S3.out.r.c2
  have t0 := S3.out.p.c0
  have t1 := S3.out.p.c1
  have t2 := S3.out.p.c2
  go_wp2_with fail
  refine (Hid.out cA _).mono ?_
  rintro e w20 ⟨rfl, b20⟩
  go_wp2
  go_ret
  exact ⟨rfl, (S3.out.next b20).below⟩

set_option maxHeartbeats 4000000 in
set_option maxRecDepth 20000 in
theorem rooms_ok_one (h : Bool) (c k : Int) (a : Option Addr) (n cap : Nat) (L : List Pa) (x y z : Int) (hL : L.length = n) (hn : n ≤ 70) (hnil : a = none → n = 0 ∧ cap = 0) (hf : Fit (x, y, z)) (hok : okB (x, y, z) = true) (ht : testE h c k L = 0) (hs : roomN h c k (sumU h L) (maxU h L) = 1048576) (cA : AwC9) (w : World) (hp : PAt w a L) :
    Calls Try.prog 4 #[.agg #[.bool h, .int .i64 c, .int .i64 k], .slice a n cap, .agg #[.int .i64 x, .int .i64 y, .int .i64 z]] w fun E w' => E = .returned (.bool true) ∧ Below w.heap.size w w' := by
  have h2 : decide (70 < n) = false := decide_eq_false (by omega)
  have h2' : decide (70 < (n : Int)) = false := decide_eq_false (by omega)
  have CM : Hid (∀ W, Below w.heap.size w W → Calls Try.prog 18 #[.agg #[.bool h, .int .i64 c, .int .i64 k], .slice a n cap] W fun e w' => e = .returned (.tuple #[.int .i64 (roomN h c k (sumU h L) (maxU h L)), .int .i64 0]) ∧ Below W.heap.size W w') := fun W hW => by
    have := room_any h c k a cap L (by omega) W (hp.next hW)
    rw [hL] at this
    rwa [show RoomR h c k L = (roomN h c k (sumU h L) (maxU h L), 0) from if_pos ht] at this
  have CC : Hid (∀ W, Below w.heap.size w W → Calls Try.prog 19 #[.agg #[.bool h, .int .i64 c, .int .i64 k], .agg #[.int .i64 x, .int .i64 y, .int .i64 z], .slice a n cap] W fun e w' => e = .returned (.tuple #[.int .i64 (copN h c k L (x, y, z)), .int .i64 0]) ∧ Below W.heap.size W w') := fun W hW => by
    have := copies_any h c k (x, y, z) hf a cap L (by omega) W (hp.next hW)
    rw [hL] at this
    rwa [show CopR h c k L (x, y, z) = (copN h c k L (x, y, z), 0) by unfold CopR; rw [if_pos ht, if_pos hok]] at this
  have CT : Hid (∀ W, Below w.heap.size w W → Calls Try.prog 15 #[.agg #[.bool h, .int .i64 c, .int .i64 k], .slice a n cap] W fun e w' => e = .returned (.int .i64 0) ∧ Below W.heap.size W w') := fun W hW => by
    have := ltest_any h c k a cap L (by omega) W (hp.next hW)
    rw [hL] at this
    rwa [ht] at this
  obtain ⟨hr, hA, hb⟩ := testE_ok ht
  obtain ⟨⟨r0, r1⟩, r2, r3⟩ := room_is (h := h) hr (sumU h L) (maxU h L)
  have f0 : fitN h c k (sumU h L) (maxU h L) (roomN h c k (sumU h L) (maxU h L)) = true := by
    rcases Int.lt_or_le (roomN h c k (sumU h L) (maxU h L)) 1 with e | e
    · have e0 : roomN h c k (sumU h L) (maxU h L) = 0 := by omega
      rw [e0]
      have := (uIn h hA).2.1
      refine decide_eq_true ?_
      rw [show max (maxU h L) 0 = maxU h L by omega]
      omega
    · exact r2 _ e (Int.le_refl _)
  have CF : Hid (∀ W, Below w.heap.size w W → Calls Try.prog 20 #[.agg #[.bool h, .int .i64 c, .int .i64 k], .slice a n cap, .int .i64 (roomN h c k (sumU h L) (maxU h L))] W fun e w' => e = .returned (.bool true) ∧ Below W.heap.size W w') := fun W hW => by
    have := fits_any h c k _ hr r0 r1 a cap L hA (by omega) W (hp.next hW)
    rw [hL] at this
    rwa [f0] at this
  have CR : Hid (∀ W, Calls Try.prog 21 #[.agg #[.int .i64 x, .int .i64 y, .int .i64 z]] W fun e w' => e = .returned (.bool true) ∧ Below W.heap.size W w') := fun W => by
    have := right_xyz x y z W
    rwa [hok] at this
  obtain ⟨cop, hcop⟩ : ∃ cop, copU 64 (sumU h L) (upA h (x, y, z)) (boundN h c k (max (maxU h L) (upA h (x, y, z)))) = cop := ⟨_, rfl⟩
  have hcn : copN h c k L (x, y, z) = (cop : Int) := by unfold copN; rw [hcop]
  rw [hcn] at CC
  obtain ⟨q1, q2, q3⟩ := copU_is 64 (s := sumU h L) (u := upA h (x, y, z)) (b := boundN h c k (max (maxU h L) (upA h (x, y, z)))) (by have := (ask_ok (h := h) hok).2; omega)
  rw [hcop] at q1 q2 q3
  have HQ := Lib.hid q1
  have CX : Hid (∀ W a2 cap2 (j : Nat), j < 64 → PAt W a2 (L ++ List.replicate (j + 1) (x, y, z)) → Calls Try.prog 15 #[.agg #[.bool h, .int .i64 c, .int .i64 k], .slice a2 (n + (j + 1)) cap2] W fun e w' => e = .returned (.int .i64 (if j < cop then 0 else 17)) ∧ Below W.heap.size W w') := fun W a2 cap2 j hj hW => by
    have := ltest_any h c k a2 cap2 (L ++ List.replicate (j + 1) (x, y, z)) (by simp; omega) W hW
    rw [test_rep ht hok, List.length_append, List.length_replicate, hL] at this
    by_cases hjc : j < cop
    · rw [if_pos (q2 j hjc)] at this
      rwa [if_pos hjc]
    · rw [if_neg (q3 j (by omega) hj)] at this
      rwa [if_neg hjc]
  have HP : Hid (PAt w a L ∧ L.length = n ∧ (a = none → n = 0 ∧ cap = 0) ∧ n ≤ 70 ∧ Fit (x, y, z)) := ⟨hp, hL, hnil, hn, hf⟩
  generalize roomN h c k (sumU h L) (maxU h L) = nn at *
  have d1 : decide (nn < 0) = false := decide_eq_false (by omega)
  have d2 : decide (1048576 < nn) = false := decide_eq_false (by omega)
  have d3 : decide (nn < 1048576) = false := decide_eq_false (by omega)
  have S0 := Lib.hid (Tp.start w h c k x y z)
  obtain ⟨W0, hW0⟩ : ∃ W0, (w.alloc (.cells #[.bool h, .int .i64 c, .int .i64 k] 23)).alloc (.cells #[.int .i64 x, .int .i64 y, .int .i64 z] 40) = W0 := ⟨_, rfl⟩
  rw [hW0] at S0
  have HW := Lib.hid hW0
  clear hW0 hp hL ht hf hn hnil hok r2 r3 f0 hA hb hr hs r0 r1 hcn q1 q2 q3 hcop
  go_enter Try.func4, Try.ntmps4
  go_wp2_with fail
  rw [HW.out]
  refine (CM.out _ S0.out.below).mono ?_
  rintro e w1 ⟨rfl, b1⟩
  have S1 := Lib.hid (S0.out.next b1)
  have p0 := S1.out.r.c0
  have p1 := S1.out.r.c1
  have p2 := S1.out.r.c2
  have t0 := S1.out.p.c0
  have t1 := S1.out.p.c1
  have t2 := S1.out.p.c2
  go_wp2_with fail
  refine (CC.out _ S1.out.below).mono ?_
  rintro e w2 ⟨rfl, b2⟩
  have S2 := Lib.hid (S1.out.next b2)
  clear p0 p1 p2 t0 t1 t2
  have p0 := S2.out.r.c0
  have p1 := S2.out.r.c1
  have p2 := S2.out.r.c2
  have t0 := S2.out.p.c0
  have t1 := S2.out.p.c1
  have t2 := S2.out.p.c2
  go_wp2_with fail
  refine (CT.out _ S2.out.below).mono ?_
  rintro e w3 ⟨rfl, b3⟩
  have S3 := Lib.hid (S2.out.next b3)
  clear p0 p1 p2 t0 t1 t2
  have p0 := S3.out.r.c0
  have p1 := S3.out.r.c1
  have p2 := S3.out.r.c2
  have t0 := S3.out.p.c0
  have t1 := S3.out.p.c1
  have t2 := S3.out.p.c2
  go_wp2_with fail
  refine (CF.out _ S3.out.below).mono ?_
  rintro e w4 ⟨rfl, b4⟩
  have S4 := Lib.hid (S3.out.next b4)
  clear p0 p1 p2 t0 t1 t2
  have p0 := S4.out.r.c0
  have p1 := S4.out.r.c1
  have p2 := S4.out.r.c2
  have t0 := S4.out.p.c0
  have t1 := S4.out.p.c1
  have t2 := S4.out.p.c2
  go_wp2_with fail
  refine (CR.out _).mono ?_
  rintro e w5 ⟨rfl, b5⟩
  have S5 := Lib.hid (S4.out.next b5)
  clear p0 p1 p2 t0 t1 t2
  have p0 := S5.out.r.c0
  have p1 := S5.out.r.c1
  have p2 := S5.out.r.c2
  have t0 := S5.out.p.c0
  have t1 := S5.out.p.c1
  have t2 := S5.out.p.c2
  go_wp2_with (at_builtin; refine append_p rfl _ _ rfl w5.heap.size _ [] L rfl (OwnP.nil _ _) a n cap rfl HP.out.2.1 (HP.out.1.next S5.out.below) HP.out.2.2.1 (by have := HP.out.2.2.2.1; simp; omega) (Nat.le_refl _) ?_)
  intro v10 w10 hown hgrow
  have b10 : Below w5.heap.size w5 w10 := (Below.refl _ _).grown hgrow (Nat.le_refl _) (fun k e => by cases e)
  have S10 := Lib.hid (S5.out.next b10)
  obtain ⟨B, hB⟩ : ∃ B, w5.heap.size = B := ⟨_, rfl⟩
  have HB : Hid (w.heap.size + 1 < B ∧ B ≤ w10.heap.size) := by rw [← hB]; exact ⟨S5.out.p.lt, b10.size⟩
  rw [hB] at hown
  have HO := Lib.hid hown
  clear hown hgrow b10 hB
  clear p0 p1 p2 t0 t1 t2
  go_wp2
  go_loopg [12, 13] 64 (fun gk s12 s13 wr => ∃ j : Nat, s12 = .int .i64 j ∧ j ≤ 64 ∧ 64 - j ≤ gk ∧ Hid (j ≤ cop ∧ Tp w wr h c k x y z ∧ OwnP B wr s13 (L ++ List.replicate j (x, y, z)) ∧ B ≤ wr.heap.size))
  case atStart => exact ⟨0, rfl, Nat.zero_le _, Nat.le_refl _, Nat.zero_le _, S10.out, by simpa using HO.out, HB.out.2⟩
  case round =>
    obtain ⟨j, rfl, hj, hgk, HR⟩ := hrel
    rename World => W1
    by_cases hlt : j < 64
    · have hj1 : decide ((j : Int) < 64) = true := decide_eq_true (by omega)
      have hj2 : decide (j < 64) = true := decide_eq_true hlt
      obtain ⟨aj, capj, ej, _, _⟩ := HR.out.2.2.1.form
      rw [List.length_append, List.length_replicate, HP.out.2.1] at ej
      subst ej
      have S12 := Lib.hid HR.out.2.1
      have HO12 := Lib.hid HR.out.2.2.1
      have HB12 := Lib.hid HR.out.2.2.2
      have CJ : Hid (∀ W a2 cap2, PAt W a2 (L ++ List.replicate (j + 1) (x, y, z)) → Calls Try.prog 15 #[.agg #[.bool h, .int .i64 c, .int .i64 k], .slice a2 (n + (j + 1)) cap2] W fun e w' => e = .returned (.int .i64 (if j < cop then 0 else 17)) ∧ Below W.heap.size W w') := fun W a2 cap2 hW => CX.out W a2 cap2 j hlt hW
      have HJ := Lib.hid HR.out.1
      clear HR
      have p0 := S12.out.r.c0
      have p1 := S12.out.r.c1
      have p2 := S12.out.r.c2
      have t0 := S12.out.p.c0
      have t1 := S12.out.p.c1
      have t2 := S12.out.p.c2
      have HLEN : Hid ((L ++ List.replicate j (x, y, z)).length + 1 ≤ 1000) := by
        show _ ≤ _
        rw [List.length_append, List.length_replicate, HP.out.2.1]
        have := HP.out.2.2.2.1
        omega
      go_wp2_with (at_builtin; refine append_p rfl _ _ rfl B _ (L ++ List.replicate j (x, y, z)) [(x, y, z)] rfl (HO12.out.kept ((Below.refl _ _).alloc (Nat.le_refl _) _)) (some ⟨W1.heap.size, 0, none⟩) 1 1 rfl rfl (built_one W1 (x, y, z) HP.out.2.2.2.2) (fun e => by cases e) HLEN.out (by have := HB12.out; simp; omega) ?_)
      intro v13 w13 hown hgrow
      rw [← List.replicate_succ'] at hown
      have b13 : Below B W1 w13 := ((Below.refl _ _).alloc HB12.out _).grown hgrow (by have := HB12.out; simp; omega) (fun k e => HO12.out.blk k e)
      have S13 := Lib.hid (S12.out.far b13 HB.out.1)
      obtain ⟨a13, cap13, e13, _, _⟩ := hown.form
      rw [List.length_append, List.length_replicate, HP.out.2.1] at e13
      subst e13
      have HO13 := Lib.hid hown
      have HB13 : Hid (B ≤ w13.heap.size) := Nat.le_trans HB12.out b13.size
      clear hown hgrow b13 HO12 S12 HB12
      clear p0 p1 p2 t0 t1 t2
      have p0 := S13.out.r.c0
      have p1 := S13.out.r.c1
      have p2 := S13.out.r.c2
      have t0 := S13.out.p.c0
      have t1 := S13.out.p.c1
      have t2 := S13.out.p.c2
      by_cases hjc : j < cop
      · rw [if_pos hjc] at CJ
        go_wp2_with fail
        refine (CJ.out _ _ _ HO13.out.at_.2).mono ?_
        rintro e w14 ⟨rfl, b14⟩
        have S14 := Lib.hid (S13.out.next b14)
        have HO14 := Lib.hid (HO13.out.kept b14)
        have HB14 : Hid (B ≤ w14.heap.size) := Nat.le_trans HB13.out b14.size
        have q5 : IntKind.i64.wrap ((j : Int) + 1) = (j : Int) + 1 := by rw [IntKind.wrap_i64]; omega
        clear p0 p1 p2 t0 t1 t2
        clear b14
        go_wp2
        go_roundg (64 - (j + 1))
        case measure => omega
        exact ⟨j + 1, by go_num, by omega, by omega, by omega, S14.out, HO14.out, HB14.out⟩
      · obtain rfl : j = cop := by have := HJ.out; omega
        rw [if_neg hjc] at CJ
        go_wp2_with fail
        refine (CJ.out _ _ _ HO13.out.at_.2).mono ?_
        rintro e w14 ⟨rfl, b14⟩
        have S14 := Lib.hid (S13.out.next b14)
        clear p0 p1 p2 t0 t1 t2
        clear b14
        go_wp2_with fail
        refine (Hid.out cA _).mono ?_
        rintro e w20 ⟨rfl, b20⟩
        go_wp2
        go_ret
        exact ⟨rfl, (S14.out.next b20).below⟩
    · obtain rfl : j = 64 := by omega
      obtain rfl : cop = 64 := by have := HR.out.1; have := HQ.out; omega
      have S12 := Lib.hid HR.out.2.1
      clear HR
      go_wp2_with fail
      refine (Hid.out cA _).mono ?_
      rintro e w20 ⟨rfl, b20⟩
      go_wp2
      go_ret
      exact ⟨rfl, (S12.out.next b20).below⟩

set_option maxHeartbeats 4000000 in
set_option maxRecDepth 20000 in
theorem rooms_ok_lt (h : Bool) (c k : Int) (a : Option Addr) (n cap : Nat) (L : List Pa) (x y z : Int) (hL : L.length = n) (hn : n ≤ 70) (hnil : a = none → n = 0 ∧ cap = 0) (hf : Fit (x, y, z)) (hok : okB (x, y, z) = true) (ht : testE h c k L = 0) (hs : roomN h c k (sumU h L) (maxU h L) < 1048576) (cA : AwC9) (w : World) (hp : PAt w a L) :
    Calls Try.prog 4 #[.agg #[.bool h, .int .i64 c, .int .i64 k], .slice a n cap, .agg #[.int .i64 x, .int .i64 y, .int .i64 z]] w fun E w' => E = .returned (.bool true) ∧ Below w.heap.size w w' := by
  have h2 : decide (70 < n) = false := decide_eq_false (by omega)
  have h2' : decide (70 < (n : Int)) = false := decide_eq_false (by omega)
  have CM : Hid (∀ W, Below w.heap.size w W → Calls Try.prog 18 #[.agg #[.bool h, .int .i64 c, .int .i64 k], .slice a n cap] W fun e w' => e = .returned (.tuple #[.int .i64 (roomN h c k (sumU h L) (maxU h L)), .int .i64 0]) ∧ Below W.heap.size W w') := fun W hW => by
    have := room_any h c k a cap L (by omega) W (hp.next hW)
    rw [hL] at this
    rwa [show RoomR h c k L = (roomN h c k (sumU h L) (maxU h L), 0) from if_pos ht] at this
  have CC : Hid (∀ W, Below w.heap.size w W → Calls Try.prog 19 #[.agg #[.bool h, .int .i64 c, .int .i64 k], .agg #[.int .i64 x, .int .i64 y, .int .i64 z], .slice a n cap] W fun e w' => e = .returned (.tuple #[.int .i64 (copN h c k L (x, y, z)), .int .i64 0]) ∧ Below W.heap.size W w') := fun W hW => by
    have := copies_any h c k (x, y, z) hf a cap L (by omega) W (hp.next hW)
    rw [hL] at this
    rwa [show CopR h c k L (x, y, z) = (copN h c k L (x, y, z), 0) by unfold CopR; rw [if_pos ht, if_pos hok]] at this
  have CT : Hid (∀ W, Below w.heap.size w W → Calls Try.prog 15 #[.agg #[.bool h, .int .i64 c, .int .i64 k], .slice a n cap] W fun e w' => e = .returned (.int .i64 0) ∧ Below W.heap.size W w') := fun W hW => by
    have := ltest_any h c k a cap L (by omega) W (hp.next hW)
    rw [hL] at this
    rwa [ht] at this
  obtain ⟨hr, hA, hb⟩ := testE_ok ht
  obtain ⟨⟨r0, r1⟩, r2, r3⟩ := room_is (h := h) hr (sumU h L) (maxU h L)
  have f0 : fitN h c k (sumU h L) (maxU h L) (roomN h c k (sumU h L) (maxU h L)) = true := by
    rcases Int.lt_or_le (roomN h c k (sumU h L) (maxU h L)) 1 with e | e
    · have e0 : roomN h c k (sumU h L) (maxU h L) = 0 := by omega
      rw [e0]
      have := (uIn h hA).2.1
      refine decide_eq_true ?_
      rw [show max (maxU h L) 0 = maxU h L by omega]
      omega
    · exact r2 _ e (Int.le_refl _)
  have CF : Hid (∀ W, Below w.heap.size w W → Calls Try.prog 20 #[.agg #[.bool h, .int .i64 c, .int .i64 k], .slice a n cap, .int .i64 (roomN h c k (sumU h L) (maxU h L))] W fun e w' => e = .returned (.bool true) ∧ Below W.heap.size W w') := fun W hW => by
    have := fits_any h c k _ hr r0 r1 a cap L hA (by omega) W (hp.next hW)
    rw [hL] at this
    rwa [f0] at this
  have f1 := r3 (roomN h c k (sumU h L) (maxU h L) + 1) (by omega) (by omega)
  have CF2 : Hid (∀ W, Below w.heap.size w W → Calls Try.prog 20 #[.agg #[.bool h, .int .i64 c, .int .i64 k], .slice a n cap, .int .i64 (roomN h c k (sumU h L) (maxU h L) + 1)] W fun e w' => e = .returned (.bool false) ∧ Below W.heap.size W w') := fun W hW => by
    have := fits_any h c k (roomN h c k (sumU h L) (maxU h L) + 1) hr (by omega) (by omega) a cap L hA (by omega) W (hp.next hW)
    rw [hL] at this
    rwa [f1] at this
  have CR : Hid (∀ W, Calls Try.prog 21 #[.agg #[.int .i64 x, .int .i64 y, .int .i64 z]] W fun e w' => e = .returned (.bool true) ∧ Below W.heap.size W w') := fun W => by
    have := right_xyz x y z W
    rwa [hok] at this
  obtain ⟨cop, hcop⟩ : ∃ cop, copU 64 (sumU h L) (upA h (x, y, z)) (boundN h c k (max (maxU h L) (upA h (x, y, z)))) = cop := ⟨_, rfl⟩
  have hcn : copN h c k L (x, y, z) = (cop : Int) := by unfold copN; rw [hcop]
  rw [hcn] at CC
  obtain ⟨q1, q2, q3⟩ := copU_is 64 (s := sumU h L) (u := upA h (x, y, z)) (b := boundN h c k (max (maxU h L) (upA h (x, y, z)))) (by have := (ask_ok (h := h) hok).2; omega)
  rw [hcop] at q1 q2 q3
  have HQ := Lib.hid q1
  have CX : Hid (∀ W a2 cap2 (j : Nat), j < 64 → PAt W a2 (L ++ List.replicate (j + 1) (x, y, z)) → Calls Try.prog 15 #[.agg #[.bool h, .int .i64 c, .int .i64 k], .slice a2 (n + (j + 1)) cap2] W fun e w' => e = .returned (.int .i64 (if j < cop then 0 else 17)) ∧ Below W.heap.size W w') := fun W a2 cap2 j hj hW => by
    have := ltest_any h c k a2 cap2 (L ++ List.replicate (j + 1) (x, y, z)) (by simp; omega) W hW
    rw [test_rep ht hok, List.length_append, List.length_replicate, hL] at this
    by_cases hjc : j < cop
    · rw [if_pos (q2 j hjc)] at this
      rwa [if_pos hjc]
    · rw [if_neg (q3 j (by omega) hj)] at this
      rwa [if_neg hjc]
  have HP : Hid (PAt w a L ∧ L.length = n ∧ (a = none → n = 0 ∧ cap = 0) ∧ n ≤ 70 ∧ Fit (x, y, z)) := ⟨hp, hL, hnil, hn, hf⟩
  generalize roomN h c k (sumU h L) (maxU h L) = nn at *
  have d1 : decide (nn < 0) = false := decide_eq_false (by omega)
  have d2 : decide (1048576 < nn) = false := decide_eq_false (by omega)
  have d3 : decide (nn < 1048576) = true := decide_eq_true hs
  have d4 : wrap64 (nn + 1) = nn + 1 := wrapA (by omega) (by omega)
  have S0 := Lib.hid (Tp.start w h c k x y z)
  obtain ⟨W0, hW0⟩ : ∃ W0, (w.alloc (.cells #[.bool h, .int .i64 c, .int .i64 k] 23)).alloc (.cells #[.int .i64 x, .int .i64 y, .int .i64 z] 40) = W0 := ⟨_, rfl⟩
  rw [hW0] at S0
  have HW := Lib.hid hW0
  clear hW0 hp hL ht hf hn hnil hok r2 r3 f0 hA hb hr hs r0 r1 f1 hcn q1 q2 q3 hcop
  go_enter Try.func4, Try.ntmps4
  go_wp2_with fail
  rw [HW.out]
  refine (CM.out _ S0.out.below).mono ?_
  rintro e w1 ⟨rfl, b1⟩
  have S1 := Lib.hid (S0.out.next b1)
  have p0 := S1.out.r.c0
  have p1 := S1.out.r.c1
  have p2 := S1.out.r.c2
  have t0 := S1.out.p.c0
  have t1 := S1.out.p.c1
  have t2 := S1.out.p.c2
  go_wp2_with fail
  refine (CC.out _ S1.out.below).mono ?_
  rintro e w2 ⟨rfl, b2⟩
  have S2 := Lib.hid (S1.out.next b2)
  clear p0 p1 p2 t0 t1 t2
  have p0 := S2.out.r.c0
  have p1 := S2.out.r.c1
  have p2 := S2.out.r.c2
  have t0 := S2.out.p.c0
  have t1 := S2.out.p.c1
  have t2 := S2.out.p.c2
  go_wp2_with fail
  refine (CT.out _ S2.out.below).mono ?_
  rintro e w3 ⟨rfl, b3⟩
  have S3 := Lib.hid (S2.out.next b3)
  clear p0 p1 p2 t0 t1 t2
  have p0 := S3.out.r.c0
  have p1 := S3.out.r.c1
  have p2 := S3.out.r.c2
  have t0 := S3.out.p.c0
  have t1 := S3.out.p.c1
  have t2 := S3.out.p.c2
  go_wp2_with fail
  refine (CF.out _ S3.out.below).mono ?_
  rintro e w4 ⟨rfl, b4⟩
  have S4 := Lib.hid (S3.out.next b4)
  clear p0 p1 p2 t0 t1 t2
  have p0 := S4.out.r.c0
  have p1 := S4.out.r.c1
  have p2 := S4.out.r.c2
  have t0 := S4.out.p.c0
  have t1 := S4.out.p.c1
  have t2 := S4.out.p.c2
  go_wp2_with fail
  refine (CF2.out _ S4.out.below).mono ?_
  rintro e w5 ⟨rfl, b5⟩
  have S5 := Lib.hid (S4.out.next b5)
  clear p0 p1 p2 t0 t1 t2
  have p0 := S5.out.r.c0
  have p1 := S5.out.r.c1
  have p2 := S5.out.r.c2
  have t0 := S5.out.p.c0
  have t1 := S5.out.p.c1
  have t2 := S5.out.p.c2
  go_wp2_with fail
  refine (CR.out _).mono ?_
  rintro e w6 ⟨rfl, b6⟩
  have S6 := Lib.hid (S5.out.next b6)
  clear p0 p1 p2 t0 t1 t2
  have p0 := S6.out.r.c0
  have p1 := S6.out.r.c1
  have p2 := S6.out.r.c2
  have t0 := S6.out.p.c0
  have t1 := S6.out.p.c1
  have t2 := S6.out.p.c2
  go_wp2_with (at_builtin; refine append_p rfl _ _ rfl w6.heap.size _ [] L rfl (OwnP.nil _ _) a n cap rfl HP.out.2.1 (HP.out.1.next S6.out.below) HP.out.2.2.1 (by have := HP.out.2.2.2.1; simp; omega) (Nat.le_refl _) ?_)
  intro v10 w10 hown hgrow
  have b10 : Below w6.heap.size w6 w10 := (Below.refl _ _).grown hgrow (Nat.le_refl _) (fun k e => by cases e)
  have S10 := Lib.hid (S6.out.next b10)
  obtain ⟨B, hB⟩ : ∃ B, w6.heap.size = B := ⟨_, rfl⟩
  have HB : Hid (w.heap.size + 1 < B ∧ B ≤ w10.heap.size) := by rw [← hB]; exact ⟨S6.out.p.lt, b10.size⟩
  rw [hB] at hown
  have HO := Lib.hid hown
  clear hown hgrow b10 hB
  clear p0 p1 p2 t0 t1 t2
  go_wp2
  go_loopg [12, 13] 64 (fun gk s12 s13 wr => ∃ j : Nat, s12 = .int .i64 j ∧ j ≤ 64 ∧ 64 - j ≤ gk ∧ Hid (j ≤ cop ∧ Tp w wr h c k x y z ∧ OwnP B wr s13 (L ++ List.replicate j (x, y, z)) ∧ B ≤ wr.heap.size))
  case atStart => exact ⟨0, rfl, Nat.zero_le _, Nat.le_refl _, Nat.zero_le _, S10.out, by simpa using HO.out, HB.out.2⟩
  case round =>
    obtain ⟨j, rfl, hj, hgk, HR⟩ := hrel
    rename World => W1
    by_cases hlt : j < 64
    · have hj1 : decide ((j : Int) < 64) = true := decide_eq_true (by omega)
      have hj2 : decide (j < 64) = true := decide_eq_true hlt
      obtain ⟨aj, capj, ej, _, _⟩ := HR.out.2.2.1.form
      rw [List.length_append, List.length_replicate, HP.out.2.1] at ej
      subst ej
      have S12 := Lib.hid HR.out.2.1
      have HO12 := Lib.hid HR.out.2.2.1
      have HB12 := Lib.hid HR.out.2.2.2
      have CJ : Hid (∀ W a2 cap2, PAt W a2 (L ++ List.replicate (j + 1) (x, y, z)) → Calls Try.prog 15 #[.agg #[.bool h, .int .i64 c, .int .i64 k], .slice a2 (n + (j + 1)) cap2] W fun e w' => e = .returned (.int .i64 (if j < cop then 0 else 17)) ∧ Below W.heap.size W w') := fun W a2 cap2 hW => CX.out W a2 cap2 j hlt hW
      have HJ := Lib.hid HR.out.1
      clear HR
      have p0 := S12.out.r.c0
      have p1 := S12.out.r.c1
      have p2 := S12.out.r.c2
      have t0 := S12.out.p.c0
      have t1 := S12.out.p.c1
      have t2 := S12.out.p.c2
      have HLEN : Hid ((L ++ List.replicate j (x, y, z)).length + 1 ≤ 1000) := by
        show _ ≤ _
        rw [List.length_append, List.length_replicate, HP.out.2.1]
        have := HP.out.2.2.2.1
        omega
      go_wp2_with (at_builtin; refine append_p rfl _ _ rfl B _ (L ++ List.replicate j (x, y, z)) [(x, y, z)] rfl (HO12.out.kept ((Below.refl _ _).alloc (Nat.le_refl _) _)) (some ⟨W1.heap.size, 0, none⟩) 1 1 rfl rfl (built_one W1 (x, y, z) HP.out.2.2.2.2) (fun e => by cases e) HLEN.out (by have := HB12.out; simp; omega) ?_)
      intro v13 w13 hown hgrow
      rw [← List.replicate_succ'] at hown
      have b13 : Below B W1 w13 := ((Below.refl _ _).alloc HB12.out _).grown hgrow (by have := HB12.out; simp; omega) (fun k e => HO12.out.blk k e)
      have S13 := Lib.hid (S12.out.far b13 HB.out.1)
      obtain ⟨a13, cap13, e13, _, _⟩ := hown.form
      rw [List.length_append, List.length_replicate, HP.out.2.1] at e13
      subst e13
      have HO13 := Lib.hid hown
      have HB13 : Hid (B ≤ w13.heap.size) := Nat.le_trans HB12.out b13.size
      clear hown hgrow b13 HO12 S12 HB12
      clear p0 p1 p2 t0 t1 t2
      have p0 := S13.out.r.c0
      have p1 := S13.out.r.c1
      have p2 := S13.out.r.c2
      have t0 := S13.out.p.c0
      have t1 := S13.out.p.c1
      have t2 := S13.out.p.c2
      by_cases hjc : j < cop
      · rw [if_pos hjc] at CJ
        go_wp2_with fail
        refine (CJ.out _ _ _ HO13.out.at_.2).mono ?_
        rintro e w14 ⟨rfl, b14⟩
        have S14 := Lib.hid (S13.out.next b14)
        have HO14 := Lib.hid (HO13.out.kept b14)
        have HB14 : Hid (B ≤ w14.heap.size) := Nat.le_trans HB13.out b14.size
        have q5 : IntKind.i64.wrap ((j : Int) + 1) = (j : Int) + 1 := by rw [IntKind.wrap_i64]; omega
        clear p0 p1 p2 t0 t1 t2
        clear b14
        go_wp2
        go_roundg (64 - (j + 1))
        case measure => omega
        exact ⟨j + 1, by go_num, by omega, by omega, by omega, S14.out, HO14.out, HB14.out⟩
      · obtain rfl : j = cop := by have := HJ.out; omega
        rw [if_neg hjc] at CJ
        go_wp2_with fail
        refine (CJ.out _ _ _ HO13.out.at_.2).mono ?_
        rintro e w14 ⟨rfl, b14⟩
        have S14 := Lib.hid (S13.out.next b14)
        clear p0 p1 p2 t0 t1 t2
        clear b14
        go_wp2_with fail
        refine (Hid.out cA _).mono ?_
        rintro e w20 ⟨rfl, b20⟩
        go_wp2
        go_ret
        exact ⟨rfl, (S14.out.next b20).below⟩
    · obtain rfl : j = 64 := by omega
      obtain rfl : cop = 64 := by have := HR.out.1; have := HQ.out; omega
      have S12 := Lib.hid HR.out.2.1
      clear HR
      go_wp2_with fail
      refine (Hid.out cA _).mono ?_
      rintro e w20 ⟨rfl, b20⟩
      go_wp2
      go_ret
      exact ⟨rfl, (S12.out.next b20).below⟩

set_option maxHeartbeats 4000000 in
set_option maxRecDepth 20000 in
theorem rooms_no_one (h : Bool) (c k : Int) (a : Option Addr) (n cap : Nat) (L : List Pa) (x y z : Int) (hL : L.length = n) (hn : n ≤ 70) (hnil : a = none → n = 0 ∧ cap = 0) (hf : Fit (x, y, z)) (hok : okB (x, y, z) = false) (ht : testE h c k L = 0) (hs : roomN h c k (sumU h L) (maxU h L) = 1048576) (cA : AwC9) (w : World) (hp : PAt w a L) :
    Calls Try.prog 4 #[.agg #[.bool h, .int .i64 c, .int .i64 k], .slice a n cap, .agg #[.int .i64 x, .int .i64 y, .int .i64 z]] w fun E w' => E = .returned (.bool true) ∧ Below w.heap.size w w' := by
  have h2 : decide (70 < n) = false := decide_eq_false (by omega)
  have h2' : decide (70 < (n : Int)) = false := decide_eq_false (by omega)
  have CM : Hid (∀ W, Below w.heap.size w W → Calls Try.prog 18 #[.agg #[.bool h, .int .i64 c, .int .i64 k], .slice a n cap] W fun e w' => e = .returned (.tuple #[.int .i64 (roomN h c k (sumU h L) (maxU h L)), .int .i64 0]) ∧ Below W.heap.size W w') := fun W hW => by
    have := room_any h c k a cap L (by omega) W (hp.next hW)
    rw [hL] at this
    rwa [show RoomR h c k L = (roomN h c k (sumU h L) (maxU h L), 0) from if_pos ht] at this
  have CC : Hid (∀ W, Below w.heap.size w W → Calls Try.prog 19 #[.agg #[.bool h, .int .i64 c, .int .i64 k], .agg #[.int .i64 x, .int .i64 y, .int .i64 z], .slice a n cap] W fun e w' => e = .returned (.tuple #[.int .i64 0, .int .i64 1]) ∧ Below W.heap.size W w') := fun W hW => by
    have := copies_any h c k (x, y, z) hf a cap L (by omega) W (hp.next hW)
    rw [hL] at this
    rwa [show CopR h c k L (x, y, z) = (0, 1) by unfold CopR; rw [if_pos ht, if_neg (by rw [hok]; simp)]] at this
  have CT : Hid (∀ W, Below w.heap.size w W → Calls Try.prog 15 #[.agg #[.bool h, .int .i64 c, .int .i64 k], .slice a n cap] W fun e w' => e = .returned (.int .i64 0) ∧ Below W.heap.size W w') := fun W hW => by
    have := ltest_any h c k a cap L (by omega) W (hp.next hW)
    rw [hL] at this
    rwa [ht] at this
  obtain ⟨hr, hA, hb⟩ := testE_ok ht
  obtain ⟨⟨r0, r1⟩, r2, r3⟩ := room_is (h := h) hr (sumU h L) (maxU h L)
  have f0 : fitN h c k (sumU h L) (maxU h L) (roomN h c k (sumU h L) (maxU h L)) = true := by
    rcases Int.lt_or_le (roomN h c k (sumU h L) (maxU h L)) 1 with e | e
    · have e0 : roomN h c k (sumU h L) (maxU h L) = 0 := by omega
      rw [e0]
      have := (uIn h hA).2.1
      refine decide_eq_true ?_
      rw [show max (maxU h L) 0 = maxU h L by omega]
      omega
    · exact r2 _ e (Int.le_refl _)
  have CF : Hid (∀ W, Below w.heap.size w W → Calls Try.prog 20 #[.agg #[.bool h, .int .i64 c, .int .i64 k], .slice a n cap, .int .i64 (roomN h c k (sumU h L) (maxU h L))] W fun e w' => e = .returned (.bool true) ∧ Below W.heap.size W w') := fun W hW => by
    have := fits_any h c k _ hr r0 r1 a cap L hA (by omega) W (hp.next hW)
    rw [hL] at this
    rwa [f0] at this
  have CR : Hid (∀ W, Calls Try.prog 21 #[.agg #[.int .i64 x, .int .i64 y, .int .i64 z]] W fun e w' => e = .returned (.bool false) ∧ Below W.heap.size W w') := fun W => by
    have := right_xyz x y z W
    rwa [hok] at this
  generalize roomN h c k (sumU h L) (maxU h L) = nn at *
  have d1 : decide (nn < 0) = false := decide_eq_false (by omega)
  have d2 : decide (1048576 < nn) = false := decide_eq_false (by omega)
  have d3 : decide (nn < 1048576) = false := decide_eq_false (by omega)
  have S0 := Lib.hid (Tp.start w h c k x y z)
  obtain ⟨W0, hW0⟩ : ∃ W0, (w.alloc (.cells #[.bool h, .int .i64 c, .int .i64 k] 23)).alloc (.cells #[.int .i64 x, .int .i64 y, .int .i64 z] 40) = W0 := ⟨_, rfl⟩
  rw [hW0] at S0
  have HW := Lib.hid hW0
  clear hW0 hp hL ht hf hn hnil hok r2 r3 f0 hA hb hr hs r0 r1
  go_enter Try.func4, Try.ntmps4
  go_wp2_with fail
  rw [HW.out]
  refine (CM.out _ S0.out.below).mono ?_
  rintro e w1 ⟨rfl, b1⟩
  have S1 := Lib.hid (S0.out.next b1)
  have p0 := S1.out.r.c0
  have p1 := S1.out.r.c1
  have p2 := S1.out.r.c2
  have t0 := S1.out.p.c0
  have t1 := S1.out.p.c1
  have t2 := S1.out.p.c2
  go_wp2_with fail
  refine (CC.out _ S1.out.below).mono ?_
  rintro e w2 ⟨rfl, b2⟩
  have S2 := Lib.hid (S1.out.next b2)
  clear p0 p1 p2 t0 t1 t2
  have p0 := S2.out.r.c0
  have p1 := S2.out.r.c1
  have p2 := S2.out.r.c2
  have t0 := S2.out.p.c0
  have t1 := S2.out.p.c1
  have t2 := S2.out.p.c2
  go_wp2_with fail
  refine (CT.out _ S2.out.below).mono ?_
  rintro e w3 ⟨rfl, b3⟩
  have S3 := Lib.hid (S2.out.next b3)
  clear p0 p1 p2 t0 t1 t2
  have p0 := S3.out.r.c0
  have p1 := S3.out.r.c1
  have p2 := S3.out.r.c2
  have t0 := S3.out.p.c0
  have t1 := S3.out.p.c1
  have t2 := S3.out.p.c2
  go_wp2_with fail
  refine (CF.out _ S3.out.below).mono ?_
  rintro e w4 ⟨rfl, b4⟩
  have S4 := Lib.hid (S3.out.next b4)
  clear p0 p1 p2 t0 t1 t2
  have p0 := S4.out.r.c0
  have p1 := S4.out.r.c1
  have p2 := S4.out.r.c2
  have t0 := S4.out.p.c0
  have t1 := S4.out.p.c1
  have t2 := S4.out.p.c2
  go_wp2_with fail
  refine (CR.out _).mono ?_
  rintro e w5 ⟨rfl, b5⟩
  have S5 := Lib.hid (S4.out.next b5)
  clear p0 p1 p2 t0 t1 t2
  have p0 := S5.out.r.c0
  have p1 := S5.out.r.c1
  have p2 := S5.out.r.c2
  have t0 := S5.out.p.c0
  have t1 := S5.out.p.c1
  have t2 := S5.out.p.c2
  go_wp2_with fail
  refine (Hid.out cA _).mono ?_
  rintro e w20 ⟨rfl, b20⟩
  go_wp2
  go_ret
  exact ⟨rfl, (S5.out.next b20).below⟩

set_option maxHeartbeats 4000000 in
set_option maxRecDepth 20000 in
theorem rooms_no_lt (h : Bool) (c k : Int) (a : Option Addr) (n cap : Nat) (L : List Pa) (x y z : Int) (hL : L.length = n) (hn : n ≤ 70) (hnil : a = none → n = 0 ∧ cap = 0) (hf : Fit (x, y, z)) (hok : okB (x, y, z) = false) (ht : testE h c k L = 0) (hs : roomN h c k (sumU h L) (maxU h L) < 1048576) (cA : AwC9) (w : World) (hp : PAt w a L) :
    Calls Try.prog 4 #[.agg #[.bool h, .int .i64 c, .int .i64 k], .slice a n cap, .agg #[.int .i64 x, .int .i64 y, .int .i64 z]] w fun E w' => E = .returned (.bool true) ∧ Below w.heap.size w w' := by
  have h2 : decide (70 < n) = false := decide_eq_false (by omega)
  have h2' : decide (70 < (n : Int)) = false := decide_eq_false (by omega)
  have CM : Hid (∀ W, Below w.heap.size w W → Calls Try.prog 18 #[.agg #[.bool h, .int .i64 c, .int .i64 k], .slice a n cap] W fun e w' => e = .returned (.tuple #[.int .i64 (roomN h c k (sumU h L) (maxU h L)), .int .i64 0]) ∧ Below W.heap.size W w') := fun W hW => by
    have := room_any h c k a cap L (by omega) W (hp.next hW)
    rw [hL] at this
    rwa [show RoomR h c k L = (roomN h c k (sumU h L) (maxU h L), 0) from if_pos ht] at this
  have CC : Hid (∀ W, Below w.heap.size w W → Calls Try.prog 19 #[.agg #[.bool h, .int .i64 c, .int .i64 k], .agg #[.int .i64 x, .int .i64 y, .int .i64 z], .slice a n cap] W fun e w' => e = .returned (.tuple #[.int .i64 0, .int .i64 1]) ∧ Below W.heap.size W w') := fun W hW => by
    have := copies_any h c k (x, y, z) hf a cap L (by omega) W (hp.next hW)
    rw [hL] at this
    rwa [show CopR h c k L (x, y, z) = (0, 1) by unfold CopR; rw [if_pos ht, if_neg (by rw [hok]; simp)]] at this
  have CT : Hid (∀ W, Below w.heap.size w W → Calls Try.prog 15 #[.agg #[.bool h, .int .i64 c, .int .i64 k], .slice a n cap] W fun e w' => e = .returned (.int .i64 0) ∧ Below W.heap.size W w') := fun W hW => by
    have := ltest_any h c k a cap L (by omega) W (hp.next hW)
    rw [hL] at this
    rwa [ht] at this
  obtain ⟨hr, hA, hb⟩ := testE_ok ht
  obtain ⟨⟨r0, r1⟩, r2, r3⟩ := room_is (h := h) hr (sumU h L) (maxU h L)
  have f0 : fitN h c k (sumU h L) (maxU h L) (roomN h c k (sumU h L) (maxU h L)) = true := by
    rcases Int.lt_or_le (roomN h c k (sumU h L) (maxU h L)) 1 with e | e
    · have e0 : roomN h c k (sumU h L) (maxU h L) = 0 := by omega
      rw [e0]
      have := (uIn h hA).2.1
      refine decide_eq_true ?_
      rw [show max (maxU h L) 0 = maxU h L by omega]
      omega
    · exact r2 _ e (Int.le_refl _)
  have CF : Hid (∀ W, Below w.heap.size w W → Calls Try.prog 20 #[.agg #[.bool h, .int .i64 c, .int .i64 k], .slice a n cap, .int .i64 (roomN h c k (sumU h L) (maxU h L))] W fun e w' => e = .returned (.bool true) ∧ Below W.heap.size W w') := fun W hW => by
    have := fits_any h c k _ hr r0 r1 a cap L hA (by omega) W (hp.next hW)
    rw [hL] at this
    rwa [f0] at this
  have f1 := r3 (roomN h c k (sumU h L) (maxU h L) + 1) (by omega) (by omega)
  have CF2 : Hid (∀ W, Below w.heap.size w W → Calls Try.prog 20 #[.agg #[.bool h, .int .i64 c, .int .i64 k], .slice a n cap, .int .i64 (roomN h c k (sumU h L) (maxU h L) + 1)] W fun e w' => e = .returned (.bool false) ∧ Below W.heap.size W w') := fun W hW => by
    have := fits_any h c k (roomN h c k (sumU h L) (maxU h L) + 1) hr (by omega) (by omega) a cap L hA (by omega) W (hp.next hW)
    rw [hL] at this
    rwa [f1] at this
  have CR : Hid (∀ W, Calls Try.prog 21 #[.agg #[.int .i64 x, .int .i64 y, .int .i64 z]] W fun e w' => e = .returned (.bool false) ∧ Below W.heap.size W w') := fun W => by
    have := right_xyz x y z W
    rwa [hok] at this
  generalize roomN h c k (sumU h L) (maxU h L) = nn at *
  have d1 : decide (nn < 0) = false := decide_eq_false (by omega)
  have d2 : decide (1048576 < nn) = false := decide_eq_false (by omega)
  have d3 : decide (nn < 1048576) = true := decide_eq_true hs
  have d4 : wrap64 (nn + 1) = nn + 1 := wrapA (by omega) (by omega)
  have S0 := Lib.hid (Tp.start w h c k x y z)
  obtain ⟨W0, hW0⟩ : ∃ W0, (w.alloc (.cells #[.bool h, .int .i64 c, .int .i64 k] 23)).alloc (.cells #[.int .i64 x, .int .i64 y, .int .i64 z] 40) = W0 := ⟨_, rfl⟩
  rw [hW0] at S0
  have HW := Lib.hid hW0
  clear hW0 hp hL ht hf hn hnil hok r2 r3 f0 hA hb hr hs r0 r1 f1
  go_enter Try.func4, Try.ntmps4
  go_wp2_with fail
  rw [HW.out]
  refine (CM.out _ S0.out.below).mono ?_
  rintro e w1 ⟨rfl, b1⟩
  have S1 := Lib.hid (S0.out.next b1)
  have p0 := S1.out.r.c0
  have p1 := S1.out.r.c1
  have p2 := S1.out.r.c2
  have t0 := S1.out.p.c0
  have t1 := S1.out.p.c1
  have t2 := S1.out.p.c2
  go_wp2_with fail
  refine (CC.out _ S1.out.below).mono ?_
  rintro e w2 ⟨rfl, b2⟩
  have S2 := Lib.hid (S1.out.next b2)
  clear p0 p1 p2 t0 t1 t2
  have p0 := S2.out.r.c0
  have p1 := S2.out.r.c1
  have p2 := S2.out.r.c2
  have t0 := S2.out.p.c0
  have t1 := S2.out.p.c1
  have t2 := S2.out.p.c2
  go_wp2_with fail
  refine (CT.out _ S2.out.below).mono ?_
  rintro e w3 ⟨rfl, b3⟩
  have S3 := Lib.hid (S2.out.next b3)
  clear p0 p1 p2 t0 t1 t2
  have p0 := S3.out.r.c0
  have p1 := S3.out.r.c1
  have p2 := S3.out.r.c2
  have t0 := S3.out.p.c0
  have t1 := S3.out.p.c1
  have t2 := S3.out.p.c2
  go_wp2_with fail
  refine (CF.out _ S3.out.below).mono ?_
  rintro e w4 ⟨rfl, b4⟩
  have S4 := Lib.hid (S3.out.next b4)
  clear p0 p1 p2 t0 t1 t2
  have p0 := S4.out.r.c0
  have p1 := S4.out.r.c1
  have p2 := S4.out.r.c2
  have t0 := S4.out.p.c0
  have t1 := S4.out.p.c1
  have t2 := S4.out.p.c2
  go_wp2_with fail
  refine (CF2.out _ S4.out.below).mono ?_
  rintro e w5 ⟨rfl, b5⟩
  have S5 := Lib.hid (S4.out.next b5)
  clear p0 p1 p2 t0 t1 t2
  have p0 := S5.out.r.c0
  have p1 := S5.out.r.c1
  have p2 := S5.out.r.c2
  have t0 := S5.out.p.c0
  have t1 := S5.out.p.c1
  have t2 := S5.out.p.c2
  go_wp2_with fail
  refine (CR.out _).mono ?_
  rintro e w6 ⟨rfl, b6⟩
  have S6 := Lib.hid (S5.out.next b6)
  clear p0 p1 p2 t0 t1 t2
  have p0 := S6.out.r.c0
  have p1 := S6.out.r.c1
  have p2 := S6.out.r.c2
  have t0 := S6.out.p.c0
  have t1 := S6.out.p.c1
  have t2 := S6.out.p.c2
  go_wp2_with fail
  refine (Hid.out cA _).mono ?_
  rintro e w20 ⟨rfl, b20⟩
  go_wp2
  go_ret
  exact ⟨rfl, (S6.out.next b20).below⟩

theorem walk_AdmitRooms (h : Bool) (c k : Int) (a : Option Addr) (len cap : Nat) (x y z : Int) (w : World) (hc : -9223372036854775808 ≤ c ∧ c ≤ 9223372036854775807) (hk : -9223372036854775808 ≤ k ∧ k ≤ 9223372036854775807) (hL : ∃ L, ParIn w a len cap L) (hx : -9223372036854775808 ≤ x ∧ x ≤ 9223372036854775807) (hy : -9223372036854775808 ≤ y ∧ y ≤ 9223372036854775807) (hz : -9223372036854775808 ≤ z ∧ z ≤ 9223372036854775807) :
    Calls Try.prog 4 #[.agg #[.bool h, .int .i64 c, .int .i64 k], .slice a len cap, .agg #[.int .i64 x, .int .i64 y, .int .i64 z]] w fun E w' => E = .returned (.bool true) ∧ Below w.heap.size w w' := by
  obtain ⟨L, hP⟩ := hL
  by_cases h2 : 70 < len
  · exact rooms_long h c k a len cap x y z (decide_eq_true h2) (decide_eq_true (by omega)) awC9 w
  by_cases ht : testE h c k L = 0
  · have hr := (room_is (h := h) (testE_ok ht).1 (sumU h L) (maxU h L)).1
    by_cases hs : roomN h c k (sumU h L) (maxU h L) < 1048576
    · cases ho : okB (x, y, z) with
      | true => exact rooms_ok_lt h c k a len cap L x y z hP.len_ (by omega) hP.nil ⟨hx, hy, hz⟩ ho ht hs awC9 w hP.at_
      | false => exact rooms_no_lt h c k a len cap L x y z hP.len_ (by omega) hP.nil ⟨hx, hy, hz⟩ ho ht hs awC9 w hP.at_
    · cases ho : okB (x, y, z) with
      | true => exact rooms_ok_one h c k a len cap L x y z hP.len_ (by omega) hP.nil ⟨hx, hy, hz⟩ ho ht (by omega) awC9 w hP.at_
      | false => exact rooms_no_one h c k a len cap L x y z hP.len_ (by omega) hP.nil ⟨hx, hy, hz⟩ ho ht (by omega) awC9 w hP.at_
  · exact rooms_t h c k a len cap L x y z hP.len_ (by omega) ⟨hx, hy, hz⟩ _ rfl ht awC9 w hP.at_
end Go.Proofs.Ytfjepkakimhbbaa
