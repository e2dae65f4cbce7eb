/-
  The walk of CbsOrder.
-/
import Derived.Test.YtbkdfbddcfglgaaRRRCg
import Derived.Deep.LoopGhost
namespace Go.Proofs.YtbkdfbddcfglgaaRRR
open Go.RowKit
set_option linter.unusedVariables false
set_option linter.unusedSimpArgs false

theorem Two3.alloc {w W : World} {T T' : TypeId} {a b c x y z : Int} (h : Two3 w W T T' a b c x y z) (o : Obj) : Two3 w (W.alloc o) T T' a b c x y z := h.next ((Below.refl _ _).alloc (Nat.le_refl _) _)

set_option maxHeartbeats 4000000 in
set_option maxRecDepth 20000 in
theorem corder_out (now q d t l e n : Int) (hO : allE now q d t l e n ≠ 0)  (cA : AwC6) (w : World) :
    Calls Try.prog 6 #[.int .i64 now, .agg #[.int .i64 q, .int .i64 d, .int .i64 t], .agg #[.int .i64 l, .int .i64 e, .int .i64 n]] w fun E w' => E = .returned (.bool true) ∧ Below w.heap.size w w' := by
  obtain ⟨W, hW⟩ : ∃ W, (w.alloc (.cells #[.int .i64 q, .int .i64 d, .int .i64 t] 23)).alloc (.cells #[.int .i64 l, .int .i64 e, .int .i64 n] 25) = W := ⟨_, rfl⟩
  have S0 := Lib.hid (hW ▸ Two3.start w 23 25 q d t l e n)
  have CP : ∀ q : LiesB W, Hid _ := fun q => Lib.hid (lies_call (fun W => plain_any l e n W) q)
  have CW : ∀ q : LiesB W, Hid _ := fun q' => Lib.hid (lies_call (fun W => rwrong_any now q d t l e n W) q')
  have h' : (allE now q d t l e n != 0) = true := by simpa using hO
  clear hO
  generalize allE now q d t l e n = x at *
  have f0 := fun q => (S0.out.lies q).1.1
  have f1 := fun q => (S0.out.lies q).1.2.1
  have f2 := fun q => (S0.out.lies q).1.2.2
  have f3 := fun q => (S0.out.lies q).2.1
  have f4 := fun q => (S0.out.lies q).2.2.1
  have f5 := fun q => (S0.out.lies q).2.2.2
  haveI hin : Inhabited (LiesB W) := ⟨⟨W, Below.refl _ _⟩⟩
  go_enter Try.func6, Try.ntmps6
  go_wp2_with fail
  refine region_lies mixedT (by kernel_rfl) ?_
  repeat (quiet_step (first | (go_at_call 9; (with_reducible exact (CP _).out)) | (go_at_call 10; (with_reducible exact (CW _).out))))
  refine wpQuiet_nil ?_
  rintro _ ⟨q2, rfl⟩
  go_wp2_with fail
  refine (Hid.out cA _).mono ?_
  rintro E w1 ⟨rfl, b1⟩
  go_wp2
  go_ret
  exact ⟨rfl, (((S0.out.next q2.h).next b1)).1⟩

set_option maxHeartbeats 4000000 in
set_option maxRecDepth 20000 in
theorem corder_far (now q d t l e n : Int) (hO : allE now q d t l e n = 0) (n0 : 0 ≤ now) (n1 : now < 1099511627776) (t0 : 1 ≤ t) (t1 : t ≤ 1073741824) (hT : timeE (now + t) ≠ 0) (cA : AwC6) (w : World) :
    Calls Try.prog 6 #[.int .i64 now, .agg #[.int .i64 q, .int .i64 d, .int .i64 t], .agg #[.int .i64 l, .int .i64 e, .int .i64 n]] w fun E w' => E = .returned (.bool true) ∧ Below w.heap.size w w' := by
  obtain ⟨W, hW⟩ : ∃ W, (w.alloc (.cells #[.int .i64 q, .int .i64 d, .int .i64 t] 23)).alloc (.cells #[.int .i64 l, .int .i64 e, .int .i64 n] 25) = W := ⟨_, rfl⟩
  have S0 := Lib.hid (hW ▸ Two3.start w 23 25 q d t l e n)
  have CP : ∀ q : LiesB W, Hid _ := fun q => Lib.hid (lies_call (fun W => plain_any l e n W) q)
  have CW : ∀ q : LiesB W, Hid _ := fun q' => Lib.hid (lies_call (fun W => rwrong_any now q d t l e n W) q')
  rw [hO] at CW
  clear hO

  have h' : (timeE (now + t) != 0) = true := by simpa using hT
  have CT : ∀ q : LiesB W, Hid _ := fun q' => Lib.hid (lies_call (fun W => (time4_any (now + t) W).mono fun _ w' ⟨he, hw⟩ => ⟨he, hw ▸ Below.refl _ _⟩) q')
  have wr : IntKind.i64.wrap (now + t) = now + t := IntWalk.i64_in _ (by omega)
  have f0 := fun q => (S0.out.lies q).1.1
  have f1 := fun q => (S0.out.lies q).1.2.1
  have f2 := fun q => (S0.out.lies q).1.2.2
  have f3 := fun q => (S0.out.lies q).2.1
  have f4 := fun q => (S0.out.lies q).2.2.1
  have f5 := fun q => (S0.out.lies q).2.2.2
  haveI hin : Inhabited (LiesB W) := ⟨⟨W, Below.refl _ _⟩⟩
  clear hT
  generalize timeE (now + t) = z at *
  go_enter Try.func6, Try.ntmps6
  go_wp2_with fail
  refine region_lies mixedT (by kernel_rfl) ?_
  repeat (quiet_step (first | (go_at_call 9; (with_reducible exact (CP _).out)) | (go_at_call 10; (with_reducible exact (CW _).out)) | (go_at_call 17; (with_reducible exact (CT _).out))))
  refine wpQuiet_nil ?_
  rintro _ ⟨q2, rfl⟩
  clear CT CP CW wr
  go_wp2_with fail
  refine (Hid.out cA _).mono ?_
  rintro E w1 ⟨rfl, b1⟩
  go_wp2
  go_ret
  exact ⟨rfl, (((S0.out.next q2.h).next b1)).1⟩

set_option maxHeartbeats 4000000 in
set_option maxRecDepth 20000 in
theorem corder_core (now q d t l e n : Int) (hO : allE now q d t l e n = 0) (n0 : 0 ≤ now) (n1 : now < 1099511627776) (t0 : 1 ≤ t) (t1 : t ≤ 1073741824) (OK : Hid (Ok6 now q d t l e n)) (q0 : 1 ≤ q) (q1 : q ≤ 1073741824) (l0 : -1073741824 ≤ l) (l1 : l ≤ 1073741824) (hT : timeE (now + t) = 0) (CM : Hid (∀ W, Calls Try.prog 16 #[.agg #[.int .i64 q, .int .i64 d, .int .i64 t]] W fun E w' => E = .returned (.bool true) ∧ Below W.heap.size W w')) (cA : AwC6) (w : World) :
    Calls Try.prog 6 #[.int .i64 now, .agg #[.int .i64 q, .int .i64 d, .int .i64 t], .agg #[.int .i64 l, .int .i64 e, .int .i64 n]] w fun E w' => E = .returned (.bool true) ∧ Below w.heap.size w w' := by
  obtain ⟨W, hW⟩ : ∃ W, (w.alloc (.cells #[.int .i64 q, .int .i64 d, .int .i64 t] 23)).alloc (.cells #[.int .i64 l, .int .i64 e, .int .i64 n] 25) = W := ⟨_, rfl⟩
  have S0 := Lib.hid (hW ▸ Two3.start w 23 25 q d t l e n)
  have CP : ∀ q : LiesB W, Hid _ := fun q => Lib.hid (lies_call (fun W => plain_any l e n W) q)
  have CW : ∀ q : LiesB W, Hid _ := fun q' => Lib.hid (lies_call (fun W => rwrong_any now q d t l e n W) q')
  rw [hO] at CW
  clear hO

  have CT : ∀ q : LiesB W, Hid _ := fun q' => Lib.hid (lies_call (fun W => (time4_any (now + t) W).mono fun _ w' ⟨he, hw⟩ => ⟨he, hw ▸ Below.refl _ _⟩) q')
  have wr : IntKind.i64.wrap (now + t) = now + t := IntWalk.i64_in _ (by omega)
  rw [hT] at CT
  clear hT
  have f0 := fun q => (S0.out.lies q).1.1
  have f1 := fun q => (S0.out.lies q).1.2.1
  have f2 := fun q => (S0.out.lies q).1.2.2
  have f3 := fun q => (S0.out.lies q).2.1
  have f4 := fun q => (S0.out.lies q).2.2.1
  have f5 := fun q => (S0.out.lies q).2.2.2
  haveI hin : Inhabited (LiesB W) := ⟨⟨W, Below.refl _ _⟩⟩
  go_enter Try.func6, Try.ntmps6
  go_wp2_with fail
  refine region_lies mixedT (by kernel_rfl) ?_
  repeat (quiet_step (first | (go_at_call 9; (with_reducible exact (CP _).out)) | (go_at_call 10; (with_reducible exact (CW _).out)) | (go_at_call 17; (with_reducible exact (CT _).out))))
  refine wpQuiet_nil ?_
  rintro _ ⟨q2, rfl⟩
  have S1 := Lib.hid (S0.out.next q2.h)
  clear f0 f1 f2 f3 f4 f5 CP CW CT wr
  clear S0 hW
  generalize q2.v = W1 at *
  go_wp2
  go_loopg [7] 2 (fun gk s wr => ∃ i : Nat, s = .int .i64 i ∧ i ≤ 2 ∧ 2 - i ≤ gk ∧ Hid (Two3 w wr 23 25 q d t l e n))
  case atStart => exact ⟨0, rfl, Nat.zero_le _, Nat.le_refl _, S1⟩
  case round =>
    rename World => W2
    obtain ⟨i, rfl, hin2, hgk, S3⟩ := hrel
    by_cases hi : i < 2
    · have hi' : decide ((i : Int) < 2) = true := decide_eq_true (by omega)
      obtain ⟨p0, p1, p2⟩ := S3.out.2.1.cells
      obtain ⟨r0, r1, r2⟩ := S3.out.2.2.cells
      have lt1 := S3.out.2.1.lt
      have lt2 := S3.out.2.2.lt
      by_cases hz : i = 0
      · subst hz
        have hz' : (((0 : Nat) : Int) == 0) = true := rfl
        by_cases hm : numE (l - 1) e n = 0
        · have okm : Ok6 now q d t (l - 1) e n := by
            obtain ⟨⟨a1, a2⟩, _⟩ := numE_may hm
            have k := OK.out
            exact ⟨k.q0, k.qd, k.dt, k.t1, k.n0, k.n1, a1, a2, k.e0, k.e1, k.x0, k.x1⟩
          have cc := fun W => rcheck_any (l - 1) e n W
          rw [hm] at cc
          have CC := Lib.hid cc
          have CPm := Lib.hid (fun W => plain_any (l - 1) e n W)
          have CL1 := Lib.hid (fun W => clag_ok q d t l e n OK.out.at0 W)
          have CL2 := Lib.hid (fun W => clag_ok q d t (l - 1) e n okm.at0 W)
          have CF1 := Lib.hid (fun W => fits_ok now q d t l e n OK.out W)
          have CF2 := Lib.hid (fun W => fits_ok now q d t (l - 1) e n okm W)
          have CR1 : Ans3 _ _ _ := refill_any now q d t l e n OK.out
          have CR2 : Ans3 _ _ _ := refill_any now q d t (l - 1) e n okm
          have gl : decide (lagN q t (l - 1) e < lagN q t l e) = false := decide_eq_false (by
            have := lagN_mono (q := q) (t := t) (l := l) (m := l - 1) (e := e) OK.out.q0 (by omega) OK.out.e0 (by omega)
            omega)
          have HF : Hid (fitsB now q d l e = true → fitsB now q d (l - 1) e = true) := fun hf => fits_order (by have := OK.out.q0; have := OK.out.qd; omega) (by omega) hf
          have HR : Hid (l ≤ 0 → (refillR now q d t l e n).2 = 0 → (refillR now q d t (l - 1) e n).2 = 0 → (refillR now q d t (l - 1) e n).1.2.1 < (refillR now q d t l e n).1.2.1 → (refillR now q d t l e n).1.2.2 = now + t) := fun a b c f => refill_order OK.out (by omega) a b c f
          clear cc hm okm
          unfold Ans3 at CR1 CR2
          generalize refillR now q d t l e n = x at *
          generalize refillR now q d t (l - 1) e n = y at *
          generalize lagN q t l e = a at *
          generalize lagN q t (l - 1) e = b at *
          generalize fitsB now q d l e = c at *
          generalize fitsB now q d (l - 1) e = c2 at *
          obtain ⟨⟨xl, xe, xn⟩, jx⟩ := x
          obtain ⟨⟨yl, ye, yn⟩, ky⟩ := y
          go_wp2_with fail
          refine (CPm.out _).mono ?_
          rintro E w1 ⟨rfl, b1⟩
          go_wp2_with fail
          refine (CC.out _).mono ?_
          rintro E w2 ⟨rfl, b2⟩
          have S4 := Lib.hid (((S3.out.alloc _).next b1).next b2)
          have M4 := Lib.hid (((B3.start W2 25 (l - 1) e n).next b1).next b2)
          clear p0 p1 p2 r0 r1 r2 lt1 lt2
          obtain ⟨p0, p1, p2⟩ := S4.out.2.1.cells
          obtain ⟨r0, r1, r2⟩ := S4.out.2.2.cells
          obtain ⟨o0, o1, o2⟩ := M4.out.cells
          go_wp2_with fail
          refine (CL1.out _).mono ?_
          rintro E w3 ⟨rfl, b3⟩
          have S5 := Lib.hid (S4.out.next b3)
          have M5 := Lib.hid (M4.out.next b3)
          clear p0 p1 p2 r0 r1 r2 o0 o1 o2
          obtain ⟨p0, p1, p2⟩ := S5.out.2.1.cells
          obtain ⟨o0, o1, o2⟩ := M5.out.cells
          go_wp2_with fail
          refine (CL2.out _).mono ?_
          rintro E w4 ⟨rfl, b4⟩
          have S6 := Lib.hid (S5.out.next b4)
          have M6 := Lib.hid (M5.out.next b4)
          clear p0 p1 p2 o0 o1 o2
          obtain ⟨p0, p1, p2⟩ := S6.out.2.1.cells
          obtain ⟨r0, r1, r2⟩ := S6.out.2.2.cells
          go_wp2_with fail
          refine (CF1.out _).mono ?_
          rintro E w5 ⟨rfl, b5⟩
          have S7 := Lib.hid (S6.out.next b5)
          have M7 := Lib.hid (M6.out.next b5)
          clear p0 p1 p2 r0 r1 r2
          obtain ⟨p0, p1, p2⟩ := S7.out.2.1.cells
          obtain ⟨o0, o1, o2⟩ := M7.out.cells
          go_wp2_with fail
          refine (CF2.out _).mono ?_
          rintro E w6 ⟨rfl, b6⟩
          have S8 := Lib.hid (S7.out.next b6)
          have M8 := Lib.hid (M7.out.next b6)
          clear p0 p1 p2 o0 o1 o2
          obtain ⟨p0, p1, p2⟩ := S8.out.2.1.cells
          obtain ⟨r0, r1, r2⟩ := S8.out.2.2.cells
          have hcc : c = false ∨ (c = true ∧ c2 = true) := by
            cases hc : c
            · exact .inl rfl
            · exact .inr ⟨rfl, HF.out hc⟩
          have hb : (jx == 0) = false ∨ ((jx == 0) = true ∧ ((ky == 0) = false ∨ ((ky == 0) = true ∧ (decide (l ≤ 0) = false ∨ (decide (l ≤ 0) = true ∧ (decide (ye < xe) = false ∨ (decide (ye < xe) = true ∧ (xn != now + t) = false))))))) := by
            by_cases h1 : jx = 0
            · refine .inr ⟨by simpa using h1, ?_⟩
              by_cases h2 : ky = 0
              · refine .inr ⟨by simpa using h2, ?_⟩
                by_cases h3 : l ≤ 0
                · refine .inr ⟨decide_eq_true h3, ?_⟩
                  by_cases h4 : ye < xe
                  · exact .inr ⟨decide_eq_true h4, by simpa using HR.out h3 h1 h2 h4⟩
                  · exact .inl (decide_eq_false h4)
                · exact .inl (decide_eq_false h3)
              · exact .inl (by simpa using h2)
            · exact .inl (by simpa using h1)
          have HB := Lib.hid hb
          clear hb HR HF
          rcases hcc with rfl | ⟨rfl, rfl⟩
          all_goals
            go_wp2_with fail
            refine (Hid.out CR1 _).mono ?_
            rintro E w7 ⟨rfl, b7⟩
            have S9 := Lib.hid ((S8.out.next b7).alloc (.cells #[.int .i64 xl, .int .i64 xe, .int .i64 xn] 25))
            have M9 := Lib.hid ((M8.out.next b7).alloc (.cells #[.int .i64 xl, .int .i64 xe, .int .i64 xn] 25))
            have X9 := Lib.hid (B3.start w7 25 xl xe xn)
            have lt3 := (S8.out.next b7).2.1.lt
            have lt4 := (M8.out.next b7).lt
            clear p0 p1 p2 r0 r1 r2
            obtain ⟨p0, p1, p2⟩ := (S8.out.next b7).2.1.cells
            obtain ⟨o0, o1, o2⟩ := (M8.out.next b7).cells
            go_wp2_with fail
            refine (Hid.out CR2 _).mono ?_
            rintro E w8 ⟨rfl, b8⟩
            have S10 := Lib.hid (S9.out.next b8)
            have X10 := Lib.hid (X9.out.next b8)
            clear p0 p1 p2 o0 o1 o2 lt3 lt4
            obtain ⟨p0, p1, p2⟩ := S10.out.2.1.cells
            obtain ⟨r0, r1, r2⟩ := S10.out.2.2.cells
            obtain ⟨o0, o1, o2⟩ := X10.out.cells
            have lt5 := S10.out.2.1.lt
            have lt6 := S10.out.2.2.lt
            have lt7 := X10.out.lt
            rcases HB.out with g | ⟨g, g2 | ⟨g2, g3 | ⟨g3, g4 | ⟨g4, g5⟩⟩⟩⟩
            all_goals
              go_wp2
              go_roundg (2 - (0 + 1))
              case measure => omega
              case rel => exact ⟨0 + 1, by go_num, by omega, Nat.le_refl _, (show Hid _ from S10.out.alloc _)⟩
        · have h' : (numE (l - 1) e n != 0) = true := by simpa using hm
          have CC := Lib.hid (fun W => rcheck_any (l - 1) e n W)
          have CPm := Lib.hid (fun W => plain_any (l - 1) e n W)
          clear hm
          generalize numE (l - 1) e n = z at *
          go_wp2_with fail
          refine (CPm.out _).mono ?_
          rintro E w1 ⟨rfl, b1⟩
          go_wp2_with fail
          refine (CC.out _).mono ?_
          rintro E w2 ⟨rfl, b2⟩
          have S4 := Lib.hid (((S3.out.alloc _).next b1).next b2)
          go_wp2
          go_roundg (2 - (0 + 1))
          case measure => omega
          case rel => exact ⟨0 + 1, by go_num, by omega, Nat.le_refl _, (show Hid _ from S4.out)⟩
      · obtain rfl : i = 1 := by omega
        have hz' : (((1 : Nat) : Int) == 0) = false := rfl
        by_cases hm : numE (l - q) e n = 0
        · have okm : Ok6 now q d t (l - q) e n := by
            obtain ⟨⟨a1, a2⟩, _⟩ := numE_may hm
            have k := OK.out
            exact ⟨k.q0, k.qd, k.dt, k.t1, k.n0, k.n1, a1, a2, k.e0, k.e1, k.x0, k.x1⟩
          have cc := fun W => rcheck_any (l - q) e n W
          rw [hm] at cc
          have CC := Lib.hid cc
          have CPm := Lib.hid (fun W => plain_any (l - q) e n W)
          have CL1 := Lib.hid (fun W => clag_ok q d t l e n OK.out.at0 W)
          have CL2 := Lib.hid (fun W => clag_ok q d t (l - q) e n okm.at0 W)
          have CF1 := Lib.hid (fun W => fits_ok now q d t l e n OK.out W)
          have CF2 := Lib.hid (fun W => fits_ok now q d t (l - q) e n okm W)
          have CR1 : Ans3 _ _ _ := refill_any now q d t l e n OK.out
          have CR2 : Ans3 _ _ _ := refill_any now q d t (l - q) e n okm
          have gl : decide (lagN q t (l - q) e < lagN q t l e) = false := decide_eq_false (by
            have := lagN_mono (q := q) (t := t) (l := l) (m := l - q) (e := e) OK.out.q0 (by omega) OK.out.e0 (by omega)
            omega)
          have HF : Hid (fitsB now q d l e = true → fitsB now q d (l - q) e = true) := fun hf => fits_order (by have := OK.out.q0; have := OK.out.qd; omega) (by omega) hf
          have HR : Hid (l ≤ 0 → (refillR now q d t l e n).2 = 0 → (refillR now q d t (l - q) e n).2 = 0 → (refillR now q d t (l - q) e n).1.2.1 < (refillR now q d t l e n).1.2.1 → (refillR now q d t l e n).1.2.2 = now + t) := fun a b c f => refill_order OK.out (by omega) a b c f
          clear cc hm okm
          unfold Ans3 at CR1 CR2
          generalize refillR now q d t l e n = x at *
          generalize refillR now q d t (l - q) e n = y at *
          generalize lagN q t l e = a at *
          generalize lagN q t (l - q) e = b at *
          generalize fitsB now q d l e = c at *
          generalize fitsB now q d (l - q) e = c2 at *
          obtain ⟨⟨xl, xe, xn⟩, jx⟩ := x
          obtain ⟨⟨yl, ye, yn⟩, ky⟩ := y
          go_wp2_with fail
          refine (CPm.out _).mono ?_
          rintro E w1 ⟨rfl, b1⟩
          go_wp2_with fail
          refine (CC.out _).mono ?_
          rintro E w2 ⟨rfl, b2⟩
          have S4 := Lib.hid (((S3.out.alloc _).next b1).next b2)
          have M4 := Lib.hid (((B3.start W2 25 (l - q) e n).next b1).next b2)
          clear p0 p1 p2 r0 r1 r2 lt1 lt2
          obtain ⟨p0, p1, p2⟩ := S4.out.2.1.cells
          obtain ⟨r0, r1, r2⟩ := S4.out.2.2.cells
          obtain ⟨o0, o1, o2⟩ := M4.out.cells
          go_wp2_with fail
          refine (CL1.out _).mono ?_
          rintro E w3 ⟨rfl, b3⟩
          have S5 := Lib.hid (S4.out.next b3)
          have M5 := Lib.hid (M4.out.next b3)
          clear p0 p1 p2 r0 r1 r2 o0 o1 o2
          obtain ⟨p0, p1, p2⟩ := S5.out.2.1.cells
          obtain ⟨o0, o1, o2⟩ := M5.out.cells
          go_wp2_with fail
          refine (CL2.out _).mono ?_
          rintro E w4 ⟨rfl, b4⟩
          have S6 := Lib.hid (S5.out.next b4)
          have M6 := Lib.hid (M5.out.next b4)
          clear p0 p1 p2 o0 o1 o2
          obtain ⟨p0, p1, p2⟩ := S6.out.2.1.cells
          obtain ⟨r0, r1, r2⟩ := S6.out.2.2.cells
          go_wp2_with fail
          refine (CF1.out _).mono ?_
          rintro E w5 ⟨rfl, b5⟩
          have S7 := Lib.hid (S6.out.next b5)
          have M7 := Lib.hid (M6.out.next b5)
          clear p0 p1 p2 r0 r1 r2
          obtain ⟨p0, p1, p2⟩ := S7.out.2.1.cells
          obtain ⟨o0, o1, o2⟩ := M7.out.cells
          go_wp2_with fail
          refine (CF2.out _).mono ?_
          rintro E w6 ⟨rfl, b6⟩
          have S8 := Lib.hid (S7.out.next b6)
          have M8 := Lib.hid (M7.out.next b6)
          clear p0 p1 p2 o0 o1 o2
          obtain ⟨p0, p1, p2⟩ := S8.out.2.1.cells
          obtain ⟨r0, r1, r2⟩ := S8.out.2.2.cells
          have hcc : c = false ∨ (c = true ∧ c2 = true) := by
            cases hc : c
            · exact .inl rfl
            · exact .inr ⟨rfl, HF.out hc⟩
          have hb : (jx == 0) = false ∨ ((jx == 0) = true ∧ ((ky == 0) = false ∨ ((ky == 0) = true ∧ (decide (l ≤ 0) = false ∨ (decide (l ≤ 0) = true ∧ (decide (ye < xe) = false ∨ (decide (ye < xe) = true ∧ (xn != now + t) = false))))))) := by
            by_cases h1 : jx = 0
            · refine .inr ⟨by simpa using h1, ?_⟩
              by_cases h2 : ky = 0
              · refine .inr ⟨by simpa using h2, ?_⟩
                by_cases h3 : l ≤ 0
                · refine .inr ⟨decide_eq_true h3, ?_⟩
                  by_cases h4 : ye < xe
                  · exact .inr ⟨decide_eq_true h4, by simpa using HR.out h3 h1 h2 h4⟩
                  · exact .inl (decide_eq_false h4)
                · exact .inl (decide_eq_false h3)
              · exact .inl (by simpa using h2)
            · exact .inl (by simpa using h1)
          have HB := Lib.hid hb
          clear hb HR HF
          rcases hcc with rfl | ⟨rfl, rfl⟩
          all_goals
            go_wp2_with fail
            refine (Hid.out CR1 _).mono ?_
            rintro E w7 ⟨rfl, b7⟩
            have S9 := Lib.hid ((S8.out.next b7).alloc (.cells #[.int .i64 xl, .int .i64 xe, .int .i64 xn] 25))
            have M9 := Lib.hid ((M8.out.next b7).alloc (.cells #[.int .i64 xl, .int .i64 xe, .int .i64 xn] 25))
            have X9 := Lib.hid (B3.start w7 25 xl xe xn)
            have lt3 := (S8.out.next b7).2.1.lt
            have lt4 := (M8.out.next b7).lt
            clear p0 p1 p2 r0 r1 r2
            obtain ⟨p0, p1, p2⟩ := (S8.out.next b7).2.1.cells
            obtain ⟨o0, o1, o2⟩ := (M8.out.next b7).cells
            go_wp2_with fail
            refine (Hid.out CR2 _).mono ?_
            rintro E w8 ⟨rfl, b8⟩
            have S10 := Lib.hid (S9.out.next b8)
            have X10 := Lib.hid (X9.out.next b8)
            clear p0 p1 p2 o0 o1 o2 lt3 lt4
            obtain ⟨p0, p1, p2⟩ := S10.out.2.1.cells
            obtain ⟨r0, r1, r2⟩ := S10.out.2.2.cells
            obtain ⟨o0, o1, o2⟩ := X10.out.cells
            have lt5 := S10.out.2.1.lt
            have lt6 := S10.out.2.2.lt
            have lt7 := X10.out.lt
            rcases HB.out with g | ⟨g, g2 | ⟨g2, g3 | ⟨g3, g4 | ⟨g4, g5⟩⟩⟩⟩
            all_goals
              go_wp2
              go_roundg (2 - (1 + 1))
              case measure => omega
              case rel => exact ⟨1 + 1, by go_num, by omega, Nat.le_refl _, (show Hid _ from S10.out.alloc _)⟩
        · have h' : (numE (l - q) e n != 0) = true := by simpa using hm
          have CC := Lib.hid (fun W => rcheck_any (l - q) e n W)
          have CPm := Lib.hid (fun W => plain_any (l - q) e n W)
          clear hm
          generalize numE (l - q) e n = z at *
          go_wp2_with fail
          refine (CPm.out _).mono ?_
          rintro E w1 ⟨rfl, b1⟩
          go_wp2_with fail
          refine (CC.out _).mono ?_
          rintro E w2 ⟨rfl, b2⟩
          have S4 := Lib.hid (((S3.out.alloc _).next b1).next b2)
          go_wp2
          go_roundg (2 - (1 + 1))
          case measure => omega
          case rel => exact ⟨1 + 1, by go_num, by omega, Nat.le_refl _, (show Hid _ from S4.out)⟩
    · obtain rfl : i = 2 := by omega
      have hi' : decide (((2 : Nat) : Int) < 2) = false := rfl
      obtain ⟨p0, p1, p2⟩ := S3.out.2.1.cells
      go_wp2_with fail
      refine (Hid.out CM _).mono ?_
      rintro E w4 ⟨rfl, b4⟩
      have S4 := Lib.hid (S3.out.next b4)
      go_wp2_with fail
      refine (Hid.out cA _).mono ?_
      rintro E w5 ⟨rfl, b5⟩
      go_wp2
      go_ret
      exact ⟨rfl, (S4.out.next b5).1⟩
end Go.Proofs.YtbkdfbddcfglgaaRRR
