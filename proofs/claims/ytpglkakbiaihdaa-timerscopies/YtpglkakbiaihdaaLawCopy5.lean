/-
  TimersCopies: its walk.
-/
import Derived.Test.YtpglkakbiaihdaaTx3
import Derived.Test.YtpglkakbiaihdaaTx3
import Derived.Test.YtpglkakbiaihdaaTx3
namespace Go.Proofs.Ytpglkakbiaihdaa
open Go.RowKit Go.Shelf Go.Maps
set_option linter.unusedVariables false
set_option linter.unusedSimpArgs false

set_option maxHeartbeats 2000000 in
set_option maxRecDepth 20000 in
theorem copies5_long (a : Option Addr) (n cap : Nat) (a2 : Option Addr) (n2 cap2 : Nat) (hn : 60 < n ∨ 60 < n2) (w : World) :
    Calls Try.prog 8 #[.slice a n cap, .slice a2 n2 cap2] w fun E w' => E = .returned (.bool true) ∧ Below w.heap.size w w' := by
  have CW : ∀ W, Hid (Calls Try.prog 37 #[] W fun E w' => E = .returned (.bool true) ∧ Below W.heap.size W w') := fun W => awake5 W
  have CF : ∀ W, Hid (Calls Try.prog 38 #[.slice a n cap] W fun e w' => e = .returned (.bool (decide (n ≤ 60))) ∧ w' = W) := fun W => few5_any a n cap W
  have CG : ∀ W, Hid (Calls Try.prog 38 #[.slice a2 n2 cap2] W fun e w' => e = .returned (.bool (decide (n2 ≤ 60))) ∧ w' = W) := fun W => few5_any a2 n2 cap2 W
  have C1 := Lib.hid (tnew_any 0 w (Nat.zero_le _) 20 (by decide) (by decide))
  by_cases h60 : 60 < n
  · have t4 : decide (n ≤ 60) = false := decide_eq_false (by omega)
    clear hn
    go_enter Try.func8, Try.ntmps8
    go_wp2_with fail
    refine C1.out.mono ?_
    rintro E w1 ⟨tb, q1, rfl, t1', g1, _, _⟩
    have T1 : Hid (Below w.heap.size w w1) := g1.below
    clear t1' g1 C1
    go_wp2_with fail
    refine (CF _).out.mono ?_
    rintro E w1' ⟨rfl, rfl⟩
    go_wp2_with fail
    refine (CW _).out.mono ?_
    rintro E w5 ⟨rfl, b5⟩
    go_wp2
    go_ret
    exact ⟨rfl, T1.out.trans (b5.mono T1.out.size)⟩
  · have t4 : decide (n ≤ 60) = true := decide_eq_true (by omega)
    have t5 : decide (n2 ≤ 60) = false := decide_eq_false (by omega)
    clear hn
    go_enter Try.func8, Try.ntmps8
    go_wp2_with fail
    refine C1.out.mono ?_
    rintro E w1 ⟨tb, q1, rfl, t1', g1, _, _⟩
    have T1 : Hid (Below w.heap.size w w1) := g1.below
    clear t1' g1 C1
    go_wp2_with fail
    refine (CF _).out.mono ?_
    rintro E w1' ⟨rfl, rfl⟩
    go_wp2_with fail
    refine (CG _).out.mono ?_
    rintro E w1'' ⟨rfl, rfl⟩
    go_wp2_with fail
    refine (CW _).out.mono ?_
    rintro E w5 ⟨rfl, b5⟩
    go_wp2
    go_ret
    exact ⟨rfl, T1.out.trans (b5.mono T1.out.size)⟩

set_option maxHeartbeats 4000000 in
set_option maxRecDepth 20000 in
theorem copies5_core (a : Option Addr) (n cap : Nat) (a2 : Option Addr) (n2 cap2 : Nat) (hn : n ≤ 60) (hn2 : n2 ≤ 60) (V V2 : Nat → Int × Int × Int) (w : World) (hv : Ops5At w a n V) (hv2 : Ops5At w a2 n2 V2) :
    Calls Try.prog 8 #[.slice a n cap, .slice a2 n2 cap2] w fun E w' => E = .returned (.bool true) ∧ Below w.heap.size w w' := by
  have CW : ∀ W, Hid (Calls Try.prog 37 #[] W fun E w' => E = .returned (.bool true) ∧ Below W.heap.size W w') := fun W => awake5 W
  have CF : ∀ W, Hid (Calls Try.prog 38 #[.slice a n cap] W fun e w' => e = .returned (.bool (decide (n ≤ 60))) ∧ w' = W) := fun W => few5_any a n cap W
  have CG : ∀ W, Hid (Calls Try.prog 38 #[.slice a2 n2 cap2] W fun e w' => e = .returned (.bool (decide (n2 ≤ 60))) ∧ w' = W) := fun W => few5_any a2 n2 cap2 W
  have C1 := Lib.hid (tnew_any 0 w (Nat.zero_le _) 20 (by decide) (by decide))
  have t4 : decide (n ≤ 60) = true := decide_eq_true hn
  have t5 : decide (n2 ≤ 60) = true := decide_eq_true hn2
  have HV : Hid (Ops5At w a n V ∧ Ops5At w a2 n2 V2) := ⟨hv, hv2⟩
  clear hv hv2
  go_enter Try.func8, Try.ntmps8
  go_wp2_with fail
  refine C1.out.mono ?_
  rintro E w1 ⟨tb, q1, rfl, t1', g1, o1, o2⟩
  have T1 : Hid ((Ts 0 w1 tb q1 20 0 0 [] ∧ Below w.heap.size w w1) ∧ w.heap.size ≤ tb ∧ ∀ k, q1.own k → w.heap.size ≤ k) := ⟨⟨t1', g1.below⟩, o1, o2⟩
  clear t1' g1 C1 o1 o2
  go_wp2_with fail
  refine (CF _).out.mono ?_
  rintro E w1' ⟨rfl, rfl⟩
  go_wp2_with fail
  refine (CG _).out.mono ?_
  rintro E w1'' ⟨rfl, rfl⟩
  have C2 := Lib.hid (rnew5 w.heap.size w1'' T1.out.1.2.size 20)
  go_wp2_with fail
  refine C2.out.mono ?_
  rintro E w2 ⟨rq, rh, rfl, r2, g2, hrh⟩
  have T2 : Hid (At5 w.heap.size w w2 tb 20 rq rh 0) := at5_new T1.out.1.1 T1.out.1.2 T1.out.2.1 T1.out.2.2 r2 g2.below
  have HRH := Lib.hid hrh
  clear r2 g2 T1 C2 hrh
  go_wp2_with fail
  go_loopg [8] n (fun gk s8 wr => ∃ i : Nat, s8 = .int .i64 i ∧ i ≤ n ∧ n - i ≤ gk ∧ Hid (At5 w.heap.size w wr tb 20 rq rh i))
  case atStart => exact ⟨0, rfl, Nat.zero_le _, Nat.le_refl _, T2⟩
  case round =>
    rename World => W2
    obtain ⟨i, rfl, hi, hgk, HR⟩ := hrel
    clear T2
    by_cases hlt : i < n
    · have d1 : decide ((i : Int) < (n : Int)) = true := decide_eq_true (by omega)
      have d2 : decide (i < n) = true := decide_eq_true hlt
      have d3 : (i : Int) < (n : Int) := by omega
      rcases HV.out.1.below HR.out.low with hz | ⟨g, o, rfl, hg, hc⟩
      · omega
      obtain ⟨⟨c0, c1, c2⟩, hx⟩ := hc i hlt
      have CD := Lib.hid (HR.out.does HRH.out (by omega) (V i).1 (V i).2.1 (V i).2.2 hx.2)
      clear hc hg hx HR
      generalize V i = v at *
      obtain ⟨v1, v2, v3⟩ := v
      simp only [] at c0 c1 c2 CD
      go_wp2_with fail
      refine CD.out.mono ?_
      rintro E w3 ⟨rfl, h3⟩
      have H3 := Lib.hid h3
      clear h3 CD c0 c1 c2
      go_wp2
      go_roundg (n - (i + 1))
      case measure => omega
      case rel => exact ⟨i + 1, by go_num, by omega, Nat.le_refl _, H3⟩
    · obtain rfl : i = n := by omega
      have d1 : decide ((i : Int) < (i : Int)) = false := decide_eq_false (by omega)
      have d2 : decide (i < i) = false := decide_eq_false (by omega)
      obtain ⟨q, nw, o, S, hp, hS, hlow, hnw⟩ := HR.out
      have P := Lib.hid hp
      have HS : Hid (S.length ≤ 60 ∧ Below w.heap.size w W2 ∧ timeE nw = 0) := ⟨by omega, hlow, hnw⟩
      have CC := Lib.hid (tcopy_any hp.ts (by omega) (Nat.zero_le _))
      clear hp hS hlow hnw HR hgk
      go_wp2_with fail
      refine CC.out.mono ?_
      rintro E w3 ⟨tc, r, rfl, h3, k3, _, tn⟩
      have B3 : Hid (Below W2.heap.size W2 w3) := k3.below (Nat.le_refl _) (fun _ x => x.elim)
      have T3 : Hid (Ts 0 w3 tc r 20 nw o S ∧ ∀ k, r.turns k ∨ k = tc → W2.heap.size ≤ k) := ⟨h3, fun k hk => tn k (hk.imp .inl (fun x => x))⟩
      have CR := Lib.hid (rcopy_any (P.out.lies B3.out).rf (by have := HS.out.1; omega))
      clear h3 k3 tn CC
      go_wp2_with fail
      refine CR.out.mono ?_
      rintro E w4 ⟨rq2, rh2, rfl, h4, k4, z4⟩
      have B4 : Hid (Below w3.heap.size w3 w4) := k4.below (Nat.le_refl _) (fun _ x => x.elim)
      have P4 : Hid (Pt W2.heap.size w4 tc r 20 nw o rq2 rh2 S ∧ W2.heap.size ≤ rh2 ∧ Below W2.heap.size W2 w4) :=
        ⟨⟨T3.out.1.lies B4.out, h4.lower B3.out.size, P.out.sorted, Nat.le_trans B3.out.size B4.out.size, T3.out.2⟩, Nat.le_trans B3.out.size z4, B3.out.trans (B4.out.mono B3.out.size)⟩
      have PX : Hid (Pt w.heap.size w4 tc r 20 nw o rq rh S) :=
        ⟨P4.out.1.ts, (P.out.lies P4.out.2.2).rf, P.out.sorted, Nat.le_trans P.out.base P4.out.2.2.size, fun k hk => Nat.le_trans P.out.base (T3.out.2 k hk)⟩
      have CS := Lib.hid (same5_any PX.out (by have := HS.out.1; omega))
      clear h4 k4 z4 CR
      go_wp2_with fail
      refine CS.out.mono ?_
      rintro E w5 ⟨rfl, k5⟩
      have A5 : Hid (At5 W2.heap.size W2 w5 tc 20 rq2 rh2 60) := by
        have b5 : Below w4.heap.size w4 w5 := k5.below (Nat.le_refl _) (fun _ x => x.elim)
        exact ⟨r, nw, o, S, P4.out.1.lies b5, HS.out.1, P4.out.2.2.trans (b5.mono P4.out.2.2.size), HS.out.2.2⟩
      have HRH2 : Hid (W2.heap.size ≤ rh2) := P4.out.2.1
      clear k5 CS PX P4 T3 B3 B4
      go_wp2_with fail
      go_loopg [11] n2 (fun gk s11 wr => ∃ i : Nat, s11 = .int .i64 i ∧ i ≤ n2 ∧ n2 - i ≤ gk ∧ Hid (At5 W2.heap.size W2 wr tc 20 rq2 rh2 (60 + i)))
      case atStart => exact ⟨0, rfl, Nat.zero_le _, Nat.le_refl _, A5⟩
      case round =>
        rename World => W6
        obtain ⟨j, rfl, hj, hgk2, HR⟩ := hrel
        clear A5
        have LOW : Hid (Below w.heap.size w W6) := HS.out.2.1.trans (HR.out.low.mono HS.out.2.1.size)
        by_cases hlt : j < n2
        · have e1 : decide ((j : Int) < (n2 : Int)) = true := decide_eq_true (by omega)
          have e2 : decide (j < n2) = true := decide_eq_true hlt
          have e3 : (j : Int) < (n2 : Int) := by omega
          rcases HV.out.2.below LOW.out with hz | ⟨g, o, rfl, hg, hc⟩
          · omega
          obtain ⟨⟨c0, c1, c2⟩, hx⟩ := hc j hlt
          have CD := Lib.hid (HR.out.does HRH2.out (by omega) (V2 j).1 (V2 j).2.1 (V2 j).2.2 hx.2)
          clear hc hg hx HR LOW
          generalize V2 j = v at *
          obtain ⟨v1, v2, v3⟩ := v
          simp only [] at c0 c1 c2 CD
          go_wp2_with fail
          refine CD.out.mono ?_
          rintro E w7 ⟨rfl, h7⟩
          have H7 := Lib.hid h7
          clear h7 CD c0 c1 c2
          go_wp2
          go_roundg (n2 - (j + 1))
          case measure => omega
          case rel => exact ⟨j + 1, by go_num, by omega, Nat.le_refl _, H7⟩
        · obtain rfl : j = n2 := by omega
          have e1 : decide ((j : Int) < (j : Int)) = false := decide_eq_false (by omega)
          have e2 : decide (j < j) = false := decide_eq_false (by omega)
          have CS1 := Lib.hid (same5_any (P.out.lies HR.out.low) (by have := HS.out.1; omega))
          go_wp2_with fail
          refine CS1.out.mono ?_
          rintro E w8 ⟨rfl, k8⟩
          have b8 : Hid (Below W6.heap.size W6 w8) := k8.below (Nat.le_refl _) (fun _ x => x.elim)
          have CS2 := Lib.hid ((HR.out.lies b8.out).same (by omega))
          clear k8 CS1
          go_wp2_with fail
          refine CS2.out.mono ?_
          rintro E w9 ⟨rfl, h9⟩
          have B9 : Hid (Below w.heap.size w w9) := HS.out.2.1.trans (h9.low.mono HS.out.2.1.size)
          clear h9 CS2
          go_wp2_with fail
          refine (CW _).out.mono ?_
          rintro E w10 ⟨rfl, b10⟩
          go_wp2
          go_ret
          exact ⟨rfl, B9.out.trans (b10.mono B9.out.size)⟩

theorem walk_TimersCopies (a : Option Addr) (n cap : Nat) (a2 : Option Addr) (n2 cap2 : Nat) (w : World) (h : ∃ V, Ops5At w a n V) (h2 : ∃ V, Ops5At w a2 n2 V) :
    Calls Try.prog 8 #[.slice a n cap, .slice a2 n2 cap2] w fun E w' => E = .returned (.bool true) ∧ Below w.heap.size w w' := by
  obtain ⟨V, hv⟩ := h
  obtain ⟨V2, hv2⟩ := h2
  by_cases hn : 60 < n ∨ 60 < n2
  · exact copies5_long a n cap a2 n2 cap2 hn w
  · exact copies5_core a n cap a2 n2 cap2 (by omega) (by omega) V V2 w hv hv2
end Go.Proofs.Ytpglkakbiaihdaa
