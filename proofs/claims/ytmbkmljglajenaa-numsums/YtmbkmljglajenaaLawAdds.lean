/-
  same, and the walk of NumAdds.
-/
import Derived.Test.YtmbkmljglajenaaLawDivs
namespace Go.Proofs.Ytmbkmljglajenaa
open Go.RowKit
set_option linter.unusedVariables false

theorem wide_small {h l : Nat} (hh : h < 18446744073709551616) (hl : l < 18446744073709551616) : h * 18446744073709551616 + l < 340282366920938463463374607431768211456 := by omega

set_option maxHeartbeats 1000000 in
/-- same: the wide number is that of the digits. -/
theorem same_yes (h l g : Nat) (hh : h < 18446744073709551616) (hl : l < 18446744073709551616) (w : World) (hn : NumD w g (h * 18446744073709551616 + l)) :
    Calls Try.prog 24 #[.agg #[.int .u64 (h : Int), .int .u64 (l : Int)], .slice (some ⟨g, 0, none⟩) 12 12] w fun e w' => e = .returned (.bool true) ∧ Below w.heap.size w w' := by
  have cO := Lib.hid (fun W => of_any h l hh hl W)
  have Hn := Lib.hid (hn.next ((Below.refl _ _).alloc (Nat.le_refl _) (.cells #[.int .u64 (h : Int), .int .u64 (l : Int)] 39)))
  clear hn hh hl
  generalize h * 18446744073709551616 + l = A at *
  have hd : decide (A < A) = false := by simp
  go_enter Try.func24, Try.ntmps24
  go_wp2_with fail
  refine (cO.out _).mono ?_
  rintro E w1 ⟨g1, rfl, n1, b1⟩
  have B1 := Lib.hid b1
  have N1 := Lib.hid n1
  have M1 := Lib.hid (Hn.out.next b1)
  clear b1 n1 Hn
  have u1 := fun W (hx : NumD W g1 A) (hy : NumD W g A) => under_any g1 g 12 12 A A W hx hy
  have u2 := fun W (hx : NumD W g A) (hy : NumD W g1 A) => under_any g g1 12 12 A A W hx hy
  rw [hd] at u1 u2
  have U1 := Lib.hid u1
  have U2 := Lib.hid u2
  clear u1 u2 hd
  go_wp2_with fail
  refine (U1.out _ N1.out M1.out).mono ?_
  rintro E w' ⟨rfl, d1, rfl⟩
  go_wp2_with fail
  refine (U2.out _ (M1.out.drewN d1) (N1.out.drewN d1)).mono ?_
  rintro E w' ⟨rfl, d2, rfl⟩
  go_wp2
  go_ret
  refine ⟨rfl, ?_⟩
  have q := below_alloc B1.out
  first | exact below_drewN (below_drewN q d1) d2 | exact below_drewN q _

/-- What the law's own two wide numbers hold, while callees make blocks behind them. -/
def Wid2 (w W : World) (ah al bh bl : Int) : Prop :=
  w.heap.size + 1 < W.heap.size ∧ Below w.heap.size w W ∧
  (W.cell? ⟨w.heap.size, 0, none⟩ = some (.int .u64 ah) ∧ W.cell? ⟨w.heap.size, 1, none⟩ = some (.int .u64 al)) ∧
  (W.cell? ⟨w.heap.size + 1, 0, none⟩ = some (.int .u64 bh) ∧ W.cell? ⟨w.heap.size + 1, 1, none⟩ = some (.int .u64 bl))
theorem Wid2.next {w W W' : World} {ah al bh bl : Int} (h : Wid2 w W ah al bh bl) (hb : Below W.heap.size W W') : Wid2 w W' ah al bh bl := by
  obtain ⟨hz, hB, ⟨q0, q1⟩, ⟨r0, r1⟩⟩ := h
  have hk : ∀ g o, g < w.heap.size + 2 → W'.cell? ⟨g, o, none⟩ = W.cell? ⟨g, o, none⟩ := fun g o hg => hb.cell (p := ⟨g, o, none⟩) (by show g < W.heap.size; omega)
  have hs := hb.size
  exact ⟨by omega, hB.trans (hb.mono hB.size), ⟨(hk _ _ (by omega)).trans q0, (hk _ _ (by omega)).trans q1⟩, ⟨(hk _ _ (by omega)).trans r0, (hk _ _ (by omega)).trans r1⟩⟩
theorem Wid2.alloc {w W : World} {ah al bh bl : Int} (h : Wid2 w W ah al bh bl) (o : Obj) : Wid2 w (W.alloc o) ah al bh bl := h.next ((Below.refl _ _).alloc (Nat.le_refl _) o)
theorem Wid2.start (w : World) (ah al bh bl : Int) (t1 t2 : TypeId) :
    Wid2 w ((w.alloc (.cells #[.int .u64 ah, .int .u64 al] t1)).alloc (.cells #[.int .u64 bh, .int .u64 bl] t2)) ah al bh bl :=
  ⟨by simp, Joins.below_alloc2 _ _ _, ⟨by simp [go_sem], by simp [go_sem]⟩, ⟨by simp [go_sem], by simp [go_sem]⟩⟩
/-- A block of two cells. -/
def Two (W : World) (g : Nat) (x y : Int) : Prop := g < W.heap.size ∧ W.cell? ⟨g, 0, none⟩ = some (.int .u64 x) ∧ W.cell? ⟨g, 1, none⟩ = some (.int .u64 y)
theorem Two.next {W W' : World} {g : Nat} {x y : Int} (h : Two W g x y) (hb : Below W.heap.size W W') : Two W' g x y :=
  ⟨Nat.lt_of_lt_of_le h.1 hb.size, (hb.cell (p := ⟨g, 0, none⟩) h.1).trans h.2.1, (hb.cell (p := ⟨g, 1, none⟩) h.1).trans h.2.2⟩
theorem Two.new (W : World) (x y : Int) (t : TypeId) : Two (W.alloc (.cells #[.int .u64 x, .int .u64 y] t)) W.heap.size x y := ⟨by simp, by simp [go_sem], by simp [go_sem]⟩

set_option maxRecDepth 20000 in
set_option maxHeartbeats 2000000 in
theorem adds_ok (ah al bh bl ch cl A B : Nat) (lt : Bool) (hs : Hid (A + B < 65536 ^ 12)) (f1 : Hid (decide (A < B) = lt)) (f2 : Hid (decide (A + B < 65536 ^ 8) = true))
    (cA : Hid (∀ W, Calls Try.prog 25 #[.agg #[.int .u64 (ah : Int), .int .u64 (al : Int)], .agg #[.int .u64 (bh : Int), .int .u64 (bl : Int)]] W fun E w' => E = .returned (.tuple #[.agg #[.int .u64 (ch : Int), .int .u64 (cl : Int)], .int .i64 0]) ∧ Below W.heap.size W w'))
    (cL : Hid (∀ W, Calls Try.prog 26 #[.agg #[.int .u64 (ah : Int), .int .u64 (al : Int)], .agg #[.int .u64 (bh : Int), .int .u64 (bl : Int)]] W fun E w' => E = .returned (.bool lt) ∧ Below W.heap.size W w'))
    (cO : Hid (∀ W, Calls Try.prog 13 #[.int .u64 (ah : Int), .int .u64 (al : Int)] W (Makes W A)))
    (cP : Hid (∀ W, Calls Try.prog 13 #[.int .u64 (bh : Int), .int .u64 (bl : Int)] W (Makes W B)))
    (cS : Hid (∀ W g, NumD W g (A + B) → Calls Try.prog 24 #[.agg #[.int .u64 (ch : Int), .int .u64 (cl : Int)], .slice (some ⟨g, 0, none⟩) 12 12] W fun E w' => E = .returned (.bool true) ∧ Below W.heap.size W w'))
    (cW : Hid (∀ W, Calls Try.prog 11 #[] W fun E w' => E = .returned (.bool true) ∧ Below W.heap.size W w')) (w : World) :
    Calls Try.prog 5 #[.agg #[.int .u64 (ah : Int), .int .u64 (al : Int)], .agg #[.int .u64 (bh : Int), .int .u64 (bl : Int)]] w fun E w' => E = .returned (.bool true) ∧ Below w.heap.size w w' := by
  go_enter Try.func5, Try.ntmps5
  go_wp2_with fail
  refine (cA.out _).mono ?_
  rintro E w1 ⟨rfl, b1⟩
  have H1 := Lib.hid ((Wid2.start w ah al bh bl 39 39).next b1)
  obtain ⟨q0, q1⟩ : (∀ o, (w1.alloc o).cell? ⟨w.heap.size, 0, none⟩ = some (.int .u64 (ah : Int))) ∧ (∀ o, (w1.alloc o).cell? ⟨w.heap.size, 1, none⟩ = some (.int .u64 (al : Int))) :=
    ⟨fun o => (H1.out.alloc o).2.2.1.1, fun o => (H1.out.alloc o).2.2.1.2⟩
  have T1 := Lib.hid (Two.new w1 (ch : Int) (cl : Int) 39)
  clear b1
  go_wp2_with fail
  refine (cO.out _).mono ?_
  rintro E w2 ⟨g2, rfl, n2, b2⟩
  have H2 := Lib.hid ((H1.out.alloc _).next b2)
  have T2 := Lib.hid (T1.out.next b2)
  have N2 := Lib.hid n2
  clear q0 q1 n2 b2 H1 T1
  generalize w1.heap.size = gc at *
  obtain ⟨_, _, ⟨q0, q1⟩, ⟨r0, r1⟩⟩ := H2.out
  go_wp2_with fail
  refine (cP.out _).mono ?_
  rintro E w3 ⟨g3, rfl, n3, b3⟩
  have H3 := Lib.hid (H2.out.next b3)
  have T3 := Lib.hid (T2.out.next b3)
  have N3 := Lib.hid n3
  have M2 := Lib.hid (N2.out.next b3)
  clear q0 q1 r0 r1 n3 b3 H2 T2 N2
  obtain ⟨_, _, ⟨q0, q1⟩, ⟨r0, r1⟩⟩ := H3.out
  go_wp2_with fail
  refine (cL.out _).mono ?_
  rintro E w4 ⟨rfl, b4⟩
  have H4 := Lib.hid (H3.out.next b4)
  have T4 := Lib.hid (T3.out.next b4)
  have N4 := Lib.hid (N3.out.next b4)
  have M4 := Lib.hid (M2.out.next b4)
  clear q0 q1 r0 r1 b4 H3 T3 N3 M2
  have u1 := fun W (hx : NumD W g2 A) (hy : NumD W g3 B) => under_any g2 g3 12 12 A B W hx hy
  rw [f1.out] at u1
  have U1 := Lib.hid u1
  clear u1
  go_wp2_with fail
  refine (U1.out _ M4.out N4.out).mono ?_
  rintro E w' ⟨rfl, d1, rfl⟩
  have pl := Lib.hid (fun W (hx : NumD W g2 A) (hy : NumD W g3 B) => plus_any g2 g3 12 12 A B W hx hy hs.out)
  go_wp2_with fail
  refine (pl.out _ (M4.out.drewN d1) (N4.out.drewN d1)).mono ?_
  rintro E w5 ⟨g5, rfl, n5, b5⟩
  have B5 := Lib.hid (below_draws d1 b5)
  have N5 := Lib.hid n5
  have H5 := Lib.hid (H4.out.next B5.out)
  have T5 := Lib.hid (T4.out.next B5.out)
  clear n5 b5 H4 T4 N4 M4
  have sm := fun W (hx : NumD W g5 (A + B)) => small_any g5 12 (A + B) 8 (by omega) W hx
  rw [f2.out] at sm
  have SM := Lib.hid sm
  clear sm
  go_wp2_with fail
  refine (SM.out _ N5.out).mono ?_
  rintro E w' ⟨rfl, rfl⟩
  obtain ⟨_, t0, t1⟩ := T5.out
  go_wp2_with fail
  refine (cS.out _ _ N5.out).mono ?_
  rintro E w6 ⟨rfl, b6⟩
  go_wp2_with fail
  refine (cW.out _).mono ?_
  rintro E w7 ⟨rfl, b7⟩
  go_wp2
  go_ret
  exact ⟨rfl, ((H5.out.next b6).next b7).2.1⟩

set_option maxRecDepth 20000 in
set_option maxHeartbeats 2000000 in
theorem adds_over (ah al bh bl ch cl A B : Nat) (lt : Bool) (hs : Hid (A + B < 65536 ^ 12)) (f1 : Hid (decide (A < B) = lt)) (f2 : Hid (decide (A + B < 65536 ^ 8) = false))
    (cA : Hid (∀ W, Calls Try.prog 25 #[.agg #[.int .u64 (ah : Int), .int .u64 (al : Int)], .agg #[.int .u64 (bh : Int), .int .u64 (bl : Int)]] W fun E w' => E = .returned (.tuple #[.agg #[.int .u64 0, .int .u64 0], .int .i64 11]) ∧ Below W.heap.size W w'))
    (cL : Hid (∀ W, Calls Try.prog 26 #[.agg #[.int .u64 (ah : Int), .int .u64 (al : Int)], .agg #[.int .u64 (bh : Int), .int .u64 (bl : Int)]] W fun E w' => E = .returned (.bool lt) ∧ Below W.heap.size W w'))
    (cO : Hid (∀ W, Calls Try.prog 13 #[.int .u64 (ah : Int), .int .u64 (al : Int)] W (Makes W A)))
    (cP : Hid (∀ W, Calls Try.prog 13 #[.int .u64 (bh : Int), .int .u64 (bl : Int)] W (Makes W B)))
    (cW : Hid (∀ W, Calls Try.prog 11 #[] W fun E w' => E = .returned (.bool true) ∧ Below W.heap.size W w')) (w : World) :
    Calls Try.prog 5 #[.agg #[.int .u64 (ah : Int), .int .u64 (al : Int)], .agg #[.int .u64 (bh : Int), .int .u64 (bl : Int)]] w fun E w' => E = .returned (.bool true) ∧ Below w.heap.size w w' := by
  go_enter Try.func5, Try.ntmps5
  go_wp2_with fail
  refine (cA.out _).mono ?_
  rintro E w1 ⟨rfl, b1⟩
  have H1 := Lib.hid ((Wid2.start w ah al bh bl 39 39).next b1)
  obtain ⟨q0, q1⟩ : (∀ o, (w1.alloc o).cell? ⟨w.heap.size, 0, none⟩ = some (.int .u64 (ah : Int))) ∧ (∀ o, (w1.alloc o).cell? ⟨w.heap.size, 1, none⟩ = some (.int .u64 (al : Int))) :=
    ⟨fun o => (H1.out.alloc o).2.2.1.1, fun o => (H1.out.alloc o).2.2.1.2⟩
  have T1 := Lib.hid (Two.new w1 0 0 39)
  clear b1
  go_wp2_with fail
  refine (cO.out _).mono ?_
  rintro E w2 ⟨g2, rfl, n2, b2⟩
  have H2 := Lib.hid ((H1.out.alloc _).next b2)
  have T2 := Lib.hid (T1.out.next b2)
  have N2 := Lib.hid n2
  clear q0 q1 n2 b2 H1 T1
  generalize w1.heap.size = gc at *
  obtain ⟨_, _, ⟨q0, q1⟩, ⟨r0, r1⟩⟩ := H2.out
  go_wp2_with fail
  refine (cP.out _).mono ?_
  rintro E w3 ⟨g3, rfl, n3, b3⟩
  have H3 := Lib.hid (H2.out.next b3)
  have T3 := Lib.hid (T2.out.next b3)
  have N3 := Lib.hid n3
  have M2 := Lib.hid (N2.out.next b3)
  clear q0 q1 r0 r1 n3 b3 H2 T2 N2
  obtain ⟨_, _, ⟨q0, q1⟩, ⟨r0, r1⟩⟩ := H3.out
  go_wp2_with fail
  refine (cL.out _).mono ?_
  rintro E w4 ⟨rfl, b4⟩
  have H4 := Lib.hid (H3.out.next b4)
  have T4 := Lib.hid (T3.out.next b4)
  have N4 := Lib.hid (N3.out.next b4)
  have M4 := Lib.hid (M2.out.next b4)
  clear q0 q1 r0 r1 b4 H3 T3 N3 M2
  have u1 := fun W (hx : NumD W g2 A) (hy : NumD W g3 B) => under_any g2 g3 12 12 A B W hx hy
  rw [f1.out] at u1
  have U1 := Lib.hid u1
  clear u1
  go_wp2_with fail
  refine (U1.out _ M4.out N4.out).mono ?_
  rintro E w' ⟨rfl, d1, rfl⟩
  have pl := Lib.hid (fun W (hx : NumD W g2 A) (hy : NumD W g3 B) => plus_any g2 g3 12 12 A B W hx hy hs.out)
  go_wp2_with fail
  refine (pl.out _ (M4.out.drewN d1) (N4.out.drewN d1)).mono ?_
  rintro E w5 ⟨g5, rfl, n5, b5⟩
  have B5 := Lib.hid (below_draws d1 b5)
  have N5 := Lib.hid n5
  have H5 := Lib.hid (H4.out.next B5.out)
  have T5 := Lib.hid (T4.out.next B5.out)
  clear n5 b5 H4 T4 N4 M4
  have sm := fun W (hx : NumD W g5 (A + B)) => small_any g5 12 (A + B) 8 (by omega) W hx
  rw [f2.out] at sm
  have SM := Lib.hid sm
  clear sm
  go_wp2_with fail
  refine (SM.out _ N5.out).mono ?_
  rintro E w' ⟨rfl, rfl⟩
  obtain ⟨_, t0, t1⟩ := T5.out
  go_wp2_with fail
  refine (cW.out _).mono ?_
  rintro E w7 ⟨rfl, b7⟩
  go_wp2
  go_ret
  exact ⟨rfl, (H5.out.next b7).2.1⟩

theorem sum12 {A B : Nat} (hA : A < 340282366920938463463374607431768211456) (hB : B < 340282366920938463463374607431768211456) : A + B < 65536 ^ 12 := by rw [pow12]; omega
theorem pow8 : (65536 : Nat) ^ 8 = 340282366920938463463374607431768211456 := by decide

theorem lt8 {c d S : Nat} (e : c * 18446744073709551616 + d = S) (h1 : c < 18446744073709551616) (h2 : d < 18446744073709551616) : decide (S < 65536 ^ 8) = true := by
  rw [pow8, decide_eq_true_eq, ← e]; exact wide_small h1 h2
theorem ge8 {S : Nat} (h : 340282366920938463463374607431768211456 ≤ S) : decide (S < 65536 ^ 8) = false := by
  rw [pow8, decide_eq_false_iff_not]; omega

theorem walk_NumAdds (ah al bh bl : Int) (w : World) (h1 : 0 ≤ ah ∧ ah ≤ 18446744073709551615) (h2 : 0 ≤ al ∧ al ≤ 18446744073709551615) (h3 : 0 ≤ bh ∧ bh ≤ 18446744073709551615) (h4 : 0 ≤ bl ∧ bl ≤ 18446744073709551615) :
    Calls Try.prog 5 #[.agg #[.int .u64 ah, .int .u64 al], .agg #[.int .u64 bh, .int .u64 bl]] w fun E w' => E = .returned (.bool true) ∧ Below w.heap.size w w' := by
  obtain ⟨ah, rfl⟩ := Int.eq_ofNat_of_zero_le h1.1
  obtain ⟨al, rfl⟩ := Int.eq_ofNat_of_zero_le h2.1
  obtain ⟨bh, rfl⟩ := Int.eq_ofNat_of_zero_le h3.1
  obtain ⟨bl, rfl⟩ := Int.eq_ofNat_of_zero_le h4.1
  have g1 : ah < 18446744073709551616 := by omega
  have g2 : al < 18446744073709551616 := by omega
  have g3 : bh < 18446744073709551616 := by omega
  have g4 : bl < 18446744073709551616 := by omega
  have cO := Lib.hid (fun W => of_any ah al g1 g2 W)
  have cP := Lib.hid (fun W => of_any bh bl g3 g4 W)
  have cW := Lib.hid (fun W => awake_any W)
  have hA := wide_small g1 g2
  have hB := wide_small g3 g4
  have cL := fun W => wless_any (ah : Int) al bh bl W
  have eL : ltW (ah : Int) al bh bl = decide (ah * 18446744073709551616 + al < bh * 18446744073709551616 + bl) := by
    unfold ltW
    by_cases h : (ah : Int) = bh
    · rw [if_pos h, decide_eq_decide]; omega
    · rw [if_neg h, decide_eq_decide]; omega
  rw [eL] at cL
  have hc0 : 0 ≤ carS (al : Int) bl := by unfold carS; omega
  have hc1 : carS (al : Int) bl ≤ 1 := by unfold carS; omega
  by_cases ho : outS (ah : Int) bh (carS al bl) = 0
  · have cA := Lib.hid (fun W => wadd_ok (ah : Int) al bh bl (by omega) (by omega) (by omega) (by omega) hc0 hc1 ho W)
    obtain ⟨ch, hch⟩ : ∃ ch : Nat, higS (ah : Int) bh (carS al bl) = (ch : Int) := Int.eq_ofNat_of_zero_le (by unfold higS; omega)
    obtain ⟨cl, hcl⟩ : ∃ cl : Nat, lowS (al : Int) bl = (cl : Int) := Int.eq_ofNat_of_zero_le (by unfold lowS; omega)
    have e : ch * 18446744073709551616 + cl = ah * 18446744073709551616 + al + (bh * 18446744073709551616 + bl) ∧ ch < 18446744073709551616 ∧ cl < 18446744073709551616 := by
      unfold outS carS at ho
      unfold higS carS at hch
      unfold lowS at hcl
      omega
    rw [hch, hcl] at cA
    have cS := Lib.hid (fun W g (hn : NumD W g (ah * 18446744073709551616 + al + (bh * 18446744073709551616 + bl))) => same_yes ch cl g e.2.1 e.2.2 W (by rw [e.1]; exact hn))
    have f2 : decide (ah * 18446744073709551616 + al + (bh * 18446744073709551616 + bl) < 65536 ^ 8) = true := lt8 e.1 e.2.1 e.2.2
    exact adds_ok ah al bh bl ch cl _ _ _ (Lib.hid (sum12 hA hB)) (Lib.hid rfl) (Lib.hid f2) cA (Lib.hid cL) cO cP cS cW w
  · have ho1 : outS (ah : Int) bh (carS al bl) = 1 := by
      unfold outS carS at ho ⊢
      omega
    have cA := Lib.hid (fun W => wadd_over (ah : Int) al bh bl (by omega) (by omega) (by omega) (by omega) hc0 hc1 ho1 W)
    have f2 : decide (ah * 18446744073709551616 + al + (bh * 18446744073709551616 + bl) < 65536 ^ 8) = false := ge8 (by unfold outS carS at ho1; omega)
    exact adds_over ah al bh bl 0 0 _ _ _ (Lib.hid (sum12 hA hB)) (Lib.hid rfl) (Lib.hid f2) cA (Lib.hid cL) cO cP cW w
end Go.Proofs.Ytmbkmljglajenaa
