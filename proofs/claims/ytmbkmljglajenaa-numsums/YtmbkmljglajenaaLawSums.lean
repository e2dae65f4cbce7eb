/-
  The walk of NumSums.
-/
import Derived.Test.YtmbkmljglajenaaSumsA
import Derived.Deep.DeepCutAuto
namespace Go.Proofs.Ytmbkmljglajenaa
open Go.RowKit
set_option linter.unusedVariables false

theorem grow {x k B M : Nat} (h : x ≤ k * B) (hM : M ≤ B) : x + M ≤ (k + 1) * B := by rw [Nat.succ_mul]; omega
theorem grow0 {x k B : Nat} (h : x ≤ k * B) : x ≤ (k + 1) * B := by rw [Nat.succ_mul]; omega
theorem cells_keep {W W' : World} {g i j : Nat} {x y : Value} (h : W.cell? ⟨g, i, none⟩ = some x ∧ W.cell? ⟨g, j, none⟩ = some y) (hb : Below W.heap.size W W') : W'.cell? ⟨g, i, none⟩ = some x ∧ W'.cell? ⟨g, j, none⟩ = some y := by
  have hlt : g < W.heap.size := World.block_lt_of_cell? W ⟨g, i, none⟩ h.1
  exact ⟨(hb.cell (p := ⟨g, i, none⟩) hlt).trans h.1, (hb.cell (p := ⟨g, j, none⟩) hlt).trans h.2⟩

set_option maxRecDepth 20000 in
set_option maxHeartbeats 4000000 in
theorem sums_core (a : Option Addr) (ys : List Int) (n cap : Nat) (s1 s2 : Int) (hn : Hid (ys.length = n)) (hs : Hid (sumR 0 ys = (s1, s2))) (hz : Hid (∀ z ∈ ys, Is64 z)) (h60 : n ≤ 60)
    (cS : Hid (∀ W, RowI W a ys → Calls Try.prog 12 #[.slice a n cap] W fun e w' => e = .returned (.tuple #[.int .i64 s1, .int .i64 s2]) ∧ W = w'))
    (cW : Hid (∀ W, Calls Try.prog 11 #[] W fun E w' => E = .returned (.bool true) ∧ Below W.heap.size W w')) (w : World) (hr : Hid (RowI w a ys)) :
    Calls Try.prog 3 #[.slice a n cap] w fun E w' => E = .returned (.bool true) ∧ Below w.heap.size w w' := by
  have cZ := Lib.hid (fun W => of_low 0 (by omega) W)
  have cHf := Lib.hid (fun W => of_low 9223372036854775808 (by omega) W)
  go_enter Try.func3, Try.ntmps3
  go_wp2_with fail
  refine (cS.out _ hr.out).mono ?_
  rintro e w' ⟨rfl, rfl⟩
  go_wp2_with fail
  refine (cZ.out _).mono ?_
  rintro e w1 ⟨g1, rfl, n1, b1⟩
  go_wp2_with fail
  refine (cZ.out _).mono ?_
  rintro e w2 ⟨g2, rfl, n2, b2⟩
  have A1 := Lib.hid (n1.next b2)
  have A2 := Lib.hid n2
  have AB := Lib.hid (b1.trans (b2.mono b1.size))
  clear n1 n2 b1 b2 cZ cS
  go_wp2_with fail
  go_loopw [5, 6, 7, 8] (fun ov hi lo i wr => SumRel w ys n ov hi lo i wr) (fun _ _ _ i _ => n - (intOf i).toNat)
  case atStart => exact ⟨0, 0, 0, g1, g2, false, by omega, rfl, rfl, rfl, rfl, A1.out, A2.out, by omega, by omega, SumSt.start ys, AB.out⟩
  case round =>
    obtain ⟨k, H, L, gh, gl, o, hk, rfl, rfl, rfl, rfl, nh, nl, lh, ll, st, bel⟩ := hrel
    have NH := Lib.hid nh
    have NL := Lib.hid nl
    have ST := Lib.hid st
    have BEL := Lib.hid bel
    clear nh nl st bel A1 A2 AB
    by_cases hlt : k < n
    · have hkl : Hid (k < ys.length) := by show k < ys.length; rw [hn.out]; exact hlt
      obtain ⟨g, of, ea, hg, hc⟩ : ∃ g of, a = some ⟨g, of, none⟩ ∧ g < w.heap.size ∧ w.cell? ⟨g, of + k, none⟩ = some (.int .i64 (ys.getD k 0)) := by
        rcases hr.out with h | ⟨g, of, ha, hg, hc⟩
        · have := hkl.out; rw [h] at this; exact absurd this (by simp)
        · exact ⟨g, of, ha, hg, hc k hkl.out⟩
      have hm64 := hz.out (ys.getD k 0) (by rw [List.getD_eq_getElem?_getD, List.getElem?_eq_getElem hkl.out]; exact List.getElem_mem _)
      obtain ⟨m, hm'⟩ : ∃ m, ys.getD k 0 = m := ⟨_, rfl⟩
      rw [hm'] at hc hm64
      have hm := Lib.hid hm'
      clear hm'
      obtain ⟨m0, m1⟩ := hm64
      subst ea
      have hc1 : wr.cell? ⟨g, of + k, none⟩ = some (.int .i64 m) := (BEL.out.cell (p := ⟨g, of + k, none⟩) hg).trans hc
      have hc2' := Lib.hid (fun W (hb : Below wr.heap.size wr W) => ((hb.cell (p := ⟨g, of + k, none⟩) (Nat.lt_of_lt_of_le hg BEL.out.size)).trans hc1))
      have cSz := Lib.hid (fun W => size_any m m0 m1 W)
      have cOf := Lib.hid (fun W => of_low m.natAbs (natAbs_lt m0 m1) W)
      clear hc hg
      go_wp2_with fail
      refine (cSz.out _).mono ?_
      rintro e w' ⟨rfl, rfl⟩
      go_wp2_with fail
      refine (cOf.out _).mono ?_
      rintro e w1 ⟨g1, rfl, n1, b1⟩
      have N1 := Lib.hid n1
      have NH1 := Lib.hid (NH.out.next b1)
      have NL1 := Lib.hid (NL.out.next b1)
      have B1 := Lib.hid (BEL.out.trans (b1.mono BEL.out.size))
      have hc2 := hc2'.out _ b1
      clear n1 b1 NH NL BEL hc2' hc1 cSz cOf
      by_cases hm0 : m < 0
      · have hmb : decide (m < 0) = true := by simpa using hm0
        have cP := Lib.hid (fun W (h1 : NumD W gl L) (h2 : NumD W g1 m.natAbs) => plus_any gl g1 12 12 L m.natAbs W h1 h2 (below_pow12 (by omega)))
        obtain ⟨M, HM⟩ : ∃ M, m.natAbs = M := ⟨_, rfl⟩
        have eM : m = -(M : Int) := by omega
        have lM : M ≤ 9223372036854775808 := by omega
        rw [HM] at cP
        have EM := Lib.hid eM
        clear eM
        go_wp2_with fail
        rw [HM] at N1
        refine (cP.out _ NL1.out N1.out).mono ?_
        rintro e w2 ⟨g2, rfl, n2, b2⟩
        have NL2 := Lib.hid n2
        have NH2 := Lib.hid (NH1.out.next b2)
        have B2 := Lib.hid (B1.out.trans (b2.mono B1.out.size))
        have eM := EM.out
        clear n2 b2 NH1 NL1 N1 B1 cP hc2 hmb hm0
        have cQ := Lib.hid (fun W g (h1 : NumD W g2 (L + M)) (h2 : NumD W g 9223372036854775808) => plus_any g2 g 12 12 (L + M) 9223372036854775808 W h1 h2 (below_pow12 (by omega)))
        have cR := Lib.hid (fun W g (h1 : NumD W gh (H)) (h2 : NumD W g 9223372036854775808) => plus_any gh g 12 12 (H) 9223372036854775808 W h1 h2 (below_pow12 (by omega)))
        have cU := Lib.hid (fun W g (h1 : NumD W gh (H)) (h2 : NumD W g ((L + M) + 9223372036854775808)) => under_any gh g 12 12 (H) ((L + M) + 9223372036854775808) W h1 h2)
        have cV := Lib.hid (fun W g (h1 : NumD W g ((H) + 9223372036854775808)) (h2 : NumD W g2 (L + M)) => under_any g g2 12 12 ((H) + 9223372036854775808) (L + M) W h1 h2)
        have lh' : H ≤ (k + 1) * 9223372036854775808 := by first | exact grow lh lM | exact grow0 lh
        have ll' : L + M ≤ (k + 1) * 9223372036854775808 := by first | exact grow ll lM | exact grow0 ll
        have BH := Lib.hid lh'
        have BL := Lib.hid ll'
        by_cases q1 : H < L + M + 9223372036854775808
        · have cU' := cU.out
          simp only [decide_eq_true q1] at cU'
          have CU := Lib.hid cU'
          clear cU cU'
          by_cases q2 : H + 9223372036854775808 < L + M
          · have cV' := cV.out
            simp only [decide_eq_true q2] at cV'
            have CV := Lib.hid cV'
            have ST' := Lib.hid (ST.out.over (H' := H) (L' := L + M) hkl.out hm.out (by omega) (.inr q2))
            clear cV cV' q1 q2 lh ll lh' ll' ST hkl hm HM
            go_wp2_with fail
            refine (cHf.out _).mono ?_
            rintro e w3 ⟨g3, rfl, n3, b3⟩
            have N3 := Lib.hid n3
            have NH3 := Lib.hid (NH2.out.next b3)
            have NL3 := Lib.hid (NL2.out.next b3)
            have B3 := Lib.hid (B2.out.trans (b3.mono B2.out.size))
            clear n3 b3 NH2 NL2 B2
            go_wp2_with fail
            refine (cQ.out _ _ NL3.out N3.out).mono ?_
            rintro e w4 ⟨g4, rfl, n4, b4⟩
            have N4 := Lib.hid n4
            have M4 := Lib.hid (N3.out.next b4)
            have NH4 := Lib.hid (NH3.out.next b4)
            have NL4 := Lib.hid (NL3.out.next b4)
            have B4 := Lib.hid (B3.out.trans (b4.mono B3.out.size))
            clear n4 b4 NH3 NL3 B3 N3
            go_wp2_with fail
            refine (CU.out _ _ NH4.out N4.out).mono ?_
            rintro e w' ⟨rfl, d1, rfl⟩
            go_wp2_with fail
            refine (cR.out _ _ (NH4.out.drewN d1) (M4.out.drewN d1)).mono ?_
            rintro e w5 ⟨g5, rfl, n5, b5⟩
            have b5' := below_draws d1 b5
            have N5 := Lib.hid n5
            have NH5 := Lib.hid (NH4.out.next b5')
            have NL5 := Lib.hid (NL4.out.next b5')
            have B5 := Lib.hid (B4.out.trans (b5'.mono B4.out.size))
            clear n5 b5 b5' NH4 NL4 B4 M4 N4
            go_wp2_with fail
            refine (CV.out _ _ N5.out NL5.out).mono ?_
            rintro e w' ⟨rfl, d2, rfl⟩
            go_wp2_with fail
            have NH9 := Lib.hid (NH5.out.drewN d2)
            have NL9 := Lib.hid (NL5.out.drewN d2)
            have B9 := Lib.hid (below_drewN B5.out d2)
            exact ⟨⟨k + 1, H, L + M, gh, g2, _, by omega, by go_num, rfl, rfl, rfl, NH9.out, NL9.out, BH.out, BL.out, ST'.out, B9.out⟩, by simp [intOf]; omega⟩
          · have cV' := cV.out
            simp only [decide_eq_false q2] at cV'
            have CV := Lib.hid cV'
            have ST' := Lib.hid (ST.out.keep (H' := H) (L' := L + M) hkl.out hm.out (by omega) q1 q2)
            clear cV cV' q1 q2 lh ll lh' ll' ST hkl hm HM
            go_wp2_with fail
            refine (cHf.out _).mono ?_
            rintro e w3 ⟨g3, rfl, n3, b3⟩
            have N3 := Lib.hid n3
            have NH3 := Lib.hid (NH2.out.next b3)
            have NL3 := Lib.hid (NL2.out.next b3)
            have B3 := Lib.hid (B2.out.trans (b3.mono B2.out.size))
            clear n3 b3 NH2 NL2 B2
            go_wp2_with fail
            refine (cQ.out _ _ NL3.out N3.out).mono ?_
            rintro e w4 ⟨g4, rfl, n4, b4⟩
            have N4 := Lib.hid n4
            have M4 := Lib.hid (N3.out.next b4)
            have NH4 := Lib.hid (NH3.out.next b4)
            have NL4 := Lib.hid (NL3.out.next b4)
            have B4 := Lib.hid (B3.out.trans (b4.mono B3.out.size))
            clear n4 b4 NH3 NL3 B3 N3
            go_wp2_with fail
            refine (CU.out _ _ NH4.out N4.out).mono ?_
            rintro e w' ⟨rfl, d1, rfl⟩
            go_wp2_with fail
            refine (cR.out _ _ (NH4.out.drewN d1) (M4.out.drewN d1)).mono ?_
            rintro e w5 ⟨g5, rfl, n5, b5⟩
            have b5' := below_draws d1 b5
            have N5 := Lib.hid n5
            have NH5 := Lib.hid (NH4.out.next b5')
            have NL5 := Lib.hid (NL4.out.next b5')
            have B5 := Lib.hid (B4.out.trans (b5'.mono B4.out.size))
            clear n5 b5 b5' NH4 NL4 B4 M4 N4
            go_wp2_with fail
            refine (CV.out _ _ N5.out NL5.out).mono ?_
            rintro e w' ⟨rfl, d2, rfl⟩
            go_wp2_with fail
            have NH9 := Lib.hid (NH5.out.drewN d2)
            have NL9 := Lib.hid (NL5.out.drewN d2)
            have B9 := Lib.hid (below_drewN B5.out d2)
            exact ⟨⟨k + 1, H, L + M, gh, g2, _, by omega, by go_num, rfl, rfl, rfl, NH9.out, NL9.out, BH.out, BL.out, ST'.out, B9.out⟩, by simp [intOf]; omega⟩
        · have cU' := cU.out
          simp only [decide_eq_false q1] at cU'
          have CU := Lib.hid cU'
          have ST' := Lib.hid (ST.out.over (H' := H) (L' := L + M) hkl.out hm.out (by omega) (.inl q1))
          clear cU cU' cV q1 lh ll lh' ll' ST hkl hm HM
          go_wp2_with fail
          refine (cHf.out _).mono ?_
          rintro e w3 ⟨g3, rfl, n3, b3⟩
          have N3 := Lib.hid n3
          have NH3 := Lib.hid (NH2.out.next b3)
          have NL3 := Lib.hid (NL2.out.next b3)
          have B3 := Lib.hid (B2.out.trans (b3.mono B2.out.size))
          clear n3 b3 NH2 NL2 B2
          go_wp2_with fail
          refine (cQ.out _ _ NL3.out N3.out).mono ?_
          rintro e w4 ⟨g4, rfl, n4, b4⟩
          have N4 := Lib.hid n4
          have M4 := Lib.hid (N3.out.next b4)
          have NH4 := Lib.hid (NH3.out.next b4)
          have NL4 := Lib.hid (NL3.out.next b4)
          have B4 := Lib.hid (B3.out.trans (b4.mono B3.out.size))
          clear n4 b4 NH3 NL3 B3 N3
          go_wp2_with fail
          refine (CU.out _ _ NH4.out N4.out).mono ?_
          rintro e w' ⟨rfl, d1, rfl⟩
          go_wp2_with fail
          have NH9 := Lib.hid (NH4.out.drewN d1)
          have NL9 := Lib.hid (NL4.out.drewN d1)
          have B9 := Lib.hid (below_drewN B4.out d1)
          exact ⟨⟨k + 1, H, L + M, gh, g2, _, by omega, by go_num, rfl, rfl, rfl, NH9.out, NL9.out, BH.out, BL.out, ST'.out, B9.out⟩, by simp [intOf]; omega⟩
      · have hmb : decide (m < 0) = false := by simpa using hm0
        have cP := Lib.hid (fun W (h1 : NumD W gh H) (h2 : NumD W g1 m.natAbs) => plus_any gh g1 12 12 H m.natAbs W h1 h2 (below_pow12 (by omega)))
        obtain ⟨M, HM⟩ : ∃ M, m.natAbs = M := ⟨_, rfl⟩
        have eM : m = (M : Int) := by omega
        have lM : M ≤ 9223372036854775808 := by omega
        rw [HM] at cP
        have EM := Lib.hid eM
        clear eM
        go_wp2_with fail
        rw [HM] at N1
        refine (cP.out _ NH1.out N1.out).mono ?_
        rintro e w2 ⟨g2, rfl, n2, b2⟩
        have NH2 := Lib.hid n2
        have NL2 := Lib.hid (NL1.out.next b2)
        have B2 := Lib.hid (B1.out.trans (b2.mono B1.out.size))
        have eM := EM.out
        clear n2 b2 NH1 NL1 N1 B1 cP hc2 hmb hm0
        have cQ := Lib.hid (fun W g (h1 : NumD W gl (L)) (h2 : NumD W g 9223372036854775808) => plus_any gl g 12 12 (L) 9223372036854775808 W h1 h2 (below_pow12 (by omega)))
        have cR := Lib.hid (fun W g (h1 : NumD W g2 (H + M)) (h2 : NumD W g 9223372036854775808) => plus_any g2 g 12 12 (H + M) 9223372036854775808 W h1 h2 (below_pow12 (by omega)))
        have cU := Lib.hid (fun W g (h1 : NumD W g2 (H + M)) (h2 : NumD W g ((L) + 9223372036854775808)) => under_any g2 g 12 12 (H + M) ((L) + 9223372036854775808) W h1 h2)
        have cV := Lib.hid (fun W g (h1 : NumD W g ((H + M) + 9223372036854775808)) (h2 : NumD W gl (L)) => under_any g gl 12 12 ((H + M) + 9223372036854775808) (L) W h1 h2)
        have lh' : H + M ≤ (k + 1) * 9223372036854775808 := by first | exact grow lh lM | exact grow0 lh
        have ll' : L ≤ (k + 1) * 9223372036854775808 := by first | exact grow ll lM | exact grow0 ll
        have BH := Lib.hid lh'
        have BL := Lib.hid ll'
        by_cases q1 : H + M < L + 9223372036854775808
        · have cU' := cU.out
          simp only [decide_eq_true q1] at cU'
          have CU := Lib.hid cU'
          clear cU cU'
          by_cases q2 : H + M + 9223372036854775808 < L
          · have cV' := cV.out
            simp only [decide_eq_true q2] at cV'
            have CV := Lib.hid cV'
            have ST' := Lib.hid (ST.out.over (H' := H + M) (L' := L) hkl.out hm.out (by omega) (.inr q2))
            clear cV cV' q1 q2 lh ll lh' ll' ST hkl hm HM
            go_wp2_with fail
            refine (cHf.out _).mono ?_
            rintro e w3 ⟨g3, rfl, n3, b3⟩
            have N3 := Lib.hid n3
            have NH3 := Lib.hid (NH2.out.next b3)
            have NL3 := Lib.hid (NL2.out.next b3)
            have B3 := Lib.hid (B2.out.trans (b3.mono B2.out.size))
            clear n3 b3 NH2 NL2 B2
            go_wp2_with fail
            refine (cQ.out _ _ NL3.out N3.out).mono ?_
            rintro e w4 ⟨g4, rfl, n4, b4⟩
            have N4 := Lib.hid n4
            have M4 := Lib.hid (N3.out.next b4)
            have NH4 := Lib.hid (NH3.out.next b4)
            have NL4 := Lib.hid (NL3.out.next b4)
            have B4 := Lib.hid (B3.out.trans (b4.mono B3.out.size))
            clear n4 b4 NH3 NL3 B3 N3
            go_wp2_with fail
            refine (CU.out _ _ NH4.out N4.out).mono ?_
            rintro e w' ⟨rfl, d1, rfl⟩
            go_wp2_with fail
            refine (cR.out _ _ (NH4.out.drewN d1) (M4.out.drewN d1)).mono ?_
            rintro e w5 ⟨g5, rfl, n5, b5⟩
            have b5' := below_draws d1 b5
            have N5 := Lib.hid n5
            have NH5 := Lib.hid (NH4.out.next b5')
            have NL5 := Lib.hid (NL4.out.next b5')
            have B5 := Lib.hid (B4.out.trans (b5'.mono B4.out.size))
            clear n5 b5 b5' NH4 NL4 B4 M4 N4
            go_wp2_with fail
            refine (CV.out _ _ N5.out NL5.out).mono ?_
            rintro e w' ⟨rfl, d2, rfl⟩
            go_wp2_with fail
            have NH9 := Lib.hid (NH5.out.drewN d2)
            have NL9 := Lib.hid (NL5.out.drewN d2)
            have B9 := Lib.hid (below_drewN B5.out d2)
            exact ⟨⟨k + 1, H + M, L, g2, gl, _, by omega, by go_num, rfl, rfl, rfl, NH9.out, NL9.out, BH.out, BL.out, ST'.out, B9.out⟩, by simp [intOf]; omega⟩
          · have cV' := cV.out
            simp only [decide_eq_false q2] at cV'
            have CV := Lib.hid cV'
            have ST' := Lib.hid (ST.out.keep (H' := H + M) (L' := L) hkl.out hm.out (by omega) q1 q2)
            clear cV cV' q1 q2 lh ll lh' ll' ST hkl hm HM
            go_wp2_with fail
            refine (cHf.out _).mono ?_
            rintro e w3 ⟨g3, rfl, n3, b3⟩
            have N3 := Lib.hid n3
            have NH3 := Lib.hid (NH2.out.next b3)
            have NL3 := Lib.hid (NL2.out.next b3)
            have B3 := Lib.hid (B2.out.trans (b3.mono B2.out.size))
            clear n3 b3 NH2 NL2 B2
            go_wp2_with fail
            refine (cQ.out _ _ NL3.out N3.out).mono ?_
            rintro e w4 ⟨g4, rfl, n4, b4⟩
            have N4 := Lib.hid n4
            have M4 := Lib.hid (N3.out.next b4)
            have NH4 := Lib.hid (NH3.out.next b4)
            have NL4 := Lib.hid (NL3.out.next b4)
            have B4 := Lib.hid (B3.out.trans (b4.mono B3.out.size))
            clear n4 b4 NH3 NL3 B3 N3
            go_wp2_with fail
            refine (CU.out _ _ NH4.out N4.out).mono ?_
            rintro e w' ⟨rfl, d1, rfl⟩
            go_wp2_with fail
            refine (cR.out _ _ (NH4.out.drewN d1) (M4.out.drewN d1)).mono ?_
            rintro e w5 ⟨g5, rfl, n5, b5⟩
            have b5' := below_draws d1 b5
            have N5 := Lib.hid n5
            have NH5 := Lib.hid (NH4.out.next b5')
            have NL5 := Lib.hid (NL4.out.next b5')
            have B5 := Lib.hid (B4.out.trans (b5'.mono B4.out.size))
            clear n5 b5 b5' NH4 NL4 B4 M4 N4
            go_wp2_with fail
            refine (CV.out _ _ N5.out NL5.out).mono ?_
            rintro e w' ⟨rfl, d2, rfl⟩
            go_wp2_with fail
            have NH9 := Lib.hid (NH5.out.drewN d2)
            have NL9 := Lib.hid (NL5.out.drewN d2)
            have B9 := Lib.hid (below_drewN B5.out d2)
            exact ⟨⟨k + 1, H + M, L, g2, gl, _, by omega, by go_num, rfl, rfl, rfl, NH9.out, NL9.out, BH.out, BL.out, ST'.out, B9.out⟩, by simp [intOf]; omega⟩
        · have cU' := cU.out
          simp only [decide_eq_false q1] at cU'
          have CU := Lib.hid cU'
          have ST' := Lib.hid (ST.out.over (H' := H + M) (L' := L) hkl.out hm.out (by omega) (.inl q1))
          clear cU cU' cV q1 lh ll lh' ll' ST hkl hm HM
          go_wp2_with fail
          refine (cHf.out _).mono ?_
          rintro e w3 ⟨g3, rfl, n3, b3⟩
          have N3 := Lib.hid n3
          have NH3 := Lib.hid (NH2.out.next b3)
          have NL3 := Lib.hid (NL2.out.next b3)
          have B3 := Lib.hid (B2.out.trans (b3.mono B2.out.size))
          clear n3 b3 NH2 NL2 B2
          go_wp2_with fail
          refine (cQ.out _ _ NL3.out N3.out).mono ?_
          rintro e w4 ⟨g4, rfl, n4, b4⟩
          have N4 := Lib.hid n4
          have M4 := Lib.hid (N3.out.next b4)
          have NH4 := Lib.hid (NH3.out.next b4)
          have NL4 := Lib.hid (NL3.out.next b4)
          have B4 := Lib.hid (B3.out.trans (b4.mono B3.out.size))
          clear n4 b4 NH3 NL3 B3 N3
          go_wp2_with fail
          refine (CU.out _ _ NH4.out N4.out).mono ?_
          rintro e w' ⟨rfl, d1, rfl⟩
          go_wp2_with fail
          have NH9 := Lib.hid (NH4.out.drewN d1)
          have NL9 := Lib.hid (NL4.out.drewN d1)
          have B9 := Lib.hid (below_drewN B4.out d1)
          exact ⟨⟨k + 1, H + M, L, g2, gl, _, by omega, by go_num, rfl, rfl, rfl, NH9.out, NL9.out, BH.out, BL.out, ST'.out, B9.out⟩, by simp [intOf]; omega⟩
    · obtain rfl : n = k := by omega
      have HE : Hid ((o = false ∧ Is64 ((H : Int) - (L : Int)) ∧ s1 = (H : Int) - (L : Int) ∧ s2 = 0) ∨ (o = true ∧ s1 = 0 ∧ s2 = 11)) := by
        have h := ST.out
        rw [← hn.out] at h
        have h' := h.ends
        rw [hs.out] at h'
        rcases h' with ⟨h1, h2, h3⟩ | ⟨h1, h3⟩
        · exact .inl ⟨h1, h2, congrArg Prod.fst h3, congrArg Prod.snd h3⟩
        · exact .inr ⟨h1, congrArg Prod.fst h3, congrArg Prod.snd h3⟩
      clear ST
      go_upto_if 63 with (fail)
      go_cut [5] (fun s5 wc => Below w.heap.size w wc)
      case first =>
        rcases HE.out with ⟨rfl, h64, rfl, rfl⟩ | ⟨rfl, rfl, rfl⟩
        · have C1 := Lib.hid (half_any gh 12 H wr NH.out)
          have C2 := Lib.hid (half_any gl 12 L wr NL.out)
          have hv := halves H L h64
          clear h64 HE
          generalize H % 65536 ^ 4 = H4 at *
          generalize L % 65536 ^ 4 = L4 at *
          generalize (H : Int) - (L : Int) = D at *
          go_wp2_with fail
          refine C1.out.mono ?_
          rintro e w' ⟨rfl, rfl⟩
          go_wp2_with fail
          refine C2.out.mono ?_
          rintro e w' ⟨rfl, rfl⟩
          go_wp2_with fail
          go_meet
          case rel => exact BEL.out
        · go_wp2_with fail
          go_meet
          case rel => exact BEL.out
      case rest =>
        have BC := Lib.hid hcut
        have RC := Lib.hid (hr.out.next hcut)
        clear hcut HE NH NL BEL lh ll hs
        by_cases h2 : n < 2
        · have h2' : decide ((n : Int) < 2) = true := by simp; omega
          go_wp2_with (go_at_call 11; refine (cW.out _).mono ?_; rintro E w9 ⟨rfl, b9⟩)
          go_ret
          exact ⟨rfl, BC.out.trans (b9.mono BC.out.size)⟩
        · have h2' : decide ((n : Int) < 2) = false := by simp; omega
          have hl2 : 2 ≤ ys.length := by rw [hn.out]; omega
          obtain ⟨x, y, g, of, ea, hx, hy, p0, p1⟩ : ∃ x y g of, a = some ⟨g, of, none⟩ ∧ Is64 x ∧ Is64 y ∧ wc.cell? ⟨g, of, none⟩ = some (.int .i64 x) ∧ wc.cell? ⟨g, of + 1, none⟩ = some (.int .i64 y) := by
            rcases RC.out with h | ⟨g, of, ha, hg, hc⟩
            · rw [h] at hl2; exact absurd hl2 (by simp)
            · exact ⟨ys.getD 0 0, ys.getD 1 0, g, of, ha, hz.out _ (by rw [List.getD_eq_getElem?_getD, List.getElem?_eq_getElem (by omega)]; exact List.getElem_mem _), hz.out _ (by rw [List.getD_eq_getElem?_getD, List.getElem?_eq_getElem (by omega)]; exact List.getElem_mem _), hc 0 (by omega), hc 1 (by omega)⟩
          subst ea
          obtain ⟨q1, q2, wh, f, hf, cM, cWh, cH⟩ := prod_facts x y hx hy
          have HF := Lib.hid hf
          have CM := Lib.hid cM
          have CWh := Lib.hid cWh
          have CH := Lib.hid cH
          have cX := Lib.hid (fun W => size_any x hx.1 hx.2 W)
          have cY := Lib.hid (fun W => size_any y hy.1 hy.2 W)
          have cT := Lib.hid (fun W => times_dig x.natAbs y.natAbs (natAbs_lt hx.1 hx.2) (natAbs_lt hy.1 hy.2) W)
          clear hf cM cWh cH hx hy hl2 RC hz hn hr
          generalize x.natAbs * y.natAbs = A at *
          have n0 : 0 < n := by omega
          have n1 : (1 : Int) < (n : Int) := by omega
          go_upto_region 24 with (fail)
          go_region_held3 (fun w' => w'.cell? ⟨g, of, none⟩ = some (.int .i64 x) ∧ w'.cell? ⟨g, of + 1, none⟩ = some (.int .i64 y))
            (first | exact ⟨p0, p1⟩ | exact cells_keep (by assumption) b9)
            ((go_at_call 18; refine (CM.out _).mono ?_; rintro E w9 ⟨rfl, b9⟩))
          obtain ⟨r0, r1⟩ := cells_keep ⟨p0, p1⟩ (below_draws 1 b9)
          have B9 := Lib.hid (BC.out.trans ((below_draws 1 b9).mono BC.out.size))
          clear b9 BC p0 p1
          go_upto_region 25 with (fail)
          go_region_held3 (fun w' => w'.cell? ⟨g, of, none⟩ = some (.int .i64 x) ∧ w'.cell? ⟨g, of + 1, none⟩ = some (.int .i64 y))
            (first | exact ⟨r0, r1⟩ | assumption | exact cells_keep (by assumption) b10)
            (first
              | (go_at_call 14; (with_reducible refine (cX.out _).mono ?_); rintro E w' ⟨rfl, rfl⟩)
              | (go_at_call 14; (with_reducible refine (cY.out _).mono ?_); rintro E w' ⟨rfl, rfl⟩)
              | (go_at_call 19; refine (cT.out _).mono ?_; rintro E w10 ⟨g10, rfl, n10, b10⟩))
          obtain ⟨v0, v1⟩ := cells_keep ⟨r0, r1⟩ (below_draws 1 b10)
          have B10 := Lib.hid (B9.out.trans ((below_draws 1 b10).mono B9.out.size))
          have N10 := Lib.hid n10
          clear n10 b10 B9 r0 r1 cX cY cT CM
          rcases HF.out with ⟨rfl, rfl, rfl⟩ | ⟨rfl, rfl, rfl, rfl⟩ | ⟨rfl, hf0, rfl, cm⟩
          · clear HF
            go_wp2_with fail
            go_quiet (fail)
            go_wp2_with fail
            refine (CWh.out _ _ (by exact N10.out)).mono ?_
            rintro E w' ⟨rfl, rfl⟩
            go_wp2_with (go_at_call 11; refine (cW.out _).mono ?_; rintro E w11 ⟨rfl, b11⟩)
            go_ret
            have b12 : Below w10.heap.size w10 w11 := ⟨b11.os, b11.tape, b11.output, b11.size, b11.block⟩
            exact ⟨rfl, B10.out.trans (b12.mono B10.out.size)⟩
          · clear HF
            go_wp2_with fail
            go_quiet (fail)
            go_wp2_with fail
            refine (CWh.out _ _ (by exact N10.out)).mono ?_
            rintro E w' ⟨rfl, rfl⟩
            go_wp2_with fail
            refine (CH.out _ _ (by exact N10.out)).mono ?_
            rintro E w' ⟨rfl, rfl⟩
            go_wp2_with (go_at_call 11; refine (cW.out _).mono ?_; rintro E w11 ⟨rfl, b11⟩)
            go_ret
            have b12 : Below w10.heap.size w10 w11 := ⟨b11.os, b11.tape, b11.output, b11.size, b11.block⟩
            exact ⟨rfl, B10.out.trans (b12.mono B10.out.size)⟩
          · have CMn := Lib.hid cm
            have hfb : ((f : Int) == 0) = false := by simp; omega
            clear HF cm hf0
            go_wp2_with fail
            go_quiet (fail)
            go_wp2_with fail
            refine (CWh.out _ _ (by exact N10.out)).mono ?_
            rintro E w' ⟨rfl, rfl⟩
            go_wp2_with fail
            refine (CH.out _ _ (by exact N10.out)).mono ?_
            rintro E w' ⟨rfl, rfl⟩
            go_wp2_with fail
            refine (CH.out _ _ (by exact N10.out)).mono ?_
            rintro E w' ⟨rfl, rfl⟩
            go_wp2_with fail
            refine (CMn.out _).mono ?_
            rintro E w' ⟨rfl, rfl⟩
            go_wp2_with (go_at_call 11; refine (cW.out _).mono ?_; rintro E w11 ⟨rfl, b11⟩)
            go_ret
            have b12 : Below w10.heap.size w10 w11 := ⟨b11.os, b11.tape, b11.output, b11.size, b11.block⟩
            exact ⟨rfl, B10.out.trans (b12.mono B10.out.size)⟩
end Go.Proofs.Ytmbkmljglajenaa
