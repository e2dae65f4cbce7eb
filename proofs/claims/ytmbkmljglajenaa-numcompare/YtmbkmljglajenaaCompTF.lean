/-
  The walk of NumCompare, where the first wide number is less.
-/
import Derived.Test.YtmbkmljglajenaaCompA
import Derived.Deep.RegionWith
import Derived.Deep.DeepCutAuto
namespace Go.Proofs.Ytmbkmljglajenaa
open Go.RowKit
set_option linter.unusedVariables false
set_option linter.unusedSimpArgs false

set_option maxRecDepth 20000 in
set_option maxHeartbeats 4000000 in
theorem compare_TF (a b c ah al bh bl hh lo er m n o u : Int) (x y : Bool)
    (hx : Hid (InT a → InT b → InT c → (x = true ∧ y = false ∧ 0 < b ∧ a < c) ∨ (x = false ∧ (b ≤ 0 ∨ c ≤ a))))
    (c1 : Hid (InT a → InT b → InT c → ∀ W, Calls Try.prog 23 #[.int .i64 a, .int .i64 b, .int .i64 b, .int .i64 c] W fun E w' => E = .returned (.tuple #[.bool x, .int .i64 0]) ∧ Below W.heap.size W w'))
    (c2 : Hid (InT a → InT b → InT c → ∀ W, Calls Try.prog 23 #[.int .i64 b, .int .i64 c, .int .i64 a, .int .i64 b] W fun E w' => E = .returned (.tuple #[.bool y, .int .i64 0]) ∧ Below W.heap.size W w'))
    (c3 : Hid (InT a → InT b → InT c → ∀ W, Calls Try.prog 23 #[.int .i64 a, .int .i64 c, .int .i64 c, .int .i64 a] W fun E w' => E = .returned (.tuple #[.bool false, .int .i64 0]) ∧ Below W.heap.size W w'))
    (c4 : Hid (∀ W, Calls Try.prog 25 #[.agg #[.int .u64 ah, .int .u64 al], .agg #[.int .u64 bh, .int .u64 bl]] W fun E w' => E = .returned (.tuple #[.agg #[.int .u64 hh, .int .u64 lo], .int .i64 er]) ∧ Below W.heap.size W w'))
    (c5 : Hid (∀ W, Calls Try.prog 25 #[.agg #[.int .u64 bh, .int .u64 bl], .agg #[.int .u64 ah, .int .u64 al]] W fun E w' => E = .returned (.tuple #[.agg #[.int .u64 hh, .int .u64 lo], .int .i64 er]) ∧ Below W.heap.size W w'))
    (hm : Hid (InT a → InT b → InT c → c ≠ 0 → a ≤ 1048576 → m ≤ n ∧ o ≤ m ∧ m ≤ u ∧ u ≤ m + 1 ∧ 0 ≤ m ∧ m ≤ 9223372036854775806))
    (d1 : Hid (InT a → InT b → InT c → c ≠ 0 → a ≤ 1048576 → ∀ W, Calls Try.prog 28 #[.int .i64 a, .int .i64 b, .int .i64 c, .bool false] W fun E w' => E = .returned (.tuple #[.int .i64 m, .int .i64 0]) ∧ Below W.heap.size W w'))
    (d2 : Hid (InT a → InT b → InT c → c ≠ 0 → a ≤ 1048576 → ∀ W, Calls Try.prog 28 #[.int .i64 (a + 1), .int .i64 b, .int .i64 c, .bool false] W fun E w' => E = .returned (.tuple #[.int .i64 n, .int .i64 0]) ∧ Below W.heap.size W w'))
    (d3 : Hid (InT a → InT b → InT c → c ≠ 0 → a ≤ 1048576 → ∀ W, Calls Try.prog 28 #[.int .i64 a, .int .i64 b, .int .i64 (c + 1), .bool false] W fun E w' => E = .returned (.tuple #[.int .i64 o, .int .i64 0]) ∧ Below W.heap.size W w'))
    (d4 : Hid (InT a → InT b → InT c → c ≠ 0 → a ≤ 1048576 → ∀ W, Calls Try.prog 28 #[.int .i64 a, .int .i64 b, .int .i64 c, .bool true] W fun E w' => E = .returned (.tuple #[.int .i64 u, .int .i64 0]) ∧ Below W.heap.size W w'))
    (cA : Hid (∀ W, Calls Try.prog 11 #[] W fun E w' => E = .returned (.bool true) ∧ Below W.heap.size W w'))
    (L1 : Hid (ltW ah al bh bl = true)) (L2 : Hid (ltW bh bl ah al = false)) (w : World) :
    Calls Try.prog 9 #[.agg #[.int .i64 a, .int .i64 b, .int .i64 c], .agg #[.int .u64 ah, .int .u64 al], .agg #[.int .u64 bh, .int .u64 bl]] w fun E w' => E = .returned (.bool true) ∧ Below w.heap.size w w' := by
  go_enter Try.func9, Try.ntmps9
  go_wp2_with fail
  go_loop [7] (fun i => ∃ k : Nat, k ≤ 3 ∧ i = .int .i64 k ∧ Hid ((1 ≤ k → InT a) ∧ (2 ≤ k → InT b) ∧ (3 ≤ k → InT c))) (fun i => 3 - (intOf i).toNat)
  case atStart => exact ⟨0, by omega, rfl, by omega, by omega, by omega⟩
  case round =>
    obtain ⟨k, hk, rfl, HK⟩ := hrel
    obtain rfl | rfl | rfl | rfl : k = 0 ∨ k = 1 ∨ k = 2 ∨ k = 3 := by omega
    · by_cases h1 : a < 0
      · have h1' : decide (a < 0) = true := by simpa using h1
        go_wp2_with (go_at_call 11; refine (cA.out _).mono ?_; rintro E w' ⟨rfl, hb1⟩)
        go_ret
        exact ⟨rfl, below_alloc (below_alloc (below_alloc hb1))⟩
      have h1' : decide (a < 0) = false := by simpa using h1
      by_cases h2 : 1099511627776 < a
      · have h2' : decide (1099511627776 < a) = true := by simpa using h2
        go_wp2_with (go_at_call 11; refine (cA.out _).mono ?_; rintro E w' ⟨rfl, hb1⟩)
        go_ret
        exact ⟨rfl, below_alloc (below_alloc (below_alloc hb1))⟩
      have h2' : decide (1099511627776 < a) = false := by simpa using h2
      have HA : Hid (InT a) := ⟨by omega, by omega⟩
      clear h1 h2
      go_wp2_with fail
      exact ⟨⟨1, by omega, by go_num, fun _ => HA.out, by omega, by omega⟩, by simp [intOf]⟩
    · by_cases h1 : b < 0
      · have h1' : decide (b < 0) = true := by simpa using h1
        go_wp2_with (go_at_call 11; refine (cA.out _).mono ?_; rintro E w' ⟨rfl, hb1⟩)
        go_ret
        exact ⟨rfl, below_alloc (below_alloc (below_alloc hb1))⟩
      have h1' : decide (b < 0) = false := by simpa using h1
      by_cases h2 : 1099511627776 < b
      · have h2' : decide (1099511627776 < b) = true := by simpa using h2
        go_wp2_with (go_at_call 11; refine (cA.out _).mono ?_; rintro E w' ⟨rfl, hb1⟩)
        go_ret
        exact ⟨rfl, below_alloc (below_alloc (below_alloc hb1))⟩
      have h2' : decide (1099511627776 < b) = false := by simpa using h2
      have HA : Hid (InT b) := ⟨by omega, by omega⟩
      clear h1 h2
      go_wp2_with fail
      exact ⟨⟨2, by omega, by go_num, fun _ => HK.out.1 (by omega), fun _ => HA.out, by omega⟩, by simp [intOf]⟩
    · by_cases h1 : c < 0
      · have h1' : decide (c < 0) = true := by simpa using h1
        go_wp2_with (go_at_call 11; refine (cA.out _).mono ?_; rintro E w' ⟨rfl, hb1⟩)
        go_ret
        exact ⟨rfl, below_alloc (below_alloc (below_alloc hb1))⟩
      have h1' : decide (c < 0) = false := by simpa using h1
      by_cases h2 : 1099511627776 < c
      · have h2' : decide (1099511627776 < c) = true := by simpa using h2
        go_wp2_with (go_at_call 11; refine (cA.out _).mono ?_; rintro E w' ⟨rfl, hb1⟩)
        go_ret
        exact ⟨rfl, below_alloc (below_alloc (below_alloc hb1))⟩
      have h2' : decide (1099511627776 < c) = false := by simpa using h2
      have HA : Hid (InT c) := ⟨by omega, by omega⟩
      clear h1 h2
      go_wp2_with fail
      exact ⟨⟨3, by omega, by go_num, fun _ => HK.out.1 (by omega), fun _ => HK.out.2.1 (by omega), fun _ => HA.out⟩, by simp [intOf]⟩
    · have ha := HK.out.1 (by omega)
      have hb := HK.out.2.1 (by omega)
      have hc := HK.out.2.2 (by omega)
      have hx' := Lib.hid (hx.out ha hb hc)
      have k1 := Lib.hid (c1.out ha hb hc)
      have k2 := Lib.hid (c2.out ha hb hc)
      have k3 := Lib.hid (c3.out ha hb hc)
      have km := Lib.hid (hm.out ha hb hc)
      have f1 := Lib.hid (d1.out ha hb hc)
      have f2 := Lib.hid (d2.out ha hb hc)
      have f3 := Lib.hid (d3.out ha hb hc)
      have f4 := Lib.hid (d4.out ha hb hc)
      obtain ⟨a0, a1⟩ := ha
      obtain ⟨b0, b1⟩ := hb
      obtain ⟨c0, c1'⟩ := hc
      clear HK hx c1 c2 c3 hm d1 d2 d3 d4
      have H0 := Lib.hid (Hold.start w a b c ah al bh bl 50 39 39)
      go_wp2_with fail
      refine (k1.out _).mono ?_
      rintro E w1 ⟨rfl, hb1⟩
      have H1 := Lib.hid (H0.out.next hb1)
      obtain ⟨_, _, ⟨p10, p11, p12⟩, ⟨q10, q11⟩, ⟨r10, r11⟩⟩ := H1.out
      go_wp2_with fail
      refine (k2.out _).mono ?_
      rintro E w2 ⟨rfl, hb2⟩
      have H2 := Lib.hid (H1.out.next hb2)
      obtain ⟨_, _, ⟨p20, p21, p22⟩, ⟨q20, q21⟩, ⟨r20, r21⟩⟩ := H2.out
      go_wp2_with fail
      refine (k3.out _).mono ?_
      rintro E w3 ⟨rfl, hb3⟩
      have H3 := Lib.hid (H2.out.next hb3)
      obtain ⟨_, _, ⟨p30, p31, p32⟩, ⟨q30, q31⟩, ⟨r30, r31⟩⟩ := H3.out
      go_upto_region 9 with (fail)
      go_cut [109] (fun s109 wc => s109 = .bool false ∧ w3 = wc)
      case first =>
        rcases hx'.out with ⟨rfl, rfl, g1, g2⟩ | ⟨rfl, g⟩
        · have g1' : decide (0 < b) = true := by simpa using g1
          have g2' : decide (a < c) = true := by simpa using g2
          go_wp2_with fail
          go_meet
          case rel => exact ⟨rfl, rfl⟩
        · by_cases g1 : 0 < b
          · have g1' : decide (0 < b) = true := by simpa using g1
            have g2' : decide (a < c) = false := by simp; omega
            go_wp2_with fail
            go_meet
            case rel => exact ⟨rfl, rfl⟩
          · have g1' : decide (0 < b) = false := by simpa using g1
            go_wp2_with fail
            go_meet
            case rel => exact ⟨rfl, rfl⟩
      case rest =>
        obtain ⟨rfl, rfl⟩ := hcut
        clear hx' k1 k2 k3 H0 H1 H2 p10 p11 p12 q10 q11 r10 r11 p20 p21 p22 q20 q21 r20 r21
        go_wp2_with fail
        refine (c4.out _).mono ?_
        rintro E w4 ⟨rfl, hb4⟩
        have H4 := Lib.hid (H3.out.next hb4)
        obtain ⟨q40, q41⟩ : (∀ o, (w4.alloc o).cell? ⟨w.heap.size + 1, 0, none⟩ = some (.int .u64 ah)) ∧ (∀ o, (w4.alloc o).cell? ⟨w.heap.size + 1, 1, none⟩ = some (.int .u64 al)) :=
          ⟨fun o => (H4.out.alloc o).2.2.2.1.1, fun o => (H4.out.alloc o).2.2.2.1.2⟩
        obtain ⟨r40, r41⟩ : (∀ o, (w4.alloc o).cell? ⟨w.heap.size + 1 + 1, 0, none⟩ = some (.int .u64 bh)) ∧ (∀ o, (w4.alloc o).cell? ⟨w.heap.size + 1 + 1, 1, none⟩ = some (.int .u64 bl)) :=
          ⟨fun o => (H4.out.alloc o).2.2.2.2.1, fun o => (H4.out.alloc o).2.2.2.2.2⟩
        clear p30 p31 p32 q30 q31 r30 r31
        go_wp2_with fail
        refine (c5.out _).mono ?_
        rintro E w5 ⟨rfl, hb5⟩
        have H5 := Lib.hid ((H4.out.alloc _).next hb5)
        have HC := Lib.hid (keep_new hb5)
        clear q40 q41 r40 r41
        go_upto_region 13 with (fail)
        have H6 := Lib.hid (H5.out.alloc (.cells #[.int .u64 hh, .int .u64 lo] 39))
        obtain ⟨n1, n2, n3⟩ := HC.out
        have n4 : (w5.alloc (.cells #[.int .u64 hh, .int .u64 lo] 39)).cell? ⟨w4.heap.size, 0, none⟩ = some (.int .u64 hh) := cell_stays n2
        have n5 : (w5.alloc (.cells #[.int .u64 hh, .int .u64 lo] 39)).cell? ⟨w4.heap.size, 1, none⟩ = some (.int .u64 lo) := cell_stays n3
        have n6 : (w5.alloc (.cells #[.int .u64 hh, .int .u64 lo] 39)).cell? ⟨w5.heap.size, 0, none⟩ = some (.int .u64 hh) := by simp [go_sem]
        have n7 : (w5.alloc (.cells #[.int .u64 hh, .int .u64 lo] 39)).cell? ⟨w5.heap.size, 1, none⟩ = some (.int .u64 lo) := by simp [go_sem]
        clear n1 n2 n3 HC H5 H4 H3 hb5 hb4 hb3 hb2 hb1
        generalize w5.alloc (.cells #[.int .u64 hh, .int .u64 lo] 39) = W6 at *
        generalize w4.heap.size = g4 at *
        generalize w5.heap.size = g5 at *
        obtain ⟨_, _, _, ⟨m1, m2⟩, ⟨m3, m4⟩⟩ := H6.out
        go_cut [155] (fun s155 wc => s155 = .bool false ∧ Hold w wc a b c ah al bh bl)
        case first =>
          have HS : Side w a b c ah al bh bl g4 g5 hh lo W6 := ⟨H6.out, ⟨n4, n5⟩, ⟨n6, n7⟩⟩
          have HSd := Lib.hid (show Side w a b c ah al bh bl g4 g5 hh lo W6.drew from ⟨HS.1.drew, HS.2.1, HS.2.2⟩)
          clear HS H6 n4 n5 n6 n7 m1 m2 m3 m4 km f1 f2 f3 f4 c4 c5 cA
          have cL1 := Lib.hid (fun W => wless_any ah al bh bl W)
          have cL2 := Lib.hid (fun W => wless_any bh bl ah al W)
          obtain ⟨_, E1⟩ := ltW_asym L1.out
          rw [L1.out] at cL1
          rw [L2.out] at cL2
          clear L1 L2
          refine region_known 122 [.agg #[.int .u64 hh, .int .u64 lo], .agg #[.int .u64 hh, .int .u64 lo], .bool false, .bool false, .int .i64 er, .int .i64 er, .bool false, .bool false, .bool false, .agg #[.int .u64 ah, .int .u64 al], .agg #[.int .u64 bh, .int .u64 bl], .bool true, .bool true, .agg #[.int .u64 bh, .int .u64 bl], .agg #[.int .u64 ah, .int .u64 al], .bool false, .bool false, .bool false, .bool false, .agg #[.int .u64 ah, .int .u64 al], .agg #[.int .u64 bh, .int .u64 bl], .bool false, .agg #[.int .u64 ah, .int .u64 al], .agg #[.int .u64 bh, .int .u64 bl], .bool true, .bool false, .bool false, undef, undef, undef, undef, .bool false, .bool false, .bool false] (fun W => Side w a b c ah al bh bl g4 g5 hh lo W) (by kernel_rfl) (by rfl) (by simp) HSd.out ?steps ?post
          case post =>
            intro W7 h7
            have H7 := Lib.hid h7.1
            clear h7
            simp only [patch, List.take_succ_cons, List.drop_succ_cons, List.take_zero, List.drop_zero, List.cons_append, List.nil_append, List.length_cons, List.length_nil]
            go_wp2_with fail
            go_meet
            case rel => exact ⟨rfl, H7.out⟩
          case steps =>
            simp only [AllSteps]
            refine ⟨?s0, ?s1, ?s2, ?s3, ?s4, ?s5, ?s6, ?s7, ?s8, ?s9, ?s10, ?s11, ?s12, ?s13, ?s14, ?s15, ?s16, ?s17, ?s18, ?s19, ?s20, ?s21, ?s22, ?s23, ?s24, ?s25, ?s26, ?s27, ?s28, ?s29, ?s30, ?s31, ?s32, ?s33, trivial⟩
            case s0 =>
              refine ⟨⟨rfl, by kernel_rfl⟩, fun fa fw fv hv hS hsee => ?_⟩
              simp only [List.getElem?_cons_zero, List.getElem?_cons_succ, Option.some.injEq] at hv
              subst hv
              have hSS := Lib.hid hS
              obtain ⟨hs1, d⟩ := hsee
              refine if_free rfl ?_
              intro K' hK
              have t : fa.tmps[14]? = some (.pointer (some ⟨g4, 0, none⟩)) := (hs1 14 (by decide)).trans rfl
              simp only [Oper.wp, execOp, Act.eval, Array.getD_eq_getD_getElem?, t, Option.getD_some]
              obtain ⟨⟨_, _, _, ⟨c1, c2⟩, ⟨c3, c4⟩⟩, ⟨c5, c6⟩, ⟨c7, c8⟩⟩ := hS
              exact upon_of (load_wide _ _ _ fw c5 c6) (hK fw hSS.out)
            case s1 =>
              refine ⟨⟨rfl, by kernel_rfl⟩, fun fa fw fv hv hS hsee => ?_⟩
              simp only [List.getElem?_cons_zero, List.getElem?_cons_succ, Option.some.injEq] at hv
              subst hv
              have hSS := Lib.hid hS
              obtain ⟨hs1, d⟩ := hsee
              refine if_free rfl ?_
              intro K' hK
              have t : fa.tmps[16]? = some (.pointer (some ⟨g5, 0, none⟩)) := (hs1 16 (by decide)).trans rfl
              simp only [Oper.wp, execOp, Act.eval, Array.getD_eq_getD_getElem?, t, Option.getD_some]
              obtain ⟨⟨_, _, _, ⟨c1, c2⟩, ⟨c3, c4⟩⟩, ⟨c5, c6⟩, ⟨c7, c8⟩⟩ := hS
              exact upon_of (load_wide _ _ _ fw c7 c8) (hK fw hSS.out)
            case s2 =>
              refine ⟨⟨rfl, by kernel_rfl⟩, fun fa fw fv hv hS hsee => ?_⟩
              simp only [List.getElem?_cons_zero, List.getElem?_cons_succ, Option.some.injEq] at hv
              subst hv
              obtain ⟨hs1, d⟩ := hsee
              simp [Region.binds] at d
              refine if_free rfl ?_
              intro K' hK
              simp only [Oper.wp, execOp, Act.eval, Array.getD_eq_getD_getElem?, d, Option.getD_some]
              refine upon_of ?_ (hK fw hS)
              go_simp
            case s3 =>
              refine ⟨⟨rfl, by kernel_rfl⟩, fun fa fw fv hv hS hsee => ?_⟩
              simp only [List.getElem?_cons_zero, List.getElem?_cons_succ, Option.some.injEq] at hv
              subst hv
              obtain ⟨hs1, d⟩ := hsee
              simp [Region.binds] at d
              refine if_free rfl ?_
              intro K' hK
              simp only [Oper.wp, execOp, Act.eval, Array.getD_eq_getD_getElem?, d, Option.getD_some]
              exact hK fw hS
            case s4 =>
              refine ⟨⟨rfl, by kernel_rfl⟩, fun fa fw fv hv hS hsee => ?_⟩
              simp only [List.getElem?_cons_zero, List.getElem?_cons_succ, Option.some.injEq] at hv
              subst hv
              obtain ⟨hs1, d⟩ := hsee
              simp [Region.binds] at d
              refine if_wanted 3 125 false rfl rfl (by simp only [d]) ?_
              intro K' hK
              have t : fa.tmps[15]? = some (.int .i64 er) := (hs1 15 (by decide)).trans rfl
              simp only [Oper.wp, execOp, Act.eval, Array.getD_eq_getD_getElem?, t, Option.getD_some]
              exact hK fw hS
            case s5 =>
              refine ⟨⟨rfl, by kernel_rfl⟩, fun fa fw fv hv hS hsee => ?_⟩
              simp only [List.getElem?_cons_zero, List.getElem?_cons_succ, Option.some.injEq] at hv
              subst hv
              obtain ⟨hs1, d⟩ := hsee
              simp [Region.binds] at d
              refine if_wanted 3 125 false rfl rfl (by simp only [d]) ?_
              intro K' hK
              have t : fa.tmps[17]? = some (.int .i64 er) := (hs1 17 (by decide)).trans rfl
              simp only [Oper.wp, execOp, Act.eval, Array.getD_eq_getD_getElem?, t, Option.getD_some]
              exact hK fw hS
            case s6 =>
              refine ⟨⟨rfl, by kernel_rfl⟩, fun fa fw fv hv hS hsee => ?_⟩
              simp only [List.getElem?_cons_zero, List.getElem?_cons_succ, Option.some.injEq] at hv
              subst hv
              obtain ⟨hs1, d⟩ := hsee
              simp [Region.binds] at d
              refine if_wanted 3 125 false rfl rfl (by simp only [d]) ?_
              intro K' hK
              simp only [Oper.wp, execOp, Act.eval, Array.getD_eq_getD_getElem?, d, Option.getD_some]
              refine upon_of ?_ (hK fw hS)
              go_simp
            case s7 =>
              refine ⟨⟨rfl, by kernel_rfl⟩, fun fa fw fv hv hS hsee => ?_⟩
              simp only [List.getElem?_cons_zero, List.getElem?_cons_succ, Option.some.injEq] at hv
              subst hv
              obtain ⟨hs1, d⟩ := hsee
              simp [Region.binds] at d
              refine if_free rfl ?_
              intro K' hK
              simp only [Oper.wp, execOp, Act.eval, Array.getD_eq_getD_getElem?, d, Option.getD_some]
              exact hK fw hS
            case s8 =>
              refine ⟨⟨rfl, by kernel_rfl⟩, fun fa fw fv hv hS hsee => ?_⟩
              simp only [List.getElem?_cons_zero, List.getElem?_cons_succ, Option.some.injEq] at hv
              subst hv
              obtain ⟨hs1, d⟩ := hsee
              simp [Region.binds] at d
              refine if_free rfl ?_
              intro K' hK
              simp only [Oper.wp, execOp, Act.eval, Array.getD_eq_getD_getElem?, d, Option.getD_some]
              exact hK fw hS
            case s9 =>
              refine ⟨⟨rfl, by kernel_rfl⟩, fun fa fw fv hv hS hsee => ?_⟩
              simp only [List.getElem?_cons_zero, List.getElem?_cons_succ, Option.some.injEq] at hv
              subst hv
              have hSS := Lib.hid hS
              obtain ⟨hs1, d⟩ := hsee
              simp [Region.binds] at d
              refine if_wanted 8 130 false rfl rfl (by simp only [d]) ?_
              intro K' hK
              have t : fa.tmps[4]? = some (.pointer (some ⟨w.heap.size + 1, 0, none⟩)) := (hs1 4 (by decide)).trans rfl
              simp only [Oper.wp, execOp, Act.eval, Array.getD_eq_getD_getElem?, t, Option.getD_some]
              obtain ⟨⟨_, _, _, ⟨c1, c2⟩, ⟨c3, c4⟩⟩, ⟨c5, c6⟩, ⟨c7, c8⟩⟩ := hS
              exact upon_of (load_wide _ _ _ fw c1 c2) (hK fw hSS.out)
            case s10 =>
              refine ⟨⟨rfl, by kernel_rfl⟩, fun fa fw fv hv hS hsee => ?_⟩
              simp only [List.getElem?_cons_zero, List.getElem?_cons_succ, Option.some.injEq] at hv
              subst hv
              have hSS := Lib.hid hS
              obtain ⟨hs1, d⟩ := hsee
              simp [Region.binds] at d
              refine if_wanted 8 130 false rfl rfl (by simp only [d]) ?_
              intro K' hK
              have t : fa.tmps[5]? = some (.pointer (some ⟨w.heap.size + 1 + 1, 0, none⟩)) := (hs1 5 (by decide)).trans rfl
              simp only [Oper.wp, execOp, Act.eval, Array.getD_eq_getD_getElem?, t, Option.getD_some]
              obtain ⟨⟨_, _, _, ⟨c1, c2⟩, ⟨c3, c4⟩⟩, ⟨c5, c6⟩, ⟨c7, c8⟩⟩ := hS
              exact upon_of (load_wide _ _ _ fw c3 c4) (hK fw hSS.out)
            case s11 =>
              refine ⟨⟨rfl, by kernel_rfl⟩, fun fa fw fv hv hS hsee => ?_⟩
              simp only [List.getElem?_cons_zero, List.getElem?_cons_succ, Option.some.injEq] at hv
              subst hv
              obtain ⟨hs1, d⟩ := hsee
              simp [Region.binds] at d
              refine if_wanted 8 130 false rfl rfl (by simp only [d]) ?_
              intro K' hK
              have e1 : fa.tmps[131]? = some (.agg #[.int .u64 ah, .int .u64 al]) := by simp only [d]
              have e2 : fa.tmps[132]? = some (.agg #[.int .u64 bh, .int .u64 bl]) := by simp only [d]
              simp only [Oper.wp, execOp]
              refine upon_call _ _ (v := .bool true) (run_less fa fw _ _ _ _ e1 e2) ?_
              refine (cL1.out _).mono ?_
              rintro e w' ⟨rfl, hb⟩
              exact ⟨rfl, hK w' (hS.next hb)⟩
            case s12 =>
              refine ⟨⟨rfl, by kernel_rfl⟩, fun fa fw fv hv hS hsee => ?_⟩
              simp only [List.getElem?_cons_zero, List.getElem?_cons_succ, Option.some.injEq] at hv
              subst hv
              obtain ⟨hs1, d⟩ := hsee
              simp [Region.binds] at d
              refine if_wanted 8 130 false rfl rfl (by simp only [d]) ?_
              intro K' hK
              simp only [Oper.wp, execOp, Act.eval, Array.getD_eq_getD_getElem?, d, Option.getD_some]
              exact hK fw hS
            case s13 =>
              refine ⟨⟨rfl, by kernel_rfl⟩, fun fa fw fv hv hS hsee => ?_⟩
              simp only [List.getElem?_cons_zero, List.getElem?_cons_succ, Option.some.injEq] at hv
              subst hv
              have hSS := Lib.hid hS
              obtain ⟨hs1, d⟩ := hsee
              simp [Region.binds] at d
              refine if_wanted 12 134 true rfl rfl (by simp only [d]) ?_
              intro K' hK
              have t : fa.tmps[5]? = some (.pointer (some ⟨w.heap.size + 1 + 1, 0, none⟩)) := (hs1 5 (by decide)).trans rfl
              simp only [Oper.wp, execOp, Act.eval, Array.getD_eq_getD_getElem?, t, Option.getD_some]
              obtain ⟨⟨_, _, _, ⟨c1, c2⟩, ⟨c3, c4⟩⟩, ⟨c5, c6⟩, ⟨c7, c8⟩⟩ := hS
              exact upon_of (load_wide _ _ _ fw c3 c4) (hK fw hSS.out)
            case s14 =>
              refine ⟨⟨rfl, by kernel_rfl⟩, fun fa fw fv hv hS hsee => ?_⟩
              simp only [List.getElem?_cons_zero, List.getElem?_cons_succ, Option.some.injEq] at hv
              subst hv
              have hSS := Lib.hid hS
              obtain ⟨hs1, d⟩ := hsee
              simp [Region.binds] at d
              refine if_wanted 12 134 true rfl rfl (by simp only [d]) ?_
              intro K' hK
              have t : fa.tmps[4]? = some (.pointer (some ⟨w.heap.size + 1, 0, none⟩)) := (hs1 4 (by decide)).trans rfl
              simp only [Oper.wp, execOp, Act.eval, Array.getD_eq_getD_getElem?, t, Option.getD_some]
              obtain ⟨⟨_, _, _, ⟨c1, c2⟩, ⟨c3, c4⟩⟩, ⟨c5, c6⟩, ⟨c7, c8⟩⟩ := hS
              exact upon_of (load_wide _ _ _ fw c1 c2) (hK fw hSS.out)
            case s15 =>
              refine ⟨⟨rfl, by kernel_rfl⟩, fun fa fw fv hv hS hsee => ?_⟩
              simp only [List.getElem?_cons_zero, List.getElem?_cons_succ, Option.some.injEq] at hv
              subst hv
              obtain ⟨hs1, d⟩ := hsee
              simp [Region.binds] at d
              refine if_wanted 12 134 true rfl rfl (by simp only [d]) ?_
              intro K' hK
              have e1 : fa.tmps[135]? = some (.agg #[.int .u64 bh, .int .u64 bl]) := by simp only [d]
              have e2 : fa.tmps[136]? = some (.agg #[.int .u64 ah, .int .u64 al]) := by simp only [d]
              simp only [Oper.wp, execOp]
              refine upon_call _ _ (v := .bool false) (run_less fa fw _ _ _ _ e1 e2) ?_
              refine (cL2.out _).mono ?_
              rintro e w' ⟨rfl, hb⟩
              exact ⟨rfl, hK w' (hS.next hb)⟩
            case s16 =>
              refine ⟨⟨rfl, by kernel_rfl⟩, fun fa fw fv hv hS hsee => ?_⟩
              simp only [List.getElem?_cons_zero, List.getElem?_cons_succ, Option.some.injEq] at hv
              subst hv
              obtain ⟨hs1, d⟩ := hsee
              simp [Region.binds] at d
              refine if_wanted 8 130 false rfl rfl (by simp only [d]) ?_
              intro K' hK
              simp only [Oper.wp, execOp, Act.eval, Array.getD_eq_getD_getElem?, d, Option.getD_some]
              exact hK fw hS
            case s17 =>
              refine ⟨⟨rfl, by kernel_rfl⟩, fun fa fw fv hv hS hsee => ?_⟩
              simp only [List.getElem?_cons_zero, List.getElem?_cons_succ, Option.some.injEq] at hv
              subst hv
              obtain ⟨hs1, d⟩ := hsee
              simp [Region.binds] at d
              refine if_free rfl ?_
              intro K' hK
              simp only [Oper.wp, execOp, Act.eval, Array.getD_eq_getD_getElem?, d, Option.getD_some]
              exact hK fw hS
            case s18 =>
              refine ⟨⟨rfl, by kernel_rfl⟩, fun fa fw fv hv hS hsee => ?_⟩
              simp only [List.getElem?_cons_zero, List.getElem?_cons_succ, Option.some.injEq] at hv
              subst hv
              obtain ⟨hs1, d⟩ := hsee
              simp [Region.binds] at d
              refine if_free rfl ?_
              intro K' hK
              simp only [Oper.wp, execOp, Act.eval, Array.getD_eq_getD_getElem?, d, Option.getD_some]
              exact hK fw hS
            case s19 =>
              refine ⟨⟨rfl, by kernel_rfl⟩, fun fa fw fv hv hS hsee => ?_⟩
              simp only [List.getElem?_cons_zero, List.getElem?_cons_succ, Option.some.injEq] at hv
              subst hv
              have hSS := Lib.hid hS
              obtain ⟨hs1, d⟩ := hsee
              simp [Region.binds] at d
              refine if_wanted 18 140 false rfl rfl (by simp only [d]) ?_
              intro K' hK
              have t : fa.tmps[4]? = some (.pointer (some ⟨w.heap.size + 1, 0, none⟩)) := (hs1 4 (by decide)).trans rfl
              simp only [Oper.wp, execOp, Act.eval, Array.getD_eq_getD_getElem?, t, Option.getD_some]
              obtain ⟨⟨_, _, _, ⟨c1, c2⟩, ⟨c3, c4⟩⟩, ⟨c5, c6⟩, ⟨c7, c8⟩⟩ := hS
              exact upon_of (load_wide _ _ _ fw c1 c2) (hK fw hSS.out)
            case s20 =>
              refine ⟨⟨rfl, by kernel_rfl⟩, fun fa fw fv hv hS hsee => ?_⟩
              simp only [List.getElem?_cons_zero, List.getElem?_cons_succ, Option.some.injEq] at hv
              subst hv
              have hSS := Lib.hid hS
              obtain ⟨hs1, d⟩ := hsee
              simp [Region.binds] at d
              refine if_wanted 18 140 false rfl rfl (by simp only [d]) ?_
              intro K' hK
              have t : fa.tmps[5]? = some (.pointer (some ⟨w.heap.size + 1 + 1, 0, none⟩)) := (hs1 5 (by decide)).trans rfl
              simp only [Oper.wp, execOp, Act.eval, Array.getD_eq_getD_getElem?, t, Option.getD_some]
              obtain ⟨⟨_, _, _, ⟨c1, c2⟩, ⟨c3, c4⟩⟩, ⟨c5, c6⟩, ⟨c7, c8⟩⟩ := hS
              exact upon_of (load_wide _ _ _ fw c3 c4) (hK fw hSS.out)
            case s21 =>
              refine ⟨⟨rfl, by kernel_rfl⟩, fun fa fw fv hv hS hsee => ?_⟩
              simp only [List.getElem?_cons_zero, List.getElem?_cons_succ, Option.some.injEq] at hv
              subst hv
              obtain ⟨hs1, d⟩ := hsee
              simp [Region.binds] at d
              refine if_wanted 18 140 false rfl rfl (by simp only [d]) ?_
              intro K' hK
              simp only [Oper.wp, execOp, Act.eval, Array.getD_eq_getD_getElem?, d, Option.getD_some]
              refine upon_of ?_ (hK fw hS)
              rcases E1 with E1 | E1 <;> go_simp
            case s22 =>
              refine ⟨⟨rfl, by kernel_rfl⟩, fun fa fw fv hv hS hsee => ?_⟩
              simp only [List.getElem?_cons_zero, List.getElem?_cons_succ, Option.some.injEq] at hv
              subst hv
              have hSS := Lib.hid hS
              obtain ⟨hs1, d⟩ := hsee
              simp [Region.binds] at d
              refine if_wanted 18 140 false rfl rfl (by simp only [d]) ?_
              intro K' hK
              have t : fa.tmps[4]? = some (.pointer (some ⟨w.heap.size + 1, 0, none⟩)) := (hs1 4 (by decide)).trans rfl
              simp only [Oper.wp, execOp, Act.eval, Array.getD_eq_getD_getElem?, t, Option.getD_some]
              obtain ⟨⟨_, _, _, ⟨c1, c2⟩, ⟨c3, c4⟩⟩, ⟨c5, c6⟩, ⟨c7, c8⟩⟩ := hS
              exact upon_of (load_wide _ _ _ fw c1 c2) (hK fw hSS.out)
            case s23 =>
              refine ⟨⟨rfl, by kernel_rfl⟩, fun fa fw fv hv hS hsee => ?_⟩
              simp only [List.getElem?_cons_zero, List.getElem?_cons_succ, Option.some.injEq] at hv
              subst hv
              have hSS := Lib.hid hS
              obtain ⟨hs1, d⟩ := hsee
              simp [Region.binds] at d
              refine if_wanted 18 140 false rfl rfl (by simp only [d]) ?_
              intro K' hK
              have t : fa.tmps[5]? = some (.pointer (some ⟨w.heap.size + 1 + 1, 0, none⟩)) := (hs1 5 (by decide)).trans rfl
              simp only [Oper.wp, execOp, Act.eval, Array.getD_eq_getD_getElem?, t, Option.getD_some]
              obtain ⟨⟨_, _, _, ⟨c1, c2⟩, ⟨c3, c4⟩⟩, ⟨c5, c6⟩, ⟨c7, c8⟩⟩ := hS
              exact upon_of (load_wide _ _ _ fw c3 c4) (hK fw hSS.out)
            case s24 =>
              refine ⟨⟨rfl, by kernel_rfl⟩, fun fa fw fv hv hS hsee => ?_⟩
              simp only [List.getElem?_cons_zero, List.getElem?_cons_succ, Option.some.injEq] at hv
              subst hv
              obtain ⟨hs1, d⟩ := hsee
              simp [Region.binds] at d
              refine if_wanted 18 140 false rfl rfl (by simp only [d]) ?_
              intro K' hK
              have e1 : fa.tmps[144]? = some (.agg #[.int .u64 ah, .int .u64 al]) := by simp only [d]
              have e2 : fa.tmps[145]? = some (.agg #[.int .u64 bh, .int .u64 bl]) := by simp only [d]
              simp only [Oper.wp, execOp]
              refine upon_call _ _ (v := .bool true) (run_less fa fw _ _ _ _ e1 e2) ?_
              refine (cL1.out _).mono ?_
              rintro e w' ⟨rfl, hb⟩
              exact ⟨rfl, hK w' (hS.next hb)⟩
            case s25 =>
              refine ⟨⟨rfl, by kernel_rfl⟩, fun fa fw fv hv hS hsee => ?_⟩
              simp only [List.getElem?_cons_zero, List.getElem?_cons_succ, Option.some.injEq] at hv
              subst hv
              obtain ⟨hs1, d⟩ := hsee
              simp [Region.binds] at d
              refine if_wanted 18 140 false rfl rfl (by simp only [d]) ?_
              intro K' hK
              simp only [Oper.wp, execOp, Act.eval, Array.getD_eq_getD_getElem?, d, Option.getD_some]
              exact hK fw hS
            case s26 =>
              refine ⟨⟨rfl, by kernel_rfl⟩, fun fa fw fv hv hS hsee => ?_⟩
              simp only [List.getElem?_cons_zero, List.getElem?_cons_succ, Option.some.injEq] at hv
              subst hv
              obtain ⟨hs1, d⟩ := hsee
              simp [Region.binds] at d
              refine if_wanted 18 140 false rfl rfl (by simp only [d]) ?_
              intro K' hK
              simp only [Oper.wp, execOp, Act.eval, Array.getD_eq_getD_getElem?, d, Option.getD_some]
              exact hK fw hS
            case s27 =>
              refine ⟨⟨rfl, by kernel_rfl⟩, fun fa fw fv hv hS hsee => ?_⟩
              simp only [List.getElem?_cons_zero, List.getElem?_cons_succ, Option.some.injEq] at hv
              subst hv
              obtain ⟨hs1, d⟩ := hsee
              simp [Region.binds] at d
              exact if_unwanted 26 148 false rfl rfl (by simp only [d])
            case s28 =>
              refine ⟨⟨rfl, by kernel_rfl⟩, fun fa fw fv hv hS hsee => ?_⟩
              simp only [List.getElem?_cons_zero, List.getElem?_cons_succ, Option.some.injEq] at hv
              subst hv
              obtain ⟨hs1, d⟩ := hsee
              simp [Region.binds] at d
              exact if_unwanted 26 148 false rfl rfl (by simp only [d])
            case s29 =>
              refine ⟨⟨rfl, by kernel_rfl⟩, fun fa fw fv hv hS hsee => ?_⟩
              simp only [List.getElem?_cons_zero, List.getElem?_cons_succ, Option.some.injEq] at hv
              subst hv
              obtain ⟨hs1, d⟩ := hsee
              simp [Region.binds] at d
              exact if_unwanted 26 148 false rfl rfl (by simp only [d])
            case s30 =>
              refine ⟨⟨rfl, by kernel_rfl⟩, fun fa fw fv hv hS hsee => ?_⟩
              simp only [List.getElem?_cons_zero, List.getElem?_cons_succ, Option.some.injEq] at hv
              subst hv
              obtain ⟨hs1, d⟩ := hsee
              simp [Region.binds] at d
              exact if_unwanted 26 148 false rfl rfl (by simp only [d])
            case s31 =>
              refine ⟨⟨rfl, by kernel_rfl⟩, fun fa fw fv hv hS hsee => ?_⟩
              simp only [List.getElem?_cons_zero, List.getElem?_cons_succ, Option.some.injEq] at hv
              subst hv
              obtain ⟨hs1, d⟩ := hsee
              simp [Region.binds] at d
              refine if_wanted 18 140 false rfl rfl (by simp only [d]) ?_
              intro K' hK
              simp only [Oper.wp, execOp, Act.eval, Array.getD_eq_getD_getElem?, d, Option.getD_some]
              exact hK fw hS
            case s32 =>
              refine ⟨⟨rfl, by kernel_rfl⟩, fun fa fw fv hv hS hsee => ?_⟩
              simp only [List.getElem?_cons_zero, List.getElem?_cons_succ, Option.some.injEq] at hv
              subst hv
              obtain ⟨hs1, d⟩ := hsee
              simp [Region.binds] at d
              refine if_wanted 18 140 false rfl rfl (by simp only [d]) ?_
              intro K' hK
              simp only [Oper.wp, execOp, Act.eval, Array.getD_eq_getD_getElem?, d, Option.getD_some]
              exact hK fw hS
            case s33 =>
              refine ⟨⟨rfl, by kernel_rfl⟩, fun fa fw fv hv hS hsee => ?_⟩
              simp only [List.getElem?_cons_zero, List.getElem?_cons_succ, Option.some.injEq] at hv
              subst hv
              obtain ⟨hs1, d⟩ := hsee
              simp [Region.binds] at d
              refine if_free rfl ?_
              intro K' hK
              simp only [Oper.wp, execOp, Act.eval, Array.getD_eq_getD_getElem?, d, Option.getD_some]
              exact hK fw hS
        case rest =>
          obtain ⟨rfl, H7⟩ := hcut
          have H8 := Lib.hid H7
          obtain ⟨_, _, ⟨p0, p1, p2⟩, _, _⟩ := H7
          clear H6 n4 n5 n6 n7 m1 m2 m3 m4 c4 c5
          by_cases hc0 : c = 0
          · have hc0' : (c == 0) = true := by simpa using hc0
            clear hc0 km f1 f2 f3 f4
            go_wp2_with (go_at_call 11; refine (cA.out _).mono ?_; rintro E w9 ⟨rfl, b9⟩)
            go_ret
            exact ⟨rfl, (H8.out.next b9).2.1⟩
          · have hc0' : (c == 0) = false := by simpa using hc0
            by_cases ha2 : 1048576 < a
            · have ha2' : decide (1048576 < a) = true := by simpa using ha2
              clear hc0 km f1 f2 f3 f4
              go_wp2_with (go_at_call 11; refine (cA.out _).mono ?_; rintro E w9 ⟨rfl, b9⟩)
              go_ret
              exact ⟨rfl, (H8.out.next b9).2.1⟩
            · have ha2' : decide (1048576 < a) = false := by simpa using ha2
              obtain ⟨k1, k2, k3, k4, k5, k6⟩ := km.out hc0 (by omega)
              have G1 := Lib.hid (f1.out hc0 (by omega))
              have G2 := Lib.hid (f2.out hc0 (by omega))
              have G3 := Lib.hid (f3.out hc0 (by omega))
              have G4 := Lib.hid (f4.out hc0 (by omega))
              have q1 : decide (m ≤ n) = true := by simpa using k1
              have q2 : decide (o ≤ m) = true := by simpa using k2
              have q3 : decide (m ≤ u) = true := by simpa using k3
              have q4 : decide (u ≤ m + 1) = true := by simpa using k4
              clear hc0 km f1 f2 f3 f4
              go_wp2_with fail
              refine (G1.out _).mono ?_
              rintro E w9 ⟨rfl, b9⟩
              have H9 := Lib.hid (H8.out.next b9)
              clear b9 H8 p0 p1 p2
              obtain ⟨_, _, ⟨p0, p1, p2⟩, _, _⟩ := H9.out
              go_wp2_with fail
              refine (G2.out _).mono ?_
              rintro E w10 ⟨rfl, b10⟩
              have H10 := Lib.hid (H9.out.next b10)
              clear b10 H9 p0 p1 p2
              obtain ⟨_, _, ⟨p0, p1, p2⟩, _, _⟩ := H10.out
              go_wp2_with fail
              refine (G3.out _).mono ?_
              rintro E w11 ⟨rfl, b11⟩
              have H11 := Lib.hid (H10.out.next b11)
              clear b11 H10 p0 p1 p2
              obtain ⟨_, _, ⟨p0, p1, p2⟩, _, _⟩ := H11.out
              go_wp2_with fail
              refine (G4.out _).mono ?_
              rintro E w12 ⟨rfl, b12⟩
              have H12 := Lib.hid (H11.out.next b12)
              clear b12 H11 p0 p1 p2
              go_wp2_with (go_at_call 11; refine (cA.out _).mono ?_; rintro E w13 ⟨rfl, b13⟩)
              go_ret
              exact ⟨rfl, (H12.out.next b13).2.1⟩
end Go.Proofs.Ytmbkmljglajenaa
