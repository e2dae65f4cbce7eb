/-
  The walk of ReadyOrder.
-/
import Derived.Test.YtcipilggddpnpaaRx2
import Derived.Test.YtcipilggddpnpaaQx1
import Derived.Test.YtcipilggddpnpaaHpT
import Derived.Deep.QuietTactic
import Derived.BigQuiet
namespace Go.Proofs.Ytcipilggddpnpaa
open Go.RowKit Go.Shelf Go.Maps
set_option linter.unusedVariables false
set_option linter.unusedSimpArgs false

set_option maxHeartbeats 1000000 in
set_option maxRecDepth 100000 in
theorem order4_long (a : Option Addr) (n cap : Nat) (hn : n ≤ 9223372036854775807) (V : Nat → Int × Ent × List Ent) (A : Nat → Option Addr × Nat) (hf : ¬ Few4 n V) (m kt kid : Int) (w : World) (hv : OpsAt4 w a n V A) :
    Calls Try.prog 5 #[.slice a n cap, .int .i64 m, .agg #[.int .i64 kt, .int .i64 kid]] w fun E w' => E = .returned (.bool true) ∧ Below w.heap.size w w' := by
  have B0 := Lib.hid ((Below.refl w.heap.size w).alloc (Nat.le_refl _) (.cells #[.int .i64 kt, .int .i64 kid] 37))
  have C1 := Lib.hid (qnew_any w.heap.size (w.alloc (.cells #[.int .i64 kt, .int .i64 kid] 37)) B0.out.size)
  have CF : Hid (∀ W, Below w.heap.size w W → Calls Try.prog 17 #[.slice a n cap] W fun e w' => e = .returned (.bool false) ∧ Grew W w') := fun W b => few4_any W a n cap V A (hv.below b) hn false ⟨fun h => (by cases h), fun h => absurd h hf⟩
  have CW : Hid (∀ W, Calls Try.prog 18 #[] W fun E w' => E = .returned (.bool true) ∧ Below W.heap.size W w') := fun W => awake4 W
  clear hv hf
  go_enter Try.func5, Try.ntmps5
  go_wp2_with fail
  refine C1.out.mono ?_
  rintro E w1 ⟨q, rfl, h1, g1, o1⟩
  have B1 := Lib.hid (B0.out.trans (g1.below.mono B0.out.size))
  clear h1 g1 o1 C1
  go_wp2_with fail
  refine (CF.out _ B1.out).mono ?_
  rintro E w2 ⟨rfl, g2⟩
  have B2 := Lib.hid (B1.out.trans (g2.below.mono B1.out.size))
  clear g2
  go_wp2_with fail
  refine (CW.out _).mono ?_
  rintro E w3 ⟨rfl, b3⟩
  go_wp2
  go_ret
  exact ⟨rfl, B2.out.trans (b3.mono B2.out.size)⟩

set_option maxHeartbeats 8000000 in
set_option maxRecDepth 100000 in
theorem order4_core (a : Option Addr) (n cap : Nat) (hn : n ≤ 9223372036854775807) (V : Nat → Int × Ent × List Ent) (A : Nat → Option Addr × Nat) (hf : Few4 n V) (m kt kid : Int) (hk64 : Is64 kid ∧ Is64 kt) (w : World) (hv : OpsAt4 w a n V A) :
    Calls Try.prog 5 #[.slice a n cap, .int .i64 m, .agg #[.int .i64 kt, .int .i64 kid]] w fun E w' => E = .returned (.bool true) ∧ Below w.heap.size w w' := by
  obtain ⟨Wk, hWk⟩ : ∃ Wk, w.alloc (.cells #[.int .i64 kt, .int .i64 kid] 37) = Wk := ⟨_, rfl⟩
  have b0 : Below w.heap.size w Wk := by rw [← hWk]; exact (Below.refl w.heap.size w).alloc (Nat.le_refl _) _
  have k0 : B2 Wk w.heap.size kt kid := by rw [← hWk]; exact B2.start w kt kid
  have C1 := Lib.hid (qnew_any Wk.heap.size Wk (Nat.le_refl _))
  have CF : Hid (∀ W, Below w.heap.size w W → Calls Try.prog 17 #[.slice a n cap] W fun e w' => e = .returned (.bool true) ∧ Grew W w') := fun W b => few4_any W a n cap V A (hv.below b) hn true ⟨fun _ => hf, fun _ => rfl⟩
  have CW : Hid (∀ W, Calls Try.prog 18 #[] W fun E w' => E = .returned (.bool true) ∧ Below W.heap.size W w') := fun W => awake4 W
  have HV : Hid (OpsAt4 w a n V A ∧ Few4 n V ∧ (Is64 kid ∧ Is64 kt) ∧ Below w.heap.size w Wk ∧ B2 Wk w.heap.size kt kid) := ⟨hv, hf, hk64, b0, k0⟩
  have HWk := Lib.hid hWk
  have n40 : n ≤ 40 := hf.1
  clear hv hf hk64 b0 k0 hWk hn
  go_enter Try.func5, Try.ntmps5
  go_wp2_with fail
  rw [HWk.out]
  refine C1.out.mono ?_
  rintro E w1 ⟨q0, rfl, h1, g1, o1⟩
  have H1 : Hid (Qs Wk.heap.size w1 q0 [] ∧ Grew Wk w1) := ⟨h1, g1⟩
  clear h1 g1 o1 C1
  go_wp2_with fail
  refine (CF.out _ (HV.out.2.2.2.1.trans (H1.out.2.below.mono HV.out.2.2.2.1.size))).mono ?_
  rintro E w2 ⟨rfl, g2⟩
  have T2 : Hid (At4 Wk.heap.size Wk (w2.alloc (.cells #[.slice none 0 0] 48)) q0.qb w2.heap.size 0) := at4_new H1.out.1 H1.out.2 g2 (Nat.le_refl _)
  clear g2 H1 CF
  go_wp2_with fail
  generalize hW3 : w2.alloc (.cells #[.slice none 0 0] 48) = W3 at *
  clear hW3
  generalize w2.heap.size = rf at *
  generalize q0.qb = qb at *
  go_loopg [9] n (fun gk s9 wr => ∃ i : Nat, s9 = .int .i64 i ∧ i ≤ n ∧ n - i ≤ gk ∧ Hid (At4 Wk.heap.size Wk wr qb rf i))
  case atStart => exact ⟨0, rfl, Nat.zero_le _, Nat.le_refl _, T2⟩
  case round =>
    rename World => W2
    obtain ⟨i, rfl, hi, hgk, HR⟩ := hrel
    clear T2
    by_cases hlt : i < n
    · have d1 : decide ((i : Int) < (n : Int)) = true := decide_eq_true (by omega)
      have d2 : decide (i < n) = true := decide_eq_true hlt
      have d3 : (i : Int) < (n : Int) := by omega
      have bw : Below w.heap.size w W2 := by
        obtain ⟨q, S, _, _, _, b⟩ := HR.out
        exact HV.out.2.2.2.1.trans (b.mono HV.out.2.2.2.1.size)
      have hK := HV.out.1.keys bw (X := Wk.heap.size) HV.out.2.2.2.1.size hlt
      have h20 := HV.out.2.1.2 i hlt
      rcases HV.out.1.below bw with hz | ⟨g, o, rfl, hg, hc⟩
      · omega
      obtain ⟨⟨c0, c1, c2, c3⟩, hx, _, hcap⟩ := hc i hlt
      have CD := Lib.hid (HR.out.does (Nat.le_refl _) (by omega) (V i).1 (V i).2.1.2 (V i).2.1.1 hx (V i).2.2 (A i).1 (A i).2 hK h20 hcap)
      clear hc hg hx HR hK h20 hcap bw
      generalize V i = v at *
      generalize A i = av at *
      obtain ⟨v1, ⟨v2, v3⟩, v4⟩ := v
      obtain ⟨a1, a2⟩ := av
      simp only [] at c0 c1 c2 c3 CD
      generalize v4.length = vl at *
      go_wp2_with fail
      refine CD.out.mono ?_
      rintro E w3 ⟨rfl, h3⟩
      have H3 := Lib.hid h3
      clear h3 CD c0 c1 c2 c3
      go_wp2
      go_roundg (n - (i + 1))
      case measure => omega
      case rel => exact ⟨i + 1, by go_num, by omega, Nat.le_refl _, H3⟩
    · obtain rfl : i = n := by omega
      have d1 : decide ((i : Int) < (i : Int)) = false := decide_eq_false (by omega)
      have d2 : decide (i < i) = false := decide_eq_false (by omega)
      obtain ⟨q, S, hp, rfl, hS, hlow⟩ := HR.out
      have P : Hid (Pq Wk.heap.size W2 q rf S ∧ Below Wk.heap.size Wk W2 ∧ S.length ≤ 800) := ⟨hp, hlow, by omega⟩
      have CL : Hid (Calls Try.prog 27 #[.pointer (some ⟨q.qb, 0, none⟩)] W2 fun E w' => E = .returned (.int .i64 S.length) ∧ W2 = w') := qlen_any hp.queue
      have CA : Hid (Calls Try.prog 24 #[.pointer (some ⟨q.qb, 0, none⟩), .int .i64 S.length] W2 fun E w' => ∃ a cap, E = .returned (.slice a S.length cap) ∧ w'.ownsRow W2.heap.size 37 2 (.slice a S.length cap) S.length (flatR S) ∧ Kept (fun _ => False) W2 w') := by
        have := qleast_any hp.queue (List.Perm.refl S) hp.sorted hp.diff (by omega) (S.length : Int)
        rw [Int.toNat_natCast, Nat.min_self, List.take_length] at this
        exact this
      have hp64 : ∀ x ∈ S, Is64 x.1 ∧ Is64 x.2 := fun x hx => (hp.good x hx).2
      have HP64 := Lib.hid hp64
      have OWN : Hid (∀ k, q.own k → k < W2.heap.size) := fun k hk => hp.queue.lt k hk
      have HSL : Hid (∃ N, S.length = N) := ⟨_, rfl⟩
      clear hp hlow hS HR hp64
      obtain ⟨N, hN⟩ := HSL.out
      have HN := Lib.hid hN
      rw [hN] at CL CA
      clear hN HSL
      go_wp2_with fail
      refine CL.out.mono ?_
      rintro E w3 ⟨rfl, rfl⟩
      go_wp2_with fail
      refine CA.out.mono ?_
      rintro E w4 ⟨ra, rc, rfl, hrow, hkp⟩
      have b4 : Below W2.heap.size W2 w4 := hkp.below (Nat.le_refl _) (fun _ x => x.elim)
      obtain ⟨al, hrc⟩ := all4_own hrow HP64.out
      have O4 : Hid (Ord4 Wk.heap.size W2.heap.size Wk w4 q rf S ra N) := ⟨P.out.1.lies b4, al, P.out.2.1.trans (b4.mono P.out.1.base), OWN.out⟩
      have N800 : N ≤ 800 := by have := P.out.2.2; rw [HN.out] at this; exact this
      clear hrow hkp b4 al CL CA OWN P
      generalize W2.heap.size = Y at *
      go_wp2_with fail
      go_loopg [11] N (fun gk s11 wr => ∃ i : Nat, s11 = .int .i64 i ∧ i ≤ N ∧ N - i ≤ gk ∧ Hid (Ord4 Wk.heap.size Y Wk wr q rf S ra N))
      case atStart => exact ⟨0, rfl, Nat.zero_le _, Nat.le_refl _, O4⟩
      case round =>
        rename World => W5
        obtain ⟨i, rfl, hi, hgk, HO⟩ := hrel
        clear O4
        by_cases hlt : i < N
        · have d1 : decide ((i : Int) < (N : Int)) = true := decide_eq_true (by omega)
          have d2 : decide (i < N) = true := decide_eq_true hlt
          have d3 : (i : Int) < (N : Int) := by omega
          have n4 : i < 1099511627776 := by omega
          by_cases h0 : i = 0
          · subst h0
            have d4 : decide (((0 : Nat) : Int) > 0) = false := by decide
            have d5 : decide ((0 : Int) < ((0 : Nat) : Int)) = false := by decide
            go_wp2_with fail
            go_quiet (fail)
            have O5 := Lib.hid (HO.out.lies (grewN W5 nq).below)
            generalize W5.drewN nq = W6 at *
            clear HO
            go_wp2
            go_roundg (N - (0 + 1))
            case measure => omega
            case rel => exact ⟨0 + 1, by go_num, by omega, Nat.le_refl _, O5⟩
          · obtain ⟨j, rfl⟩ : ∃ j, i = j + 1 := ⟨i - 1, by omega⟩
            have d4 : decide (((j + 1 : Nat) : Int) > 0) = true := decide_eq_true (by omega)
            have d5 : decide ((0 : Int) < (j : Int) + 1) = true := decide_eq_true (by omega)
            have hsj := sorted4 HO.out.pq.sorted (j := j) (by rw [HN.out]; exact hlt)
            obtain ⟨g, rfl, hYg, hg, x0, x1⟩ := HO.out.all.cell j (by omega)
            obtain ⟨g', e', _, _, y0, y1⟩ := HO.out.all.cell (j + 1) hlt
            cases e'
            generalize S.getD j (0, 0) = u at *
            generalize S.getD (j + 1) (0, 0) = v at *
            obtain ⟨u1, u2⟩ := u
            obtain ⟨v1, v2⟩ := v
            simp only [] at x0 x1 y0 y1 hsj
            have CB : ∀ q : LiesB W5, Hid (Calls Try.prog 15 #[.agg #[.int .i64 u2, .int .i64 u1], .agg #[.int .i64 v2, .int .i64 v1]] q.v fun E w' => E = .returned (.bool true) ∧ LyingB W5 w') := fun q => lies_call (fun W => by
              have := before_any u2 u1 v2 v1 W
              rw [hsj] at this
              exact this.mono fun _ _ ⟨e, g⟩ => ⟨e, g.below⟩) q
            have f0 := fun q : LiesB W5 => keep1r x0 q.h
            have f1 := fun q : LiesB W5 => keep1r x1 q.h
            have f2 := fun q : LiesB W5 => keep1r y0 q.h
            have f3 := fun q : LiesB W5 => keep1r y1 q.h
            haveI hin : Inhabited (LiesB W5) := ⟨⟨W5, Below.refl _ _⟩⟩
            clear hsj x0 x1 y0 y1
            go_wp2_with fail
            refine region_lies mixedT (by kernel_rfl) ?_
            repeat (go_big_quiet_step (first | (go_at_call 15; (with_reducible exact (CB _).out))))
            refine wpQuiet_nil ?_
            rintro _ ⟨q2, rfl⟩
            have O5 := Lib.hid (HO.out.lies q2.h)
            clear f0 f1 f2 f3 CB
            generalize q2.v = W6 at *
            clear HO hin
            go_wp2
            go_roundg (N - (j + 1 + 1))
            case measure => omega
            case rel => exact ⟨j + 1 + 1, by go_num, by omega, Nat.le_refl _, O5⟩
        · obtain rfl : i = N := by omega
          have d1 : decide ((i : Int) < (i : Int)) = false := decide_eq_false (by omega)
          have d2 : decide (i < i) = false := decide_eq_false (by omega)
          by_cases hm : 0 ≤ m ∧ m < 1000
          · obtain ⟨k, rfl⟩ := Int.eq_ofNat_of_zero_le hm.1
            have m1 : decide ((k : Int) ≥ 0) = true := decide_eq_true hm.1
            have m2 : decide ((k : Int) < 1000) = true := decide_eq_true hm.2
            have m3 : decide (0 ≤ (k : Int)) = true := decide_eq_true hm.1
            have m4 : (k : Int) < 1000 := hm.2
            have sl : S.length < 1099511627776 := by rw [HN.out]; omega
            have CL1 := HO.out.least sl (k : Int)
            have CL2 := fun W (b : Below W5.heap.size W5 W) => (HO.out.lies b).least sl ((k : Int) + 1)
            have e1 : ((k : Int) + 1).toNat = k + 1 := by omega
            rw [Int.toNat_natCast] at CL1
            simp only [e1] at CL2
            have HTK := Lib.hid (take_head (S := S) (k := k) HN.out.symm)
            obtain ⟨la, hla⟩ : ∃ la, min k i = la := ⟨_, rfl⟩
            obtain ⟨lb, hlb⟩ : ∃ lb, min (k + 1) i = lb := ⟨_, rfl⟩
            rw [hla] at CL1 HTK
            simp only [hlb] at CL2
            have n1 : decide ((lb : Int) < (la : Int)) = false := decide_eq_false (by omega)
            have n2 : decide ((la : Int) > (lb : Int)) = false := decide_eq_false (by omega)
            have n3 : la ≤ lb := by omega
            have n4 : ((la : Int) != min (k : Int) (i : Int)) = false := by simp; omega
            have n5 : ((la : Int) != min (i : Int) (k : Int)) = false := by simp; omega
            have n6 : la < 1099511627776 := by omega
            have HC1 := Lib.hid CL1
            have HC2 := Lib.hid CL2
            clear CL1 CL2 hla hlb hm e1 sl
            go_wp2_with fail
            refine HC1.out.mono ?_
            rintro E w6 ⟨a1, c1, rfl, al1, hc1, b6⟩
            have A1 := Lib.hid al1
            have C6 := Lib.hid (HC2.out _ b6)
            have O6 := Lib.hid (HO.out.lies b6)
            clear al1 b6 HC1 HC2
            go_wp2_with fail
            refine C6.out.mono ?_
            rintro E w7 ⟨a2, c2, rfl, al2, hc2, b7⟩
            have n7 : la ≤ c2 := by omega
            have n8 : (la : Int) ≤ (c2 : Int) := by omega
            have hK := keys4_same (A1.out.kept (kept_lies (S := fun _ => False) b7) (fun _ _ x => x)) (HTK.out ▸ al2.head n3) n6 c1 c2
            have CK := Lib.hid hK
            have O7 := Lib.hid (O6.out.lies b7)
            clear al2 b7 C6 hK A1
            go_wp2_with fail
            refine CK.out.mono ?_
            rintro E w8 ⟨rfl, b8⟩
            have O8a := Lib.hid (O7.out.lies b8)
            clear b8 CK
            go_upto_region 20 with (fail)
            clear n1 n2 n4 n5
            have CF1 := Lib.hid O8a.out.first
            have CL1 := fun W (b : Below w8.heap.size w8 W) => (O8a.out.lies b).last
            by_cases h0 : i = 0
            · subst h0
              have e1 : decide (((0 : Nat) : Int) > 0) = false := by decide
              have e2 : decide ((0 : Int) < ((0 : Nat) : Int)) = false := by decide
              rw [if_pos rfl] at CF1
              simp only [if_true, Nat.zero_sub] at CL1
              obtain ⟨u1, hu1⟩ : ∃ u1, (S.getD 0 (0, 0)).2 = u1 := ⟨_, rfl⟩
              obtain ⟨u2, hu2⟩ : ∃ u2, (S.getD 0 (0, 0)).1 = u2 := ⟨_, rfl⟩
              rw [hu1, hu2] at CF1
              simp only [hu1, hu2] at CL1
              have CL2 := Lib.hid CL1
              clear CL1 hu1 hu2
              have hn : has S kid = false := by
                have e : S = [] := List.eq_nil_of_length_eq_zero HN.out
                rw [e]; rfl
              go_wp2_with fail
              refine CF1.out.mono ?_
              rintro E w6 ⟨rfl, b6⟩
              have O6 := Lib.hid ((O8a.out.lies b6).lies (below_al w6 (.cells #[.int .i64 u1, .int .i64 u2] 37)))
              have C6 := Lib.hid (CL2.out _ (b6.trans ((below_al w6 (.cells #[.int .i64 u1, .int .i64 u2] 37)).mono b6.size)))
              have K6 := Lib.hid (B2.start w6 u1 u2)
              clear b6 CF1 CL2
              go_wp2_with fail
              refine C6.out.mono ?_
              rintro E w7 ⟨rfl, b7⟩
              have K7 := Lib.hid ((K6.out.next b7).next (below_al w7 (.cells #[.int .i64 u1, .int .i64 u2] 37)))
              have M7 := Lib.hid (B2.start w7 u1 u2)
              have O7 := Lib.hid ((O6.out.lies b7).lies (below_al w7 (.cells #[.int .i64 u1, .int .i64 u2] 37)))
              clear b7 C6 K6
              obtain ⟨W8, hW8⟩ : ∃ W8, w7.alloc (.cells #[.int .i64 u1, .int .i64 u2] 37) = W8 := ⟨_, rfl⟩
              rw [hW8] at K7 M7 O7
              have O8 := O7
              obtain ⟨x0, x1⟩ := K7.out.cells
              obtain ⟨x2, x3⟩ := M7.out.cells
              have HW8 := Lib.hid hW8
              clear hW8 O7
              go_upto_region 21 with (fail)
              rw [HW8.out]
              go_upto_region 22 with (fail)
              go_quiet (fail)
              have O9 := Lib.hid (O8.out.lies (grewN W8 nq).below)
              generalize W8.drewN nq = W9 at *
              clear O8
              have CG := Lib.hid (O9.out.get_none kid HV.out.2.2.1.1 hn)
              have kb := HV.out.2.2.2.2.next (O9.out.low)
              obtain ⟨y0, y1⟩ := kb.cells
              have kb := Lib.hid kb
              go_wp2_with fail
              refine CG.out.mono ?_
              rintro E w10 ⟨rfl, b10⟩
              have O10 := Lib.hid ((O9.out.lies b10).lies (below_al w10 (.cells #[.int .i64 0, .int .i64 0] 37)))
              have CM := Lib.hid (O10.out.move_none kid kt HV.out.2.2.1 hn)
              have lt10 : w.heap.size < w10.heap.size := (kb.out.next b10).lt
              clear y0 y1
              obtain ⟨y0, y1⟩ := (kb.out.next b10).cells
              go_wp2_with fail
              refine CM.out.mono ?_
              rintro E w11 ⟨rfl, b11⟩
              have L11 := Lib.hid (O10.out.low.trans b11)
              go_wp2_with fail
              refine (CW.out _).mono ?_
              rintro E w12 ⟨rfl, b12⟩
              have L12 := Lib.hid (L11.out.trans (b12.mono L11.out.size))
              go_wp2
              go_ret
              exact ⟨rfl, HV.out.2.2.2.1.trans (L12.out.mono HV.out.2.2.2.1.size)⟩
            · have e1 : decide ((i : Int) > 0) = true := decide_eq_true (by omega)
              have e2 : decide ((0 : Int) < (i : Int)) = true := decide_eq_true (by omega)
              have e3 : (0 : Int) < (i : Int) := by omega
              obtain ⟨p, rfl⟩ : ∃ p, i = p + 1 := ⟨i - 1, by omega⟩
              rw [if_neg (by omega)] at CF1
              simp only [if_neg (Nat.succ_ne_zero p), Nat.add_sub_cancel] at CL1
              obtain ⟨u1, hu1⟩ : ∃ u1, (S.getD 0 (0, 0)).2 = u1 := ⟨_, rfl⟩
              obtain ⟨u2, hu2⟩ : ∃ u2, (S.getD 0 (0, 0)).1 = u2 := ⟨_, rfl⟩
              obtain ⟨v1, hv1⟩ : ∃ v1, (S.getD p (0, 0)).2 = v1 := ⟨_, rfl⟩
              obtain ⟨v2, hv2⟩ : ∃ v2, (S.getD p (0, 0)).1 = v2 := ⟨_, rfl⟩
              rw [hu1, hu2] at CF1
              simp only [hv1, hv2] at CL1
              have HUV := Lib.hid (And.intro (And.intro hu1 hu2) (And.intro hv1 hv2))
              have CL2 := Lib.hid CL1
              clear CL1 hu1 hu2 hv1 hv2
              go_wp2_with fail
              refine CF1.out.mono ?_
              rintro E w6 ⟨rfl, b6⟩
              have O6 := Lib.hid ((O8a.out.lies b6).lies (below_al w6 (.cells #[.int .i64 u1, .int .i64 u2] 37)))
              have C6 := Lib.hid (CL2.out _ (b6.trans ((below_al w6 (.cells #[.int .i64 u1, .int .i64 u2] 37)).mono b6.size)))
              have K6 := Lib.hid (B2.start w6 u1 u2)
              clear b6 CF1 CL2
              go_wp2_with fail
              refine C6.out.mono ?_
              rintro E w7 ⟨rfl, b7⟩
              have K7 := Lib.hid ((K6.out.next b7).next (below_al w7 (.cells #[.int .i64 v1, .int .i64 v2] 37)))
              have M7 := Lib.hid (B2.start w7 v1 v2)
              have O7 := Lib.hid ((O6.out.lies b7).lies (below_al w7 (.cells #[.int .i64 v1, .int .i64 v2] 37)))
              clear b7 C6 K6
              obtain ⟨W8, hW8⟩ : ∃ W8, w7.alloc (.cells #[.int .i64 v1, .int .i64 v2] 37) = W8 := ⟨_, rfl⟩
              rw [hW8] at K7 M7 O7
              have O8 := O7
              obtain ⟨x0, x1⟩ := K7.out.cells
              obtain ⟨x2, x3⟩ := M7.out.cells
              have HW8 := Lib.hid hW8
              clear hW8 O7
              go_upto_region 21 with (fail)
              rw [HW8.out]
              have HAL : Hid (∃ g, ra = some ⟨g, 0, none⟩ ∧ (W8.cell? ⟨g, 0, none⟩ = some (.int .i64 u1) ∧ W8.cell? ⟨g, 1, none⟩ = some (.int .i64 u2)) ∧ W8.cell? ⟨g, p * 2, none⟩ = some (.int .i64 v1) ∧ W8.cell? ⟨g, p * 2 + 1, none⟩ = some (.int .i64 v2)) := by
                obtain ⟨g, e, _, _, a0, a1⟩ := O8.out.all.cell 0 (by omega)
                obtain ⟨g', e', _, _, a2, a3⟩ := O8.out.all.cell p (by omega)
                rw [e] at e'
                cases e'
                rw [HUV.out.1.1] at a0
                rw [HUV.out.1.2] at a1
                rw [HUV.out.2.1] at a2
                rw [HUV.out.2.2] at a3
                exact ⟨g, e, ⟨by simpa using a0, by simpa using a1⟩, a2, a3⟩
              obtain ⟨g, rfl, ⟨z0, z1⟩, z2, z3⟩ := HAL.out
              go_upto_region 22 with (fail)
              go_quiet (fail)
              have O9 := Lib.hid (O8.out.lies (grewN W8 nq).below)
              generalize W8.drewN nq = W9 at *
              clear O8 z0 z1 z2 z3 x0 x1 x2 x3 HAL
              by_cases hn : has S kid = true
              · obtain ⟨y, hy, hye⟩ := has_yes.1 hn
                obtain ⟨yi, t0⟩ := y
                simp only [] at hye
                subst hye
                have CG := Lib.hid (O9.out.get_there yi t0 hy)
                have gt := O9.out.pq.good _ hy
                have MB := Lib.hid (move_back O9.out.pq.diff hy gt.1.2 kt)
                have kb := HV.out.2.2.2.2.next (O9.out.low)
                obtain ⟨y0, y1⟩ := kb.cells
                have kb := Lib.hid kb
                have HY9 : Hid (Y ≤ W9.heap.size) := by
                  obtain ⟨g2, _, h1, h2, _⟩ := O9.out.all.cell 0 (by omega)
                  show Y ≤ W9.heap.size
                  omega
                have G0 := Lib.hid gt
                have sl : Hid (S.length < 1099511627776) := by
                  show S.length < 1099511627776
                  rw [HN.out]; omega
                clear gt hn
                go_wp2_with fail
                refine CG.out.mono ?_
                rintro E w10 ⟨rfl, b10⟩
                have O10 := Lib.hid ((O9.out.lies b10).lies (below_al w10 (.cells #[.int .i64 t0, .int .i64 yi] 37)))
                have K10 := Lib.hid (B2.start w10 t0 yi)
                have HY10 : Hid (Y ≤ w10.heap.size) := Nat.le_trans HY9.out b10.size
                have kb10 := Lib.hid ((kb.out.next b10).next (below_al w10 (.cells #[.int .i64 t0, .int .i64 yi] 37)))
                have lt10 : w.heap.size < w10.heap.size := (kb.out.next b10).lt
                have M10 : Hid (Mov4 Wk.heap.size Y Wk (w10.alloc (.cells #[.int .i64 t0, .int .i64 yi] 37)) q S S (some ⟨g, 0, none⟩) (p + 1)) := ⟨O10.out.pq.queue, O10.out.all, O10.out.low, O10.out.off, O10.out.pq.diff, O10.out.pq.base⟩
                have CM := Lib.hid (M10.out.move yi kt HV.out.2.2.1)
                have ST := Lib.hid O10.out.pq.sorted
                clear y0 y1 
                obtain ⟨y0, y1⟩ := (kb.out.next b10).cells
                clear b10 O9 O10 CG kb
                go_wp2_with fail
                refine CM.out.mono ?_
                rintro E w11 ⟨rfl, m11, k11⟩
                have M11 := Lib.hid m11
                have K11 := Lib.hid (K10.out.kept k11 (fun hs => by have := m11.off _ (.inl hs); have := HY10.out; omega))
                obtain ⟨x0, x1⟩ := K11.out.cells
                have CN := Lib.hid (M11.out.move yi t0 G0.out.2)
                rw [MB.out.1] at CN
                clear m11 k11 CM M10 K10 kb10 y0 y1
                go_wp2_with fail
                refine CN.out.mono ?_
                rintro E w12 ⟨rfl, m12, _⟩
                have M12 := Lib.hid m12
                have CL := Lib.hid (m12.len MB.out.2.symm)
                have CE := Lib.hid (m12.least MB.out.2.symm ST.out sl.out)
                clear m12 CN x0 x1 M11 K11
                go_wp2_with fail
                refine CL.out.mono ?_
                rintro E w13 ⟨rfl, hw13⟩
                subst hw13
                go_wp2_with fail
                refine CE.out.mono ?_
                rintro E w14 ⟨a4, c4, rfl, al4, _, b14⟩
                have hK := keys4_same al4 (M12.out.lies b14).all (by omega) c4 rc
                have CK := Lib.hid hK
                have L14 := Lib.hid (M12.out.lies b14).low
                have B14 := Lib.hid (M12.out.lies b14).base
                clear al4 b14 CE CL hK
                go_wp2_with fail
                refine CK.out.mono ?_
                rintro E w15 ⟨rfl, b15⟩
                have L15 := Lib.hid (L14.out.trans (b15.mono B14.out))
                clear b15 CK
                go_wp2_with fail
                refine (CW.out _).mono ?_
                rintro E w16 ⟨rfl, b16⟩
                have L16 := Lib.hid (L15.out.trans (b16.mono L15.out.size))
                go_wp2
                go_ret
                exact ⟨rfl, HV.out.2.2.2.1.trans (L16.out.mono HV.out.2.2.2.1.size)⟩
              · have hn : has S kid = false := by simpa using hn
                have CG := Lib.hid (O9.out.get_none kid HV.out.2.2.1.1 hn)
                have kb := HV.out.2.2.2.2.next (O9.out.low)
                obtain ⟨y0, y1⟩ := kb.cells
                have kb := Lib.hid kb
                go_wp2_with fail
                refine CG.out.mono ?_
                rintro E w10 ⟨rfl, b10⟩
                have O10 := Lib.hid ((O9.out.lies b10).lies (below_al w10 (.cells #[.int .i64 0, .int .i64 0] 37)))
                have CM := Lib.hid (O10.out.move_none kid kt HV.out.2.2.1 hn)
                have lt10 : w.heap.size < w10.heap.size := (kb.out.next b10).lt
                clear y0 y1
                obtain ⟨y0, y1⟩ := (kb.out.next b10).cells
                go_wp2_with fail
                refine CM.out.mono ?_
                rintro E w11 ⟨rfl, b11⟩
                have L11 := Lib.hid (O10.out.low.trans b11)
                go_wp2_with fail
                refine (CW.out _).mono ?_
                rintro E w12 ⟨rfl, b12⟩
                have L12 := Lib.hid (L11.out.trans (b12.mono L11.out.size))
                go_wp2
                go_ret
                exact ⟨rfl, HV.out.2.2.2.1.trans (L12.out.mono HV.out.2.2.2.1.size)⟩
          · by_cases hm0 : 0 ≤ m
            · have m1 : decide (m ≥ 0) = true := decide_eq_true hm0
              have m3 : decide (0 ≤ m) = true := decide_eq_true hm0
              have m2 : decide (m < 1000) = false := decide_eq_false (by omega)
              go_upto_region 20 with (fail)
              have CF1 := Lib.hid HO.out.first
              have CL1 := fun W (b : Below W5.heap.size W5 W) => (HO.out.lies b).last
              by_cases h0 : i = 0
              · subst h0
                have e1 : decide (((0 : Nat) : Int) > 0) = false := by decide
                have e2 : decide ((0 : Int) < ((0 : Nat) : Int)) = false := by decide
                rw [if_pos rfl] at CF1
                simp only [if_true, Nat.zero_sub] at CL1
                obtain ⟨u1, hu1⟩ : ∃ u1, (S.getD 0 (0, 0)).2 = u1 := ⟨_, rfl⟩
                obtain ⟨u2, hu2⟩ : ∃ u2, (S.getD 0 (0, 0)).1 = u2 := ⟨_, rfl⟩
                rw [hu1, hu2] at CF1
                simp only [hu1, hu2] at CL1
                have CL2 := Lib.hid CL1
                clear CL1 hu1 hu2
                have hn : has S kid = false := by
                  have e : S = [] := List.eq_nil_of_length_eq_zero HN.out
                  rw [e]; rfl
                go_wp2_with fail
                refine CF1.out.mono ?_
                rintro E w6 ⟨rfl, b6⟩
                have O6 := Lib.hid ((HO.out.lies b6).lies (below_al w6 (.cells #[.int .i64 u1, .int .i64 u2] 37)))
                have C6 := Lib.hid (CL2.out _ (b6.trans ((below_al w6 (.cells #[.int .i64 u1, .int .i64 u2] 37)).mono b6.size)))
                have K6 := Lib.hid (B2.start w6 u1 u2)
                clear b6 CF1 CL2
                go_wp2_with fail
                refine C6.out.mono ?_
                rintro E w7 ⟨rfl, b7⟩
                have K7 := Lib.hid ((K6.out.next b7).next (below_al w7 (.cells #[.int .i64 u1, .int .i64 u2] 37)))
                have M7 := Lib.hid (B2.start w7 u1 u2)
                have O7 := Lib.hid ((O6.out.lies b7).lies (below_al w7 (.cells #[.int .i64 u1, .int .i64 u2] 37)))
                clear b7 C6 K6
                obtain ⟨W8, hW8⟩ : ∃ W8, w7.alloc (.cells #[.int .i64 u1, .int .i64 u2] 37) = W8 := ⟨_, rfl⟩
                rw [hW8] at K7 M7 O7
                have O8 := O7
                obtain ⟨x0, x1⟩ := K7.out.cells
                obtain ⟨x2, x3⟩ := M7.out.cells
                have HW8 := Lib.hid hW8
                clear hW8 O7
                go_upto_region 21 with (fail)
                rw [HW8.out]
                go_upto_region 22 with (fail)
                go_quiet (fail)
                have O9 := Lib.hid (O8.out.lies (grewN W8 nq).below)
                generalize W8.drewN nq = W9 at *
                clear O8
                have CG := Lib.hid (O9.out.get_none kid HV.out.2.2.1.1 hn)
                have kb := HV.out.2.2.2.2.next (O9.out.low)
                obtain ⟨y0, y1⟩ := kb.cells
                have kb := Lib.hid kb
                go_wp2_with fail
                refine CG.out.mono ?_
                rintro E w10 ⟨rfl, b10⟩
                have O10 := Lib.hid ((O9.out.lies b10).lies (below_al w10 (.cells #[.int .i64 0, .int .i64 0] 37)))
                have CM := Lib.hid (O10.out.move_none kid kt HV.out.2.2.1 hn)
                have lt10 : w.heap.size < w10.heap.size := (kb.out.next b10).lt
                clear y0 y1
                obtain ⟨y0, y1⟩ := (kb.out.next b10).cells
                go_wp2_with fail
                refine CM.out.mono ?_
                rintro E w11 ⟨rfl, b11⟩
                have L11 := Lib.hid (O10.out.low.trans b11)
                go_wp2_with fail
                refine (CW.out _).mono ?_
                rintro E w12 ⟨rfl, b12⟩
                have L12 := Lib.hid (L11.out.trans (b12.mono L11.out.size))
                go_wp2
                go_ret
                exact ⟨rfl, HV.out.2.2.2.1.trans (L12.out.mono HV.out.2.2.2.1.size)⟩
              · have e1 : decide ((i : Int) > 0) = true := decide_eq_true (by omega)
                have e2 : decide ((0 : Int) < (i : Int)) = true := decide_eq_true (by omega)
                have e3 : (0 : Int) < (i : Int) := by omega
                obtain ⟨p, rfl⟩ : ∃ p, i = p + 1 := ⟨i - 1, by omega⟩
                rw [if_neg (by omega)] at CF1
                simp only [if_neg (Nat.succ_ne_zero p), Nat.add_sub_cancel] at CL1
                obtain ⟨u1, hu1⟩ : ∃ u1, (S.getD 0 (0, 0)).2 = u1 := ⟨_, rfl⟩
                obtain ⟨u2, hu2⟩ : ∃ u2, (S.getD 0 (0, 0)).1 = u2 := ⟨_, rfl⟩
                obtain ⟨v1, hv1⟩ : ∃ v1, (S.getD p (0, 0)).2 = v1 := ⟨_, rfl⟩
                obtain ⟨v2, hv2⟩ : ∃ v2, (S.getD p (0, 0)).1 = v2 := ⟨_, rfl⟩
                rw [hu1, hu2] at CF1
                simp only [hv1, hv2] at CL1
                have HUV := Lib.hid (And.intro (And.intro hu1 hu2) (And.intro hv1 hv2))
                have CL2 := Lib.hid CL1
                clear CL1 hu1 hu2 hv1 hv2
                go_wp2_with fail
                refine CF1.out.mono ?_
                rintro E w6 ⟨rfl, b6⟩
                have O6 := Lib.hid ((HO.out.lies b6).lies (below_al w6 (.cells #[.int .i64 u1, .int .i64 u2] 37)))
                have C6 := Lib.hid (CL2.out _ (b6.trans ((below_al w6 (.cells #[.int .i64 u1, .int .i64 u2] 37)).mono b6.size)))
                have K6 := Lib.hid (B2.start w6 u1 u2)
                clear b6 CF1 CL2
                go_wp2_with fail
                refine C6.out.mono ?_
                rintro E w7 ⟨rfl, b7⟩
                have K7 := Lib.hid ((K6.out.next b7).next (below_al w7 (.cells #[.int .i64 v1, .int .i64 v2] 37)))
                have M7 := Lib.hid (B2.start w7 v1 v2)
                have O7 := Lib.hid ((O6.out.lies b7).lies (below_al w7 (.cells #[.int .i64 v1, .int .i64 v2] 37)))
                clear b7 C6 K6
                obtain ⟨W8, hW8⟩ : ∃ W8, w7.alloc (.cells #[.int .i64 v1, .int .i64 v2] 37) = W8 := ⟨_, rfl⟩
                rw [hW8] at K7 M7 O7
                have O8 := O7
                obtain ⟨x0, x1⟩ := K7.out.cells
                obtain ⟨x2, x3⟩ := M7.out.cells
                have HW8 := Lib.hid hW8
                clear hW8 O7
                go_upto_region 21 with (fail)
                rw [HW8.out]
                have HAL : Hid (∃ g, ra = some ⟨g, 0, none⟩ ∧ (W8.cell? ⟨g, 0, none⟩ = some (.int .i64 u1) ∧ W8.cell? ⟨g, 1, none⟩ = some (.int .i64 u2)) ∧ W8.cell? ⟨g, p * 2, none⟩ = some (.int .i64 v1) ∧ W8.cell? ⟨g, p * 2 + 1, none⟩ = some (.int .i64 v2)) := by
                  obtain ⟨g, e, _, _, a0, a1⟩ := O8.out.all.cell 0 (by omega)
                  obtain ⟨g', e', _, _, a2, a3⟩ := O8.out.all.cell p (by omega)
                  rw [e] at e'
                  cases e'
                  rw [HUV.out.1.1] at a0
                  rw [HUV.out.1.2] at a1
                  rw [HUV.out.2.1] at a2
                  rw [HUV.out.2.2] at a3
                  exact ⟨g, e, ⟨by simpa using a0, by simpa using a1⟩, a2, a3⟩
                obtain ⟨g, rfl, ⟨z0, z1⟩, z2, z3⟩ := HAL.out
                go_upto_region 22 with (fail)
                go_quiet (fail)
                have O9 := Lib.hid (O8.out.lies (grewN W8 nq).below)
                generalize W8.drewN nq = W9 at *
                clear O8 z0 z1 z2 z3 x0 x1 x2 x3 HAL
                by_cases hn : has S kid = true
                · obtain ⟨y, hy, hye⟩ := has_yes.1 hn
                  obtain ⟨yi, t0⟩ := y
                  simp only [] at hye
                  subst hye
                  have CG := Lib.hid (O9.out.get_there yi t0 hy)
                  have gt := O9.out.pq.good _ hy
                  have MB := Lib.hid (move_back O9.out.pq.diff hy gt.1.2 kt)
                  have kb := HV.out.2.2.2.2.next (O9.out.low)
                  obtain ⟨y0, y1⟩ := kb.cells
                  have kb := Lib.hid kb
                  have HY9 : Hid (Y ≤ W9.heap.size) := by
                    obtain ⟨g2, _, h1, h2, _⟩ := O9.out.all.cell 0 (by omega)
                    show Y ≤ W9.heap.size
                    omega
                  have G0 := Lib.hid gt
                  have sl : Hid (S.length < 1099511627776) := by
                    show S.length < 1099511627776
                    rw [HN.out]; omega
                  clear gt hn
                  go_wp2_with fail
                  refine CG.out.mono ?_
                  rintro E w10 ⟨rfl, b10⟩
                  have O10 := Lib.hid ((O9.out.lies b10).lies (below_al w10 (.cells #[.int .i64 t0, .int .i64 yi] 37)))
                  have K10 := Lib.hid (B2.start w10 t0 yi)
                  have HY10 : Hid (Y ≤ w10.heap.size) := Nat.le_trans HY9.out b10.size
                  have kb10 := Lib.hid ((kb.out.next b10).next (below_al w10 (.cells #[.int .i64 t0, .int .i64 yi] 37)))
                  have lt10 : w.heap.size < w10.heap.size := (kb.out.next b10).lt
                  have M10 : Hid (Mov4 Wk.heap.size Y Wk (w10.alloc (.cells #[.int .i64 t0, .int .i64 yi] 37)) q S S (some ⟨g, 0, none⟩) (p + 1)) := ⟨O10.out.pq.queue, O10.out.all, O10.out.low, O10.out.off, O10.out.pq.diff, O10.out.pq.base⟩
                  have CM := Lib.hid (M10.out.move yi kt HV.out.2.2.1)
                  have ST := Lib.hid O10.out.pq.sorted
                  clear y0 y1 
                  obtain ⟨y0, y1⟩ := (kb.out.next b10).cells
                  clear b10 O9 O10 CG kb
                  go_wp2_with fail
                  refine CM.out.mono ?_
                  rintro E w11 ⟨rfl, m11, k11⟩
                  have M11 := Lib.hid m11
                  have K11 := Lib.hid (K10.out.kept k11 (fun hs => by have := m11.off _ (.inl hs); have := HY10.out; omega))
                  obtain ⟨x0, x1⟩ := K11.out.cells
                  have CN := Lib.hid (M11.out.move yi t0 G0.out.2)
                  rw [MB.out.1] at CN
                  clear m11 k11 CM M10 K10 kb10 y0 y1
                  go_wp2_with fail
                  refine CN.out.mono ?_
                  rintro E w12 ⟨rfl, m12, _⟩
                  have M12 := Lib.hid m12
                  have CL := Lib.hid (m12.len MB.out.2.symm)
                  have CE := Lib.hid (m12.least MB.out.2.symm ST.out sl.out)
                  clear m12 CN x0 x1 M11 K11
                  go_wp2_with fail
                  refine CL.out.mono ?_
                  rintro E w13 ⟨rfl, hw13⟩
                  subst hw13
                  go_wp2_with fail
                  refine CE.out.mono ?_
                  rintro E w14 ⟨a4, c4, rfl, al4, _, b14⟩
                  have hK := keys4_same al4 (M12.out.lies b14).all (by omega) c4 rc
                  have CK := Lib.hid hK
                  have L14 := Lib.hid (M12.out.lies b14).low
                  have B14 := Lib.hid (M12.out.lies b14).base
                  clear al4 b14 CE CL hK
                  go_wp2_with fail
                  refine CK.out.mono ?_
                  rintro E w15 ⟨rfl, b15⟩
                  have L15 := Lib.hid (L14.out.trans (b15.mono B14.out))
                  clear b15 CK
                  go_wp2_with fail
                  refine (CW.out _).mono ?_
                  rintro E w16 ⟨rfl, b16⟩
                  have L16 := Lib.hid (L15.out.trans (b16.mono L15.out.size))
                  go_wp2
                  go_ret
                  exact ⟨rfl, HV.out.2.2.2.1.trans (L16.out.mono HV.out.2.2.2.1.size)⟩
                · have hn : has S kid = false := by simpa using hn
                  have CG := Lib.hid (O9.out.get_none kid HV.out.2.2.1.1 hn)
                  have kb := HV.out.2.2.2.2.next (O9.out.low)
                  obtain ⟨y0, y1⟩ := kb.cells
                  have kb := Lib.hid kb
                  go_wp2_with fail
                  refine CG.out.mono ?_
                  rintro E w10 ⟨rfl, b10⟩
                  have O10 := Lib.hid ((O9.out.lies b10).lies (below_al w10 (.cells #[.int .i64 0, .int .i64 0] 37)))
                  have CM := Lib.hid (O10.out.move_none kid kt HV.out.2.2.1 hn)
                  have lt10 : w.heap.size < w10.heap.size := (kb.out.next b10).lt
                  clear y0 y1
                  obtain ⟨y0, y1⟩ := (kb.out.next b10).cells
                  go_wp2_with fail
                  refine CM.out.mono ?_
                  rintro E w11 ⟨rfl, b11⟩
                  have L11 := Lib.hid (O10.out.low.trans b11)
                  go_wp2_with fail
                  refine (CW.out _).mono ?_
                  rintro E w12 ⟨rfl, b12⟩
                  have L12 := Lib.hid (L11.out.trans (b12.mono L11.out.size))
                  go_wp2
                  go_ret
                  exact ⟨rfl, HV.out.2.2.2.1.trans (L12.out.mono HV.out.2.2.2.1.size)⟩
            · have m1 : decide (m ≥ 0) = false := decide_eq_false (by omega)
              have m3 : decide (0 ≤ m) = false := decide_eq_false (by omega)
              go_upto_region 20 with (fail)
              have CF1 := Lib.hid HO.out.first
              have CL1 := fun W (b : Below W5.heap.size W5 W) => (HO.out.lies b).last
              by_cases h0 : i = 0
              · subst h0
                have e1 : decide (((0 : Nat) : Int) > 0) = false := by decide
                have e2 : decide ((0 : Int) < ((0 : Nat) : Int)) = false := by decide
                rw [if_pos rfl] at CF1
                simp only [if_true, Nat.zero_sub] at CL1
                obtain ⟨u1, hu1⟩ : ∃ u1, (S.getD 0 (0, 0)).2 = u1 := ⟨_, rfl⟩
                obtain ⟨u2, hu2⟩ : ∃ u2, (S.getD 0 (0, 0)).1 = u2 := ⟨_, rfl⟩
                rw [hu1, hu2] at CF1
                simp only [hu1, hu2] at CL1
                have CL2 := Lib.hid CL1
                clear CL1 hu1 hu2
                have hn : has S kid = false := by
                  have e : S = [] := List.eq_nil_of_length_eq_zero HN.out
                  rw [e]; rfl
                go_wp2_with fail
                refine CF1.out.mono ?_
                rintro E w6 ⟨rfl, b6⟩
                have O6 := Lib.hid ((HO.out.lies b6).lies (below_al w6 (.cells #[.int .i64 u1, .int .i64 u2] 37)))
                have C6 := Lib.hid (CL2.out _ (b6.trans ((below_al w6 (.cells #[.int .i64 u1, .int .i64 u2] 37)).mono b6.size)))
                have K6 := Lib.hid (B2.start w6 u1 u2)
                clear b6 CF1 CL2
                go_wp2_with fail
                refine C6.out.mono ?_
                rintro E w7 ⟨rfl, b7⟩
                have K7 := Lib.hid ((K6.out.next b7).next (below_al w7 (.cells #[.int .i64 u1, .int .i64 u2] 37)))
                have M7 := Lib.hid (B2.start w7 u1 u2)
                have O7 := Lib.hid ((O6.out.lies b7).lies (below_al w7 (.cells #[.int .i64 u1, .int .i64 u2] 37)))
                clear b7 C6 K6
                obtain ⟨W8, hW8⟩ : ∃ W8, w7.alloc (.cells #[.int .i64 u1, .int .i64 u2] 37) = W8 := ⟨_, rfl⟩
                rw [hW8] at K7 M7 O7
                have O8 := O7
                obtain ⟨x0, x1⟩ := K7.out.cells
                obtain ⟨x2, x3⟩ := M7.out.cells
                have HW8 := Lib.hid hW8
                clear hW8 O7
                go_upto_region 21 with (fail)
                rw [HW8.out]
                go_upto_region 22 with (fail)
                go_quiet (fail)
                have O9 := Lib.hid (O8.out.lies (grewN W8 nq).below)
                generalize W8.drewN nq = W9 at *
                clear O8
                have CG := Lib.hid (O9.out.get_none kid HV.out.2.2.1.1 hn)
                have kb := HV.out.2.2.2.2.next (O9.out.low)
                obtain ⟨y0, y1⟩ := kb.cells
                have kb := Lib.hid kb
                go_wp2_with fail
                refine CG.out.mono ?_
                rintro E w10 ⟨rfl, b10⟩
                have O10 := Lib.hid ((O9.out.lies b10).lies (below_al w10 (.cells #[.int .i64 0, .int .i64 0] 37)))
                have CM := Lib.hid (O10.out.move_none kid kt HV.out.2.2.1 hn)
                have lt10 : w.heap.size < w10.heap.size := (kb.out.next b10).lt
                clear y0 y1
                obtain ⟨y0, y1⟩ := (kb.out.next b10).cells
                go_wp2_with fail
                refine CM.out.mono ?_
                rintro E w11 ⟨rfl, b11⟩
                have L11 := Lib.hid (O10.out.low.trans b11)
                go_wp2_with fail
                refine (CW.out _).mono ?_
                rintro E w12 ⟨rfl, b12⟩
                have L12 := Lib.hid (L11.out.trans (b12.mono L11.out.size))
                go_wp2
                go_ret
                exact ⟨rfl, HV.out.2.2.2.1.trans (L12.out.mono HV.out.2.2.2.1.size)⟩
              · have e1 : decide ((i : Int) > 0) = true := decide_eq_true (by omega)
                have e2 : decide ((0 : Int) < (i : Int)) = true := decide_eq_true (by omega)
                have e3 : (0 : Int) < (i : Int) := by omega
                obtain ⟨p, rfl⟩ : ∃ p, i = p + 1 := ⟨i - 1, by omega⟩
                rw [if_neg (by omega)] at CF1
                simp only [if_neg (Nat.succ_ne_zero p), Nat.add_sub_cancel] at CL1
                obtain ⟨u1, hu1⟩ : ∃ u1, (S.getD 0 (0, 0)).2 = u1 := ⟨_, rfl⟩
                obtain ⟨u2, hu2⟩ : ∃ u2, (S.getD 0 (0, 0)).1 = u2 := ⟨_, rfl⟩
                obtain ⟨v1, hv1⟩ : ∃ v1, (S.getD p (0, 0)).2 = v1 := ⟨_, rfl⟩
                obtain ⟨v2, hv2⟩ : ∃ v2, (S.getD p (0, 0)).1 = v2 := ⟨_, rfl⟩
                rw [hu1, hu2] at CF1
                simp only [hv1, hv2] at CL1
                have HUV := Lib.hid (And.intro (And.intro hu1 hu2) (And.intro hv1 hv2))
                have CL2 := Lib.hid CL1
                clear CL1 hu1 hu2 hv1 hv2
                go_wp2_with fail
                refine CF1.out.mono ?_
                rintro E w6 ⟨rfl, b6⟩
                have O6 := Lib.hid ((HO.out.lies b6).lies (below_al w6 (.cells #[.int .i64 u1, .int .i64 u2] 37)))
                have C6 := Lib.hid (CL2.out _ (b6.trans ((below_al w6 (.cells #[.int .i64 u1, .int .i64 u2] 37)).mono b6.size)))
                have K6 := Lib.hid (B2.start w6 u1 u2)
                clear b6 CF1 CL2
                go_wp2_with fail
                refine C6.out.mono ?_
                rintro E w7 ⟨rfl, b7⟩
                have K7 := Lib.hid ((K6.out.next b7).next (below_al w7 (.cells #[.int .i64 v1, .int .i64 v2] 37)))
                have M7 := Lib.hid (B2.start w7 v1 v2)
                have O7 := Lib.hid ((O6.out.lies b7).lies (below_al w7 (.cells #[.int .i64 v1, .int .i64 v2] 37)))
                clear b7 C6 K6
                obtain ⟨W8, hW8⟩ : ∃ W8, w7.alloc (.cells #[.int .i64 v1, .int .i64 v2] 37) = W8 := ⟨_, rfl⟩
                rw [hW8] at K7 M7 O7
                have O8 := O7
                obtain ⟨x0, x1⟩ := K7.out.cells
                obtain ⟨x2, x3⟩ := M7.out.cells
                have HW8 := Lib.hid hW8
                clear hW8 O7
                go_upto_region 21 with (fail)
                rw [HW8.out]
                have HAL : Hid (∃ g, ra = some ⟨g, 0, none⟩ ∧ (W8.cell? ⟨g, 0, none⟩ = some (.int .i64 u1) ∧ W8.cell? ⟨g, 1, none⟩ = some (.int .i64 u2)) ∧ W8.cell? ⟨g, p * 2, none⟩ = some (.int .i64 v1) ∧ W8.cell? ⟨g, p * 2 + 1, none⟩ = some (.int .i64 v2)) := by
                  obtain ⟨g, e, _, _, a0, a1⟩ := O8.out.all.cell 0 (by omega)
                  obtain ⟨g', e', _, _, a2, a3⟩ := O8.out.all.cell p (by omega)
                  rw [e] at e'
                  cases e'
                  rw [HUV.out.1.1] at a0
                  rw [HUV.out.1.2] at a1
                  rw [HUV.out.2.1] at a2
                  rw [HUV.out.2.2] at a3
                  exact ⟨g, e, ⟨by simpa using a0, by simpa using a1⟩, a2, a3⟩
                obtain ⟨g, rfl, ⟨z0, z1⟩, z2, z3⟩ := HAL.out
                go_upto_region 22 with (fail)
                go_quiet (fail)
                have O9 := Lib.hid (O8.out.lies (grewN W8 nq).below)
                generalize W8.drewN nq = W9 at *
                clear O8 z0 z1 z2 z3 x0 x1 x2 x3 HAL
                by_cases hn : has S kid = true
                · obtain ⟨y, hy, hye⟩ := has_yes.1 hn
                  obtain ⟨yi, t0⟩ := y
                  simp only [] at hye
                  subst hye
                  have CG := Lib.hid (O9.out.get_there yi t0 hy)
                  have gt := O9.out.pq.good _ hy
                  have MB := Lib.hid (move_back O9.out.pq.diff hy gt.1.2 kt)
                  have kb := HV.out.2.2.2.2.next (O9.out.low)
                  obtain ⟨y0, y1⟩ := kb.cells
                  have kb := Lib.hid kb
                  have HY9 : Hid (Y ≤ W9.heap.size) := by
                    obtain ⟨g2, _, h1, h2, _⟩ := O9.out.all.cell 0 (by omega)
                    show Y ≤ W9.heap.size
                    omega
                  have G0 := Lib.hid gt
                  have sl : Hid (S.length < 1099511627776) := by
                    show S.length < 1099511627776
                    rw [HN.out]; omega
                  clear gt hn
                  go_wp2_with fail
                  refine CG.out.mono ?_
                  rintro E w10 ⟨rfl, b10⟩
                  have O10 := Lib.hid ((O9.out.lies b10).lies (below_al w10 (.cells #[.int .i64 t0, .int .i64 yi] 37)))
                  have K10 := Lib.hid (B2.start w10 t0 yi)
                  have HY10 : Hid (Y ≤ w10.heap.size) := Nat.le_trans HY9.out b10.size
                  have kb10 := Lib.hid ((kb.out.next b10).next (below_al w10 (.cells #[.int .i64 t0, .int .i64 yi] 37)))
                  have lt10 : w.heap.size < w10.heap.size := (kb.out.next b10).lt
                  have M10 : Hid (Mov4 Wk.heap.size Y Wk (w10.alloc (.cells #[.int .i64 t0, .int .i64 yi] 37)) q S S (some ⟨g, 0, none⟩) (p + 1)) := ⟨O10.out.pq.queue, O10.out.all, O10.out.low, O10.out.off, O10.out.pq.diff, O10.out.pq.base⟩
                  have CM := Lib.hid (M10.out.move yi kt HV.out.2.2.1)
                  have ST := Lib.hid O10.out.pq.sorted
                  clear y0 y1 
                  obtain ⟨y0, y1⟩ := (kb.out.next b10).cells
                  clear b10 O9 O10 CG kb
                  go_wp2_with fail
                  refine CM.out.mono ?_
                  rintro E w11 ⟨rfl, m11, k11⟩
                  have M11 := Lib.hid m11
                  have K11 := Lib.hid (K10.out.kept k11 (fun hs => by have := m11.off _ (.inl hs); have := HY10.out; omega))
                  obtain ⟨x0, x1⟩ := K11.out.cells
                  have CN := Lib.hid (M11.out.move yi t0 G0.out.2)
                  rw [MB.out.1] at CN
                  clear m11 k11 CM M10 K10 kb10 y0 y1
                  go_wp2_with fail
                  refine CN.out.mono ?_
                  rintro E w12 ⟨rfl, m12, _⟩
                  have M12 := Lib.hid m12
                  have CL := Lib.hid (m12.len MB.out.2.symm)
                  have CE := Lib.hid (m12.least MB.out.2.symm ST.out sl.out)
                  clear m12 CN x0 x1 M11 K11
                  go_wp2_with fail
                  refine CL.out.mono ?_
                  rintro E w13 ⟨rfl, hw13⟩
                  subst hw13
                  go_wp2_with fail
                  refine CE.out.mono ?_
                  rintro E w14 ⟨a4, c4, rfl, al4, _, b14⟩
                  have hK := keys4_same al4 (M12.out.lies b14).all (by omega) c4 rc
                  have CK := Lib.hid hK
                  have L14 := Lib.hid (M12.out.lies b14).low
                  have B14 := Lib.hid (M12.out.lies b14).base
                  clear al4 b14 CE CL hK
                  go_wp2_with fail
                  refine CK.out.mono ?_
                  rintro E w15 ⟨rfl, b15⟩
                  have L15 := Lib.hid (L14.out.trans (b15.mono B14.out))
                  clear b15 CK
                  go_wp2_with fail
                  refine (CW.out _).mono ?_
                  rintro E w16 ⟨rfl, b16⟩
                  have L16 := Lib.hid (L15.out.trans (b16.mono L15.out.size))
                  go_wp2
                  go_ret
                  exact ⟨rfl, HV.out.2.2.2.1.trans (L16.out.mono HV.out.2.2.2.1.size)⟩
                · have hn : has S kid = false := by simpa using hn
                  have CG := Lib.hid (O9.out.get_none kid HV.out.2.2.1.1 hn)
                  have kb := HV.out.2.2.2.2.next (O9.out.low)
                  obtain ⟨y0, y1⟩ := kb.cells
                  have kb := Lib.hid kb
                  go_wp2_with fail
                  refine CG.out.mono ?_
                  rintro E w10 ⟨rfl, b10⟩
                  have O10 := Lib.hid ((O9.out.lies b10).lies (below_al w10 (.cells #[.int .i64 0, .int .i64 0] 37)))
                  have CM := Lib.hid (O10.out.move_none kid kt HV.out.2.2.1 hn)
                  have lt10 : w.heap.size < w10.heap.size := (kb.out.next b10).lt
                  clear y0 y1
                  obtain ⟨y0, y1⟩ := (kb.out.next b10).cells
                  go_wp2_with fail
                  refine CM.out.mono ?_
                  rintro E w11 ⟨rfl, b11⟩
                  have L11 := Lib.hid (O10.out.low.trans b11)
                  go_wp2_with fail
                  refine (CW.out _).mono ?_
                  rintro E w12 ⟨rfl, b12⟩
                  have L12 := Lib.hid (L11.out.trans (b12.mono L11.out.size))
                  go_wp2
                  go_ret
                  exact ⟨rfl, HV.out.2.2.2.1.trans (L12.out.mono HV.out.2.2.2.1.size)⟩

theorem walk_ReadyOrder (a : Option Addr) (len cap : Nat) (m kt kid : Int) (w : World) (hv : len ≤ 9223372036854775807 ∧ ∃ V A, OpsAt4 w a len V A) (hm : -9223372036854775808 ≤ m ∧ m ≤ 9223372036854775807) (ht : -9223372036854775808 ≤ kt ∧ kt ≤ 9223372036854775807) (hi : -9223372036854775808 ≤ kid ∧ kid ≤ 9223372036854775807) :
    Calls Try.prog 5 #[.slice a len cap, .int .i64 m, .agg #[.int .i64 kt, .int .i64 kid]] w fun E w' => E = .returned (.bool true) ∧ Below w.heap.size w w' := by
  obtain ⟨hn, V, A, hv⟩ := hv
  by_cases hf : Few4 len V
  · exact order4_core a len cap hn V A hf m kt kid ⟨⟨by omega, by omega⟩, ⟨by omega, by omega⟩⟩ w hv
  · exact order4_long a len cap hn V A hf m kt kid w hv
end Go.Proofs.Ytcipilggddpnpaa
