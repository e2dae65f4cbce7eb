/-
  slices.SortFunc's family at entries: pdqsort, whole.
-/
import Derived.Test.YtcipilggddpnpaaSkB
import Derived.Test.YtcipilggddpnpaaSkF
import Derived.Test.YtcipilggddpnpaaSkG
import Derived.Test.YtcipilggddpnpaaSkH
import Derived.Sort.Walk13
import Derived.Sort.AssemblyPlain
namespace Go.Proofs.Ytcipilggddpnpaa.K
open Go.RowKit Go.Sort Go.Shelf Go.Maps
set_option linter.unusedVariables false
set_option linter.unusedSimpArgs false

set_option maxHeartbeats 32000000 in
set_option maxRecDepth 100000 in
theorem pdq_any (g : Nat) (rc : Value) (cf : Ent → Ent → Int) (rb cap : Nat) (w0 : World) (hC : CmpOk g rc cf rb w0) (hO : SWO (lo cf)) (n : Nat) (hsm : n ≤ 1099511627776) :
    ∀ (N a b limit : Nat) (d : Array Ent) (w : World), b - a < N → d.size = n → Srt w0 rb cap d w → a ≤ b → b ≤ n → limit < 4611686018427387904 → Go.Sort.Below (lo cf) a b d →
    Calls Try.prog 96 #[.slice (some ⟨rb, 0, none⟩) n cap, .int .i64 a, .int .i64 b, .int .i64 limit, .func (.func g) #[rc] #[]] w fun e w' => e = .returned (.tuple #[]) ∧ Srt w0 rb cap (pdq (lo cf) d a b limit true true) w' := by
  have mixed : Try.prog.follows .mixedOrders = true := by kernel_rfl
  have eg := hC.enters
  have HC := Lib.hid hC
  have HO := Lib.hid hO
  clear hC hO
  intro N
  induction N with
  | zero => intro _ _ _ _ _ h; exact absurd h (Nat.not_lt_zero _)
  | succ N ih =>
    intro a b limit d w hN hn hS hab hbn hlim hBel
    have IH : Hid (∀ (a b limit : Nat) (d : Array Ent) (w : World), b - a < N → d.size = n → Srt w0 rb cap d w → a ≤ b → b ≤ n → limit < 4611686018427387904 → Go.Sort.Below (lo cf) a b d →
      Calls Try.prog 96 #[.slice (some ⟨rb, 0, none⟩) n cap, .int .i64 a, .int .i64 b, .int .i64 limit, .func (.func g) #[rc] #[]] w fun e w' => e = .returned (.tuple #[]) ∧ Srt w0 rb cap (pdq (lo cf) d a b limit true true) w') := ih
    have H0 : Hid (d.size = n ∧ Srt w0 rb cap d w ∧ Go.Sort.Below (lo cf) a b d) := ⟨hn, hS, hBel⟩
    clear ih hn hS hBel
    go_enter Try.func96, Try.ntmps96
    go_wp2_with fail
    go_loopg [1, 2, 3, 10, 11] (b - a) (fun kx s1 s2 s3 s4 s5 wr => ∃ (a' b' l : Nat) (wb wp : Bool) (dk : Array Ent), s1 = .int .i64 a' ∧ s2 = .int .i64 b' ∧ s3 = .int .i64 l ∧ s4 = .bool wb ∧ s5 = .bool wp ∧ a' ≤ b' ∧ b' ≤ n ∧ b' - a' ≤ kx ∧ kx ≤ b - a ∧ l ≤ limit ∧ Hid (dk.size = n ∧ Srt w0 rb cap dk wr ∧ Go.Sort.Below (lo cf) a' b' dk ∧ pdq (lo cf) dk a' b' l wb wp = pdq (lo cf) d a b limit true true))
    case atStart => exact ⟨a, b, limit, true, true, d, rfl, rfl, rfl, rfl, rfl, hab, hbn, Nat.le_refl _, Nat.le_refl _, Nat.le_refl _, H0.out.1, H0.out.2.1, H0.out.2.2, rfl⟩
    case round =>
      rename World => W1
      obtain ⟨a', b', l, wb, wp, dk, rfl, rfl, rfl, rfl, rfl, hab', hbn', hkx, hkN, hll, HR0⟩ := hrel
      have HN : Hid (dk.size = n) := HR0.out.1
      have HK : Hid (Srt w0 rb cap dk W1) := HR0.out.2.1
      have HB : Hid (Go.Sort.Below (lo cf) a' b' dk) := HR0.out.2.2.1
      have HQ : Hid (pdq (lo cf) dk a' b' l wb wp = pdq (lo cf) d a b limit true true) := HR0.out.2.2.2
      clear HR0 H0
      obtain ⟨L, hL⟩ : ∃ L, b' - a' = L := ⟨_, rfl⟩
      obtain ⟨e8, he8⟩ : ∃ e8, L / 8 = e8 := ⟨_, rfl⟩
      have z1 : (b' : Int) - (a' : Int) = (L : Int) := by omega
      have z2 : IntKind.i64.wrap (L : Int) = (L : Int) := by rw [IntKind.wrap_i64]; omega
      have z3 : (L : Int).tdiv 8 = (e8 : Int) := by rw [Int.tdiv_eq_ediv_of_nonneg (by omega)]; omega
      have z4 : IntKind.i64.wrap (e8 : Int) = (e8 : Int) := by rw [IntKind.wrap_i64]; omega
      by_cases h12 : L ≤ 12
      · have h12z : decide ((L : Int) ≤ 12) = true := decide_eq_true (by omega)
        have C := Lib.hid (insertion_any g rc cf rb cap w0 HC.out dk n HN.out hsm a' b' hab' hbn' W1 HK.out)
        go_wp2_with (go_at_call 106; (with_reducible refine C.out.mono ?_); rintro e W2 ⟨rfl, hh⟩; have H2 := Lib.hid hh; clear hh)
        refine bodyPost_ret (results_none rfl _ _ _) rfl ?_
        exact ⟨rfl, by rw [← HQ.out, pdq_small (by omega)]; exact H2.out⟩
      · have h12z : decide ((L : Int) ≤ 12) = false := decide_eq_false (by omega)
        by_cases hl0 : l = 0
        · have hl0z : ((l : Int) == 0) = true := beq_iff_eq.2 (by omega)
          have C := Lib.hid (heapSort_any g rc cf rb cap w0 HC.out dk n HN.out hsm a' b' (by omega) hbn' W1 HK.out)
          have HL0 := Lib.hid hl0
          clear hl0
          go_wp2_with (go_at_call 107; (with_reducible refine C.out.mono ?_); rintro e W2 ⟨rfl, hh⟩; have H2 := Lib.hid hh; clear hh)
          refine bodyPost_ret (results_none rfl _ _ _) rfl ?_
          exact ⟨rfl, by rw [← HQ.out, pdq_heap (by omega) HL0.out]; exact H2.out⟩
        · have hl0z : ((l : Int) == 0) = false := beq_eq_false_iff_ne.2 (by omega)
          obtain ⟨r, hr⟩ : ∃ r, r = rd (lo cf) dk a' b' l wb wp := ⟨_, rfl⟩
          obtain ⟨s1, B1, hcp, s2, B2, hpv, s3, B3⟩ := rd_facts (lt := lo cf) (limit := l) (wb := wb) (wp := wp) HO.out partialInsertionSort_holds reverseRange_holds (show a' < b' by omega) (show b' ≤ dk.size by rw [HN.out]; omega) HB.out
          rw [← hr] at s1 hcp s2 hpv s3 B3
          have HF : Hid (r.d1.size = n ∧ r.d2.size = n ∧ r.pi.1.size = n ∧ Go.Sort.Below (lo cf) a' b' r.pi.1) := ⟨s1.trans HN.out, s2.trans HN.out, s3.trans HN.out, B3⟩
          obtain ⟨hcp1, hcp2⟩ := hcp
          obtain ⟨hpv1, hpv2⟩ := hpv
          have hrl : r.lim ≤ l := by rw [hr]; exact rd_lim_le
          have HR := Lib.hid hr
          have E1 : Hid (r.d1 = (if (!wb) = true then breakPatterns dk a' b' else dk) ∧ r.lim = (if (!wb) = true then l - 1 else l)) := by rw [hr]; exact ⟨rfl, rfl⟩
          have E2 : Hid (choosePivot (lo cf) r.d1 a' b' = r.c) := by rw [hr]; rfl
          have E3 : Hid (r.c.2 = .decreasing → r.d2 = reverseRange r.d1 a' b' ∧ r.pivot = (b' - 1) - (r.c.1 - a') ∧ r.hint = .increasing) := by rw [hr]; exact rd_dec
          have E4 : Hid (r.c.2 ≠ .decreasing → r.d2 = r.d1 ∧ r.pivot = r.c.1 ∧ r.hint = r.c.2) := by rw [hr]; exact rd_not
          have E5 : Hid ((wb && wp && decide (r.hint = .increasing)) = true → r.pi = partialInsertionSort (lo cf) r.d2 a' b') := by rw [hr]; exact rd_pi_yes
          have E6 : Hid ((wb && wp && decide (r.hint = .increasing)) = false → r.pi = (r.d2, false)) := by rw [hr]; exact rd_pi_no
          clear hr s1 s2 s3 B1 B2 B3
          have lw : IntKind.i64.wrap ((l : Int) - 1) = (l : Int) - 1 := by rw [IntKind.wrap_i64]; omega
          have bw : IntKind.i64.wrap ((b' : Int) - 1) = (b' : Int) - 1 := by rw [IntKind.wrap_i64]; omega
          have cw : IntKind.i64.wrap ((r.c.1 : Int) - (a' : Int)) = (r.c.1 : Int) - (a' : Int) := by rw [IntKind.wrap_i64]; omega
          go_upto_if 39 with fail
          go_cut [3] from 21 (fun s wc => s = .int .i64 r.lim ∧ Hid (Srt w0 rb cap r.d1 wc))
          case first =>
            cases wb with
            | false =>
              have C := Lib.hid (break_any g rc rb cap w0 dk n HN.out hsm a' b' (by omega) (by omega) W1 HK.out)
              go_wp2_with (go_at_call 108; (with_reducible refine C.out.mono ?_); rintro e W2 ⟨rfl, hh⟩; have H2 := Lib.hid hh; clear hh)
              go_meet
              case rel => exact ⟨by rw [E1.out.2]; show Value.int .i64 ((l : Int) - 1) = Value.int .i64 ((l - 1 : Nat) : Int); congr 1; omega, by rw [E1.out.1]; exact H2.out⟩
            | true =>
              go_wp2_with fail
              go_meet
              case rel => exact ⟨by rw [E1.out.2]; rfl, by rw [E1.out.1]; exact HK.out⟩
          case rest =>
            obtain ⟨rfl, HD1⟩ := hcut
            have C2 := Lib.hid (choose_any g rc cf rb cap w0 HC.out r.d1 n HF.out.1 hsm a' b' (by omega) (by omega) wc HD1.out)
            rw [E2.out] at C2
            clear HK HN HB HD1
            go_upto_if 56 with (go_at_call 109; (with_reducible refine C2.out.mono ?_); rintro e W2 ⟨rfl, hh⟩; have H2 := Lib.hid hh; clear hh)
            go_cut [13, 14] from 21 (fun s t wc => s = .int .i64 r.pivot ∧ t = .int .i64 (hintZ r.hint) ∧ Hid (Srt w0 rb cap r.d2 wc))
            case first =>
              by_cases hh : r.c.2 = .decreasing
              · have hz : hintZ r.c.2 = 2 := by rw [hh]; rfl
                obtain ⟨f1, f2, f3⟩ := E3.out hh
                have F1 := Lib.hid f1
                have F3 := Lib.hid f3
                have pw : IntKind.i64.wrap ((b' : Int) - 1 - ((r.c.1 : Int) - (a' : Int))) = (r.pivot : Int) := by rw [IntKind.wrap_i64]; omega
                clear f1 f2 f3 hh
                have C3 := Lib.hid (reverse_any (.func (.func g) #[rc] #[]) rb cap w0 r.d1 n HF.out.1 hsm a' b' (by omega) (by omega) W2 H2.out)
                go_wp2_with (go_at_call 110; (with_reducible refine C3.out.mono ?_); rintro e W3 ⟨rfl, hh⟩; have H3 := Lib.hid hh; clear hh)
                go_meet
                case rel => exact ⟨rfl, by rw [F3.out]; rfl, by rw [F1.out]; exact H3.out⟩
              · have hz : (hintZ r.c.2 == 2) = false := by cases h : r.c.2 <;> first | rfl | exact absurd h hh
                obtain ⟨f1, f2, f3⟩ := E4.out hh
                have F1 := Lib.hid (And.intro f1 (And.intro f2 f3))
                clear f1 f2 f3 hh
                go_wp2_with fail
                go_meet
                case rel => exact ⟨by rw [F1.out.2.1], by rw [F1.out.2.2], by rw [F1.out.1]; exact H2.out⟩
            case rest =>
              obtain ⟨rfl, rfl, HD2⟩ := hcut
              clear H2
              rename World => W3
              go_upto_region 15 with fail
              go_cut [14, 75] from 21 (fun s t wx => s = .int .i64 (hintZ r.hint) ∧ t = .bool (wb && wp && decide (r.hint = .increasing)) ∧ wx = W3)
              case first =>
                cases wb <;> cases wp <;> cases hh3 : r.hint <;>
                  (have hc3 := congrArg hintZ hh3
                   simp only [hintZ] at hc3
                   go_wp2_with fail
                   go_meet
                   exact ⟨by simp [hh3, hintZ], by simp [hh3, hintZ], rfl⟩)
              case rest =>
                obtain ⟨rfl, rfl, hW⟩ := hcut
                subst hW
                go_upto_if 75 with fail
                go_cut [] from 21 (fun wx => r.pi.2 = false ∧ Hid (Srt w0 rb cap r.pi.1 wx))
                case first =>
                  cases h68 : (wb && wp && decide (r.hint = .increasing)) with
                  | false =>
                    have F1 := Lib.hid (E6.out h68)
                    go_wp2_with fail
                    go_meet
                    case rel => exact ⟨by rw [F1.out], by rw [F1.out]; exact HD2.out⟩
                  | true =>
                    have C4 := Lib.hid (partialIns_any g rc cf rb cap w0 HC.out r.d2 n HF.out.2.1 hsm a' b' (by omega) (by omega) _ HD2.out)
                    rw [← E5.out h68] at C4
                    cases hp2 : r.pi.2 with
                    | false =>
                      rw [hp2] at C4
                      have HP2 := Lib.hid hp2
                      clear hp2
                      go_wp2_with (go_at_call 111; (with_reducible refine C4.out.mono ?_); rintro e W4 ⟨rfl, hh⟩; have H4 := Lib.hid hh; clear hh)
                      go_meet
                      exact ⟨HP2.out, H4.out⟩
                    | true =>
                      rw [hp2] at C4
                      have HP2 := Lib.hid hp2
                      clear hp2
                      go_wp2_with (go_at_call 111; (with_reducible refine C4.out.mono ?_); rintro e W4 ⟨rfl, hh⟩; have H4 := Lib.hid hh; clear hh)
                      refine bodyPost_ret (results_none rfl _ _ _) rfl ?_
                      have hp3 := HP2.out
                      have h4 := H4.out
                      rw [HR.out] at hp3 h4
                      exact ⟨rfl, by rw [← HQ.out, pdq_done (by omega) hl0 hp3]; exact h4⟩
                case rest =>
                  obtain ⟨hp2, HD3⟩ := hcut
                  have hp2a := Lib.hid hp2
                  clear hp2
                  by_cases ha0 : a' = 0
                  · have g1 : decide ((a' : Int) > 0) = false := decide_eq_false (by omega)
                    have g2 : decide ((0 : Int) < (a' : Int)) = false := decide_eq_false (by omega)
                    have g3 : decide (0 < a') = false := decide_eq_false (by omega)
                    have HA0 := Lib.hid ha0
                    clear ha0
                    go_wp2_with fail
                    go_quiet (fail)
                    have H6 := Lib.hid (HD3.out.grew (grewD _ nq))
                    clear HD3
                    have h87a : Hid ((decide (a' > 0) && !lo cf r.pi.1[a' - 1]! r.pi.1[r.pivot]!) = false) := by show (decide (a' > 0) && _) = false; rw [decide_eq_false (by have := HA0.out; omega)]; rfl
                    obtain ⟨mid, ap, d4, hx⟩ : ∃ mid ap d4, partition (lo cf) r.pi.1 a' b' r.pivot = (mid, ap, d4) := ⟨_, _, _, rfl⟩
                    obtain ⟨hm1, hm2, r3, r4, r5, r6, r7⟩ := round_part HO.out (partition_holds (lo cf)) hpv1 hpv2 (show b' ≤ r.pi.1.size by rw [HF.out.2.2.1]; omega) HF.out.2.2.2 hx
                    have C6 := Lib.hid (part_any g rc cf rb cap w0 HC.out r.pi.1 n HF.out.2.2.1 hsm a' b' r.pivot (by omega) (by omega) (by omega) _ H6.out)
                    rw [hx] at C6
                    have X : Hid (partition (lo cf) r.pi.1 a' b' r.pivot = (mid, ap, d4) ∧ d4.size = n ∧ Go.Sort.Below (lo cf) a' mid d4 ∧ Go.Sort.Below (lo cf) (mid + 1) b' d4 ∧ _ ∧ _) := ⟨hx, by rw [r3]; exact HF.out.2.2.1, r4, r5, r6, r7⟩
                    clear hx r3 r4 r5 r6 r7 H6
                    obtain ⟨x1, hx1⟩ : ∃ x1, mid - a' = x1 := ⟨_, rfl⟩
                    obtain ⟨x2, hx2⟩ : ∃ x2, b' - mid = x2 := ⟨_, rfl⟩
                    have m1 : (mid : Int) - (a' : Int) = (x1 : Int) := by omega
                    have m2 : (b' : Int) - (mid : Int) = (x2 : Int) := by omega
                    have m3 : IntKind.i64.wrap (x1 : Int) = (x1 : Int) := by rw [IntKind.wrap_i64]; omega
                    have m4 : IntKind.i64.wrap (x2 : Int) = (x2 : Int) := by rw [IntKind.wrap_i64]; omega
                    have m5 : IntKind.i64.wrap ((mid : Int) + 1) = (mid : Int) + 1 := by rw [IntKind.wrap_i64]; omega
                    go_upto_if 125 with (go_at_call 113; (with_reducible refine C6.out.mono ?_); rintro e W7 ⟨rfl, hh⟩; have H7 := Lib.hid hh; clear hh)
                    by_cases h4 : mid - a' < b' - mid
                    · skip
                      have h4z : decide ((x1 : Int) < (x2 : Int)) = true := decide_eq_true (by omega)
                      have C7 : Hid (Calls Try.prog 96 #[.slice (some ⟨rb, 0, none⟩) n cap, .int .i64 (a' : Int), .int .i64 mid, .int .i64 r.lim, .func (.func g) #[rc] #[]] W7 fun e w' => e = .returned (.tuple #[]) ∧ Srt w0 rb cap (pdq (lo cf) d4 (a') (mid) r.lim true true) w') := by
                        have hh := IH.out (a') (mid) r.lim d4 W7 (by omega) X.out.2.1 H7.out (by omega) (by omega) (by omega) X.out.2.2.1
                        exact hh
                      obtain ⟨pL, sL⟩ := pdq_sorts (lo cf) HO.out d4 (a') (mid) r.lim true true (by omega) (by rw [X.out.2.1]; omega) X.out.2.2.1
                      have Y : Hid ((pdq (lo cf) d4 (a') (mid) r.lim true true).size = n ∧ Go.Sort.Below (lo cf) (mid + 1) (b') (pdq (lo cf) d4 (a') (mid) r.lim true true) ∧ pdq (lo cf) (pdq (lo cf) d4 (a') (mid) r.lim true true) (mid + 1) (b') r.lim (decide (mid - a' ≥ (b' - a') / 8)) ap = pdq (lo cf) d a b limit true true) := by
                        refine ⟨by rw [pL.1]; exact X.out.2.1, (X.out.2.2.2.2.1 _ pL sL).1, ?_⟩
                        have hx := X.out.1
                        have h87 := h87a.out
                        have hp2 := hp2a.out
                        rw [HR.out] at hx h87 hp2
                        rw [← HQ.out, pdq_left (by omega) hl0 hp2 h87 (by rw [hx]; exact ⟨hm1, hm2⟩) (by rw [hx]; exact h4), hx, ← HR.out]
                      clear pL sL
                      go_wp2_with (go_at_call 96; (with_reducible refine C7.out.mono ?_); rintro e W8 ⟨rfl, hh⟩; have H8 := Lib.hid hh; clear hh)
                      go_roundg (b' - (mid + 1))
                      case measure => omega
                      case rel => exact ⟨mid + 1, b', r.lim, decide (mid - a' ≥ (b' - a') / 8), ap, pdq (lo cf) d4 (a') (mid) r.lim true true, by first | rfl | go_num, by first | rfl | go_num, rfl, congrArg Value.bool (decide_eq_decide.2 (by omega)), rfl, by omega, by omega, Nat.le_refl _, by omega, by omega, (show Hid _ from ⟨Y.out.1, H8.out, Y.out.2.1, Y.out.2.2⟩)⟩
                    · skip
                      have h4z : decide ((x1 : Int) < (x2 : Int)) = false := decide_eq_false (by omega)
                      have C7 : Hid (Calls Try.prog 96 #[.slice (some ⟨rb, 0, none⟩) n cap, .int .i64 ((mid : Int) + 1), .int .i64 b', .int .i64 r.lim, .func (.func g) #[rc] #[]] W7 fun e w' => e = .returned (.tuple #[]) ∧ Srt w0 rb cap (pdq (lo cf) d4 (mid + 1) (b') r.lim true true) w') := by
                        have hh := IH.out (mid + 1) (b') r.lim d4 W7 (by omega) X.out.2.1 H7.out (by omega) (by omega) (by omega) X.out.2.2.2.1
                        rwa [show ((mid + 1 : Nat) : Int) = (mid : Int) + 1 by omega] at hh
                      obtain ⟨pL, sL⟩ := pdq_sorts (lo cf) HO.out d4 (mid + 1) (b') r.lim true true (by omega) (by rw [X.out.2.1]; omega) X.out.2.2.2.1
                      have Y : Hid ((pdq (lo cf) d4 (mid + 1) (b') r.lim true true).size = n ∧ Go.Sort.Below (lo cf) (a') (mid) (pdq (lo cf) d4 (mid + 1) (b') r.lim true true) ∧ pdq (lo cf) (pdq (lo cf) d4 (mid + 1) (b') r.lim true true) (a') (mid) r.lim (decide (b' - mid ≥ (b' - a') / 8)) ap = pdq (lo cf) d a b limit true true) := by
                        refine ⟨by rw [pL.1]; exact X.out.2.1, (X.out.2.2.2.2.2 _ pL sL).1, ?_⟩
                        have hx := X.out.1
                        have h87 := h87a.out
                        have hp2 := hp2a.out
                        rw [HR.out] at hx h87 hp2
                        rw [← HQ.out, pdq_right (by omega) hl0 hp2 h87 (by rw [hx]; exact ⟨hm1, hm2⟩) (by rw [hx]; exact h4), hx, ← HR.out]
                      clear pL sL
                      go_wp2_with (go_at_call 96; (with_reducible refine C7.out.mono ?_); rintro e W8 ⟨rfl, hh⟩; have H8 := Lib.hid hh; clear hh)
                      go_roundg (mid - a')
                      case measure => omega
                      case rel => exact ⟨a', mid, r.lim, decide (b' - mid ≥ (b' - a') / 8), ap, pdq (lo cf) d4 (mid + 1) (b') r.lim true true, by first | rfl | go_num, by first | rfl | go_num, rfl, congrArg Value.bool (decide_eq_decide.2 (by omega)), rfl, by omega, by omega, Nat.le_refl _, by omega, by omega, (show Hid _ from ⟨Y.out.1, H8.out, Y.out.2.1, Y.out.2.2⟩)⟩
                  · have g1 : decide ((a' : Int) > 0) = true := decide_eq_true (by omega)
                    have g6 : decide ((0 : Int) < (a' : Int)) = true := decide_eq_true (by omega)
                    have g7 : decide (0 < a') = true := decide_eq_true (by omega)
                    obtain ⟨q, hq⟩ : ∃ q, a' - 1 = q := ⟨_, rfl⟩
                    have g2 : (a' : Int) - 1 = (q : Int) := by omega
                    have g3 : IntKind.i64.wrap (q : Int) = (q : Int) := by rw [IntKind.wrap_i64]; omega
                    have g4 : (q : Int) < (n : Int) := by omega
                    have g5 : (r.pivot : Int) < (n : Int) := by omega
                    obtain ⟨c1, c2, c2b, c3, c4, c4b, c5⟩ := HD3.out.ask HC.out (i := q) (j := r.pivot) (by rw [HF.out.2.2.1]; omega) (by rw [HF.out.2.2.1]; omega)
                    obtain ⟨z, hz'⟩ : ∃ z, cf r.pi.1[q]! r.pi.1[r.pivot]! = z := ⟨_, rfl⟩
                    have HZ := Lib.hid hz'
                    rw [hz'] at c5
                    clear hz'
                    generalize (r.pi.1[q]!).1 = y1 at c1 c5
                    generalize (r.pi.1[q]!).2.1 = y2 at c2 c5
                    generalize (r.pi.1[q]!).2.2 = y2b at c2b c5
                    generalize (r.pi.1[r.pivot]!).1 = y3 at c3 c5
                    generalize (r.pi.1[r.pivot]!).2.1 = y4 at c4 c5
                    generalize (r.pi.1[r.pivot]!).2.2 = y4b at c4b c5
                    by_cases hz : z < 0
                    · have hd : decide (z < 0) = true := decide_eq_true hz
                      go_wp2_with fail
                      go_quiet_grown (first | (go_at_fn g; refine Calls.grown_of (c5 _ _).out))
                      have H6 := Lib.hid (HD3.out.grew (grewN _ nq osq))
                      clear HD3 c1 c2 c2b c3 c4 c4b c5
                      have h87a : Hid ((decide (a' > 0) && !lo cf r.pi.1[a' - 1]! r.pi.1[r.pivot]!) = false) := by show (_ && !decide (cf r.pi.1[a' - 1]! r.pi.1[r.pivot]! < 0)) = false; rw [hq, HZ.out, hd]; simp
                      obtain ⟨mid, ap, d4, hx⟩ : ∃ mid ap d4, partition (lo cf) r.pi.1 a' b' r.pivot = (mid, ap, d4) := ⟨_, _, _, rfl⟩
                      obtain ⟨hm1, hm2, r3, r4, r5, r6, r7⟩ := round_part HO.out (partition_holds (lo cf)) hpv1 hpv2 (show b' ≤ r.pi.1.size by rw [HF.out.2.2.1]; omega) HF.out.2.2.2 hx
                      have C6 := Lib.hid (part_any g rc cf rb cap w0 HC.out r.pi.1 n HF.out.2.2.1 hsm a' b' r.pivot (by omega) (by omega) (by omega) _ H6.out)
                      rw [hx] at C6
                      have X : Hid (partition (lo cf) r.pi.1 a' b' r.pivot = (mid, ap, d4) ∧ d4.size = n ∧ Go.Sort.Below (lo cf) a' mid d4 ∧ Go.Sort.Below (lo cf) (mid + 1) b' d4 ∧ _ ∧ _) := ⟨hx, by rw [r3]; exact HF.out.2.2.1, r4, r5, r6, r7⟩
                      clear hx r3 r4 r5 r6 r7 H6
                      obtain ⟨x1, hx1⟩ : ∃ x1, mid - a' = x1 := ⟨_, rfl⟩
                      obtain ⟨x2, hx2⟩ : ∃ x2, b' - mid = x2 := ⟨_, rfl⟩
                      have m1 : (mid : Int) - (a' : Int) = (x1 : Int) := by omega
                      have m2 : (b' : Int) - (mid : Int) = (x2 : Int) := by omega
                      have m3 : IntKind.i64.wrap (x1 : Int) = (x1 : Int) := by rw [IntKind.wrap_i64]; omega
                      have m4 : IntKind.i64.wrap (x2 : Int) = (x2 : Int) := by rw [IntKind.wrap_i64]; omega
                      have m5 : IntKind.i64.wrap ((mid : Int) + 1) = (mid : Int) + 1 := by rw [IntKind.wrap_i64]; omega
                      go_upto_if 125 with (go_at_call 113; (with_reducible refine C6.out.mono ?_); rintro e W7 ⟨rfl, hh⟩; have H7 := Lib.hid hh; clear hh)
                      by_cases h4 : mid - a' < b' - mid
                      · skip
                        have h4z : decide ((x1 : Int) < (x2 : Int)) = true := decide_eq_true (by omega)
                        have C7 : Hid (Calls Try.prog 96 #[.slice (some ⟨rb, 0, none⟩) n cap, .int .i64 (a' : Int), .int .i64 mid, .int .i64 r.lim, .func (.func g) #[rc] #[]] W7 fun e w' => e = .returned (.tuple #[]) ∧ Srt w0 rb cap (pdq (lo cf) d4 (a') (mid) r.lim true true) w') := by
                          have hh := IH.out (a') (mid) r.lim d4 W7 (by omega) X.out.2.1 H7.out (by omega) (by omega) (by omega) X.out.2.2.1
                          exact hh
                        obtain ⟨pL, sL⟩ := pdq_sorts (lo cf) HO.out d4 (a') (mid) r.lim true true (by omega) (by rw [X.out.2.1]; omega) X.out.2.2.1
                        have Y : Hid ((pdq (lo cf) d4 (a') (mid) r.lim true true).size = n ∧ Go.Sort.Below (lo cf) (mid + 1) (b') (pdq (lo cf) d4 (a') (mid) r.lim true true) ∧ pdq (lo cf) (pdq (lo cf) d4 (a') (mid) r.lim true true) (mid + 1) (b') r.lim (decide (mid - a' ≥ (b' - a') / 8)) ap = pdq (lo cf) d a b limit true true) := by
                          refine ⟨by rw [pL.1]; exact X.out.2.1, (X.out.2.2.2.2.1 _ pL sL).1, ?_⟩
                          have hx := X.out.1
                          have h87 := h87a.out
                          have hp2 := hp2a.out
                          rw [HR.out] at hx h87 hp2
                          rw [← HQ.out, pdq_left (by omega) hl0 hp2 h87 (by rw [hx]; exact ⟨hm1, hm2⟩) (by rw [hx]; exact h4), hx, ← HR.out]
                        clear pL sL
                        go_wp2_with (go_at_call 96; (with_reducible refine C7.out.mono ?_); rintro e W8 ⟨rfl, hh⟩; have H8 := Lib.hid hh; clear hh)
                        go_roundg (b' - (mid + 1))
                        case measure => omega
                        case rel => exact ⟨mid + 1, b', r.lim, decide (mid - a' ≥ (b' - a') / 8), ap, pdq (lo cf) d4 (a') (mid) r.lim true true, by first | rfl | go_num, by first | rfl | go_num, rfl, congrArg Value.bool (decide_eq_decide.2 (by omega)), rfl, by omega, by omega, Nat.le_refl _, by omega, by omega, (show Hid _ from ⟨Y.out.1, H8.out, Y.out.2.1, Y.out.2.2⟩)⟩
                      · skip
                        have h4z : decide ((x1 : Int) < (x2 : Int)) = false := decide_eq_false (by omega)
                        have C7 : Hid (Calls Try.prog 96 #[.slice (some ⟨rb, 0, none⟩) n cap, .int .i64 ((mid : Int) + 1), .int .i64 b', .int .i64 r.lim, .func (.func g) #[rc] #[]] W7 fun e w' => e = .returned (.tuple #[]) ∧ Srt w0 rb cap (pdq (lo cf) d4 (mid + 1) (b') r.lim true true) w') := by
                          have hh := IH.out (mid + 1) (b') r.lim d4 W7 (by omega) X.out.2.1 H7.out (by omega) (by omega) (by omega) X.out.2.2.2.1
                          rwa [show ((mid + 1 : Nat) : Int) = (mid : Int) + 1 by omega] at hh
                        obtain ⟨pL, sL⟩ := pdq_sorts (lo cf) HO.out d4 (mid + 1) (b') r.lim true true (by omega) (by rw [X.out.2.1]; omega) X.out.2.2.2.1
                        have Y : Hid ((pdq (lo cf) d4 (mid + 1) (b') r.lim true true).size = n ∧ Go.Sort.Below (lo cf) (a') (mid) (pdq (lo cf) d4 (mid + 1) (b') r.lim true true) ∧ pdq (lo cf) (pdq (lo cf) d4 (mid + 1) (b') r.lim true true) (a') (mid) r.lim (decide (b' - mid ≥ (b' - a') / 8)) ap = pdq (lo cf) d a b limit true true) := by
                          refine ⟨by rw [pL.1]; exact X.out.2.1, (X.out.2.2.2.2.2 _ pL sL).1, ?_⟩
                          have hx := X.out.1
                          have h87 := h87a.out
                          have hp2 := hp2a.out
                          rw [HR.out] at hx h87 hp2
                          rw [← HQ.out, pdq_right (by omega) hl0 hp2 h87 (by rw [hx]; exact ⟨hm1, hm2⟩) (by rw [hx]; exact h4), hx, ← HR.out]
                        clear pL sL
                        go_wp2_with (go_at_call 96; (with_reducible refine C7.out.mono ?_); rintro e W8 ⟨rfl, hh⟩; have H8 := Lib.hid hh; clear hh)
                        go_roundg (mid - a')
                        case measure => omega
                        case rel => exact ⟨a', mid, r.lim, decide (b' - mid ≥ (b' - a') / 8), ap, pdq (lo cf) d4 (mid + 1) (b') r.lim true true, by first | rfl | go_num, by first | rfl | go_num, rfl, congrArg Value.bool (decide_eq_decide.2 (by omega)), rfl, by omega, by omega, Nat.le_refl _, by omega, by omega, (show Hid _ from ⟨Y.out.1, H8.out, Y.out.2.1, Y.out.2.2⟩)⟩
                    · have hd : decide (z < 0) = false := decide_eq_false hz
                      go_wp2_with fail
                      go_quiet_grown (first | (go_at_fn g; refine Calls.grown_of (c5 _ _).out))
                      have H6 := Lib.hid (HD3.out.grew (grewN _ nq osq))
                      clear HD3 c1 c2 c2b c3 c4 c4b c5
                      have hlt : lo cf r.pi.1[a' - 1]! r.pi.1[r.pivot]! = false := by show decide (cf r.pi.1[a' - 1]! r.pi.1[r.pivot]! < 0) = false; rw [hq, HZ.out, hd]
                      have h87a : Hid ((decide (a' > 0) && !lo cf r.pi.1[a' - 1]! r.pi.1[r.pivot]!) = true) := by show (decide (a' > 0) && !lo cf r.pi.1[a' - 1]! r.pi.1[r.pivot]!) = true; rw [hlt, decide_eq_true (show a' > 0 by omega)]; rfl
                      obtain ⟨mid, d4, hx⟩ : ∃ mid d4, partitionEqual (lo cf) r.pi.1 a' b' r.pivot = (mid, d4) := ⟨_, _, rfl⟩
                      obtain ⟨hm1, hm2, r3, r4, _⟩ := round_eq HO.out (partitionEqual_holds (lo cf)) (by omega) hpv1 hpv2 (show b' ≤ r.pi.1.size by rw [HF.out.2.2.1]; omega) HF.out.2.2.2 hlt hx
                      clear hlt
                      have C6 := Lib.hid (partEq_any g rc cf rb cap w0 HC.out r.pi.1 n HF.out.2.2.1 hsm a' b' r.pivot (by omega) (by omega) (by omega) _ H6.out)
                      rw [hx] at C6
                      have X : Hid (d4.size = n ∧ Go.Sort.Below (lo cf) mid b' d4 ∧ pdq (lo cf) d4 mid b' r.lim wb wp = pdq (lo cf) d a b limit true true) := by
                        refine ⟨by rw [r3]; exact HF.out.2.2.1, r4, ?_⟩
                        have h87 := h87a.out
                        have hp2 := hp2a.out
                        rw [HR.out] at hx h87 hp2
                        rw [← HQ.out, pdq_eq (by omega) hl0 hp2 h87 (by rw [hx]; exact ⟨hm1, hm2⟩), hx, ← HR.out]
                      clear hx r3 r4 H6
                      go_wp2_with (go_at_call 112; (with_reducible refine C6.out.mono ?_); rintro e W7 ⟨rfl, hh⟩; have H7 := Lib.hid hh; clear hh)
                      go_roundg (b' - mid)
                      case measure => omega
                      case rel => exact ⟨mid, b', r.lim, wb, wp, d4, by first | rfl | go_num, by first | rfl | go_num, rfl, rfl, rfl, hm2, by omega, Nat.le_refl _, by omega, by omega, (show Hid _ from ⟨X.out.1, H7.out, X.out.2.1, X.out.2.2⟩)⟩
end Go.Proofs.Ytcipilggddpnpaa.K
