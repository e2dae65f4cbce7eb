/-
  slices.SortFunc's family at entries: siftDown, heapSort.
-/
import Derived.Test.YtcipilggddpnpaaSkA
namespace Go.Proofs.Ytcipilggddpnpaa.K
open Go.RowKit Go.Sort Go.Shelf Go.Maps
set_option linter.unusedVariables false
set_option linter.unusedSimpArgs false

theorem sift_end {lt : Ent → Ent → Bool} (hi first root : Nat) (d : Array Ent) (h : hi ≤ 2 * root + 1) : siftDown lt hi first root d = d := by
  rw [siftDown, dif_pos h]
/-- The greater child is the second one. -/
theorem sift_R {lt : Ent → Ent → Bool} (hi first root : Nat) (d : Array Ent) (h : 2 * root + 2 < hi) (h1 : lt d[first + (2 * root + 1)]! d[first + (2 * root + 1) + 1]! = true) :
    siftDown lt hi first root d = if lt d[first + root]! d[first + (2 * root + 2)]! = true then siftDown lt hi first (2 * root + 2) (swp d (first + root) (first + (2 * root + 2))) else d := by
  conv => lhs; rw [siftDown]
  rw [dif_neg (by omega), if_pos (by simp only [h1, Bool.and_true]; exact decide_eq_true (by omega))]
  cases lt d[first + root]! d[first + (2 * root + 2)]!
  · rfl
  · simp [h]
/-- The greater child is the first one, or there is no other. -/
theorem sift_L {lt : Ent → Ent → Bool} (hi first root : Nat) (d : Array Ent) (h : 2 * root + 1 < hi) (h1 : 2 * root + 2 < hi → lt d[first + (2 * root + 1)]! d[first + (2 * root + 1) + 1]! = false) :
    siftDown lt hi first root d = if lt d[first + root]! d[first + (2 * root + 1)]! = true then siftDown lt hi first (2 * root + 1) (swp d (first + root) (first + (2 * root + 1))) else d := by
  conv => lhs; rw [siftDown]
  rw [dif_neg (by omega), if_neg (by
    intro x
    simp only [Bool.and_eq_true, decide_eq_true_eq] at x
    rw [h1 (by omega)] at x
    cases x.2)]
  cases lt d[first + root]! d[first + (2 * root + 1)]! <;> rfl

set_option maxHeartbeats 8000000 in
set_option maxRecDepth 100000 in
theorem sift_any (g : Nat) (rc : Value) (cf : Ent → Ent → Int) (rb cap : Nat) (w0 : World) (hC : CmpOk g rc cf rb w0) (d : Array Ent) (n : Nat) (hn : d.size = n) (hsm : n ≤ 1099511627776) (lw hi first : Nat) (hlo : lw ≤ n) (hhi : first + hi ≤ n) (w : World) (hS : Srt w0 rb cap d w) :
    Calls Try.prog 117 #[.slice (some ⟨rb, 0, none⟩) n cap, .int .i64 lw, .int .i64 hi, .int .i64 first, .func (.func g) #[rc] #[]] w fun e w' => e = .returned (.tuple #[]) ∧ Srt w0 rb cap (siftDown (lo cf) hi first lw d) w' := by
  have mixed : Try.prog.follows .mixedOrders = true := by kernel_rfl
  have eg := hC.enters
  have HC := Lib.hid hC
  have H0 : Hid (Srt w0 rb cap d w ∧ d.size = n) := ⟨hS, hn⟩
  clear hC hS hn
  go_enter Try.func117, Try.ntmps117
  go_wp2_with fail
  go_loopg [10] (hi - lw) (fun gk s wr => ∃ (root : Nat) (dk : Array Ent), s = .int .i64 root ∧ root ≤ n ∧ hi - root ≤ gk ∧ Hid (dk.size = n ∧ Srt w0 rb cap dk wr ∧ siftDown (lo cf) hi first root dk = siftDown (lo cf) hi first lw d))
  case atStart => exact ⟨lw, d, rfl, hlo, Nat.le_refl _, H0.out.2, H0.out.1, rfl⟩
  case round =>
    rename World => W1
    obtain ⟨root, dk, rfl, hrn, hgk, HR⟩ := hrel
    obtain ⟨ch, hch⟩ : ∃ ch, 2 * root + 1 = ch := ⟨_, rfl⟩
    have z1 : 2 * (root : Int) + 1 = (ch : Int) := by omega
    have z2 : IntKind.i64.wrap (2 * (root : Int)) = 2 * (root : Int) := by rw [IntKind.wrap_i64]; omega
    have z3 : IntKind.i64.wrap (ch : Int) = (ch : Int) := by rw [IntKind.wrap_i64]; omega
    by_cases hend : hi ≤ ch
    · have hend' : decide ((ch : Int) ≥ (hi : Int)) = true := decide_eq_true (by omega)
      go_wp2_with fail
      go_end0
      refine ⟨rfl, ?_⟩
      rw [← HR.out.2.2, sift_end _ _ _ _ (by omega)]
      exact HR.out.2.1
    · have hend' : decide ((ch : Int) ≥ (hi : Int)) = false := decide_eq_false (by omega)
      obtain ⟨p0, hp0⟩ : ∃ p, first + ch = p := ⟨_, rfl⟩
      obtain ⟨pr, hpr⟩ : ∃ p, first + root = p := ⟨_, rfl⟩
      have y0 : (first : Int) + (ch : Int) = (p0 : Int) := by omega
      have y1 : (first : Int) + ((ch : Int) + 1) = (p0 : Int) + 1 := by omega
      have y2 : (first : Int) + (root : Int) = (pr : Int) := by omega
      have y3 : IntKind.i64.wrap (p0 : Int) = (p0 : Int) := by rw [IntKind.wrap_i64]; omega
      have y4 : IntKind.i64.wrap ((p0 : Int) + 1) = (p0 : Int) + 1 := by rw [IntKind.wrap_i64]; omega
      have y5 : IntKind.i64.wrap (pr : Int) = (pr : Int) := by rw [IntKind.wrap_i64]; omega
      have y6 : IntKind.i64.wrap ((ch : Int) + 1) = (ch : Int) + 1 := by rw [IntKind.wrap_i64]; omega
      have y7 : (p0 : Int) < (n : Int) := by omega
      have y8 : (pr : Int) < (n : Int) := by omega
      have y9 : (0 : Int) ≤ (p0 : Int) + 1 := by omega
      have y10 : ((p0 : Int) + 1).toNat = p0 + 1 := by omega
      have HE : Hid (pr = first + root ∧ p0 = first + (2 * root + 1) ∧ p0 + 1 = first + (2 * root + 2) ∧ p0 + 1 = first + (2 * root + 1) + 1) := ⟨by omega, by omega, by omega, by omega⟩
      by_cases h1 : ch + 1 < hi
      · have h1' : decide ((ch : Int) + 1 < (hi : Int)) = true := decide_eq_true (by omega)
        have h1z : (ch : Int) + 1 < (hi : Int) := by omega
        have y11 : (p0 : Int) + 1 < (n : Int) := by omega
        have k0 : p0 < dk.size := by rw [HR.out.1]; omega
        have k1 : p0 + 1 < dk.size := by rw [HR.out.1]; omega
        obtain ⟨c1, c2, c2b, c3, c4, c4b, c5⟩ := HR.out.2.1.ask HC.out k0 k1
        obtain ⟨z, hz⟩ : ∃ z, cf dk[p0]! dk[p0 + 1]! = z := ⟨_, rfl⟩
        have HZ := Lib.hid hz
        rw [hz] at c5
        clear hz
        generalize (dk[p0]!).1 = x1 at c1 c5
        generalize (dk[p0]!).2.1 = x2 at c2 c5
        generalize (dk[p0]!).2.2 = x2b at c2b c5
        generalize (dk[p0 + 1]!).1 = x3 at c3 c5
        generalize (dk[p0 + 1]!).2.1 = x4 at c4 c5
        generalize (dk[p0 + 1]!).2.2 = x4b at c4b c5
        have HS0 : Hid (Srt w0 rb cap dk W1) := HR.out.2.1
        by_cases hlt : z < 0
        · have HT : Hid (lo cf dk[first + (2 * root + 1)]! dk[first + (2 * root + 1) + 1]! = true) := by
            show decide (cf dk[first + (2 * root + 1)]! dk[first + (2 * root + 1) + 1]! < 0) = true
            rw [← HE.out.2.1, HZ.out]; exact decide_eq_true hlt
          go_wp2_with fail
          go_quiet_grown (first | (go_at_fn g; refine Calls.grown_of (c5 _ _).out))
          obtain ⟨W2, hW2⟩ : ∃ W2, grow (W1.drewN nq) osq = W2 := ⟨_, rfl⟩
          have HK : Hid (Srt w0 rb cap dk W2) := by rw [← hW2]; exact HS0.out.grew (grewN _ _ _)
          rw [hW2]
          clear hW2 c1 c2 c2b c3 c4 c4b c5
          go_wp2_with fail
          have kc : p0 + 1 < dk.size := by rw [HR.out.1]; omega
          have kr : pr < dk.size := by rw [HR.out.1]; omega
          obtain ⟨t1, t2, t2b, t3, t4, t4b, t5⟩ := HK.out.ask HC.out kr kc
          obtain ⟨y, hy⟩ : ∃ y, cf dk[pr]! dk[p0 + 1]! = y := ⟨_, rfl⟩
          have HY := Lib.hid hy
          rw [hy] at t5
          clear hy
          generalize hr1 : (dk[pr]!).1 = r1 at *
          generalize hr2 : (dk[pr]!).2.1 = r2 at *
          generalize hr2b : (dk[pr]!).2.2 = r2b at *
          generalize hs1 : (dk[p0 + 1]!).1 = s1 at *
          generalize hs2 : (dk[p0 + 1]!).2.1 = s2 at *
          generalize hs2b : (dk[p0 + 1]!).2.2 = s2b at *
          have HX : Hid ((dk[pr]!).1 = r1 ∧ (dk[pr]!).2.1 = r2 ∧ (dk[pr]!).2.2 = r2b ∧ (dk[p0 + 1]!).1 = s1 ∧ (dk[p0 + 1]!).2.1 = s2 ∧ (dk[p0 + 1]!).2.2 = s2b) := ⟨hr1, hr2, hr2b, hs1, hs2, hs2b⟩
          clear hr1 hr2 hr2b hs1 hs2 hs2b
          by_cases hlt2 : y < 0
          · go_wp2_with fail
            go_quiet_grown (first | (go_at_fn g; refine Calls.grown_of (t5 _ _).out))
            obtain ⟨W3, hW3⟩ : ∃ W3, grow (W2.drewN nq) osq = W3 := ⟨_, rfl⟩
            have H3 : Hid (Srt w0 rb cap dk W3) := by rw [← hW3]; exact HK.out.grew (grewN _ _ _)
            rw [hW3]
            clear hW3 t1 t2 t2b t3 t4 t4b t5
            have e1 := H3.out.c0 kr
            have e2 := H3.out.c1 kr
            have e2b := H3.out.c2 kr
            have e3 := H3.out.c0 kc
            have e4 := H3.out.c1 kc
            have e4b := H3.out.c2 kc
            rw [HX.out.1] at e1
            rw [HX.out.2.1] at e2
            rw [HX.out.2.2.1] at e2b
            rw [HX.out.2.2.2.1] at e3
            rw [HX.out.2.2.2.2.1] at e4
            rw [HX.out.2.2.2.2.2] at e4b
            have fz := H3.out.row.thaw
            have nn1 : ¬ pr * 3 = (p0 + 1) * 3 := by omega
            have nn2 : ¬ (p0 + 1) * 3 = pr * 3 := by omega
            have nn3 : ¬ pr * 3 = (p0 + 1) * 3 + 1 := by omega
            have nn4 : ¬ (p0 + 1) * 3 = pr * 3 + 1 := by omega
            have nn5 : ¬ pr * 3 = (p0 + 1) * 3 + 2 := by omega
            have nn6 : ¬ (p0 + 1) * 3 = pr * 3 + 2 := by omega
            have nn7 : ¬ pr * 3 + 1 = (p0 + 1) * 3 := by omega
            have nn8 : ¬ (p0 + 1) * 3 + 1 = pr * 3 := by omega
            have nn9 : ¬ pr * 3 + 1 = (p0 + 1) * 3 + 2 := by omega
            have nn10 : ¬ (p0 + 1) * 3 + 1 = pr * 3 + 2 := by omega
            have nn11 : ¬ pr * 3 + 2 = (p0 + 1) * 3 := by omega
            have nn12 : ¬ (p0 + 1) * 3 + 2 = pr * 3 := by omega
            have nn13 : ¬ pr * 3 + 2 = (p0 + 1) * 3 + 1 := by omega
            have nn14 : ¬ (p0 + 1) * 3 + 2 = pr * 3 + 1 := by omega
            have n7 : ¬ pr = p0 + 1 := by omega
            have n8 : ¬ p0 + 1 = pr := by omega
            have HS := Lib.hid (H3.out.swap kr kc)
            rw [HX.out.1, HX.out.2.1, HX.out.2.2.1, HX.out.2.2.2.1, HX.out.2.2.2.2.1, HX.out.2.2.2.2.2] at HS
            go_wp2_with fail
            go_region
            go_wp2_with fail
            go_roundg (hi - (2 * root + 2))
            case measure => omega
            case rel => exact ⟨2 * root + 2, swp dk pr (p0 + 1), by first | rfl | go_num | (congr 1; omega), by omega, Nat.le_refl _, (show Hid _ from ⟨by rw [size_swp]; exact HR.out.1, HS.out, by rw [← HR.out.2.2, sift_R _ _ _ _ (by omega) HT.out, if_pos (by show decide (cf dk[first + root]! dk[first + (2 * root + 2)]! < 0) = true; rw [← HE.out.1, ← HE.out.2.2.1, HY.out]; exact decide_eq_true hlt2), ← HE.out.1, ← HE.out.2.2.1]⟩)⟩
          · have hd2 : decide (y < 0) = false := decide_eq_false hlt2
            go_wp2_with fail
            go_quiet_grown (first | (go_at_fn g; refine Calls.grown_of (t5 _ _).out))
            go_wp2_with fail
            refine bodyPost_ret (results_none rfl _ _ _) rfl ?_
            refine ⟨rfl, ?_⟩
            rw [← HR.out.2.2, sift_R _ _ _ _ (by omega) HT.out, if_neg (by show ¬ decide (cf dk[first + root]! dk[first + (2 * root + 2)]! < 0) = true; rw [← HE.out.1, ← HE.out.2.2.1, HY.out]; simpa using hlt2)]
            exact HK.out.grew (grewN _ _ _)
        · have HT : Hid (2 * root + 2 < hi → lo cf dk[first + (2 * root + 1)]! dk[first + (2 * root + 1) + 1]! = false) := fun _ => by
            show decide (cf dk[first + (2 * root + 1)]! dk[first + (2 * root + 1) + 1]! < 0) = false
            rw [← HE.out.2.1, HZ.out]; exact decide_eq_false hlt
          go_wp2_with fail
          go_quiet_grown (first | (go_at_fn g; refine Calls.grown_of (c5 _ _).out))
          obtain ⟨W2, hW2⟩ : ∃ W2, grow (W1.drewN nq) osq = W2 := ⟨_, rfl⟩
          have HK : Hid (Srt w0 rb cap dk W2) := by rw [← hW2]; exact HS0.out.grew (grewN _ _ _)
          rw [hW2]
          clear hW2 c1 c2 c2b c3 c4 c4b c5
          go_wp2_with fail
          have kc : p0 < dk.size := by rw [HR.out.1]; omega
          have kr : pr < dk.size := by rw [HR.out.1]; omega
          obtain ⟨t1, t2, t2b, t3, t4, t4b, t5⟩ := HK.out.ask HC.out kr kc
          obtain ⟨y, hy⟩ : ∃ y, cf dk[pr]! dk[p0]! = y := ⟨_, rfl⟩
          have HY := Lib.hid hy
          rw [hy] at t5
          clear hy
          generalize hr1 : (dk[pr]!).1 = r1 at *
          generalize hr2 : (dk[pr]!).2.1 = r2 at *
          generalize hr2b : (dk[pr]!).2.2 = r2b at *
          generalize hs1 : (dk[p0]!).1 = s1 at *
          generalize hs2 : (dk[p0]!).2.1 = s2 at *
          generalize hs2b : (dk[p0]!).2.2 = s2b at *
          have HX : Hid ((dk[pr]!).1 = r1 ∧ (dk[pr]!).2.1 = r2 ∧ (dk[pr]!).2.2 = r2b ∧ (dk[p0]!).1 = s1 ∧ (dk[p0]!).2.1 = s2 ∧ (dk[p0]!).2.2 = s2b) := ⟨hr1, hr2, hr2b, hs1, hs2, hs2b⟩
          clear hr1 hr2 hr2b hs1 hs2 hs2b
          by_cases hlt2 : y < 0
          · go_wp2_with fail
            go_quiet_grown (first | (go_at_fn g; refine Calls.grown_of (t5 _ _).out))
            obtain ⟨W3, hW3⟩ : ∃ W3, grow (W2.drewN nq) osq = W3 := ⟨_, rfl⟩
            have H3 : Hid (Srt w0 rb cap dk W3) := by rw [← hW3]; exact HK.out.grew (grewN _ _ _)
            rw [hW3]
            clear hW3 t1 t2 t2b t3 t4 t4b t5
            have e1 := H3.out.c0 kr
            have e2 := H3.out.c1 kr
            have e2b := H3.out.c2 kr
            have e3 := H3.out.c0 kc
            have e4 := H3.out.c1 kc
            have e4b := H3.out.c2 kc
            rw [HX.out.1] at e1
            rw [HX.out.2.1] at e2
            rw [HX.out.2.2.1] at e2b
            rw [HX.out.2.2.2.1] at e3
            rw [HX.out.2.2.2.2.1] at e4
            rw [HX.out.2.2.2.2.2] at e4b
            have fz := H3.out.row.thaw
            have nn1 : ¬ pr * 3 = (p0) * 3 := by omega
            have nn2 : ¬ (p0) * 3 = pr * 3 := by omega
            have nn3 : ¬ pr * 3 = (p0) * 3 + 1 := by omega
            have nn4 : ¬ (p0) * 3 = pr * 3 + 1 := by omega
            have nn5 : ¬ pr * 3 = (p0) * 3 + 2 := by omega
            have nn6 : ¬ (p0) * 3 = pr * 3 + 2 := by omega
            have nn7 : ¬ pr * 3 + 1 = (p0) * 3 := by omega
            have nn8 : ¬ (p0) * 3 + 1 = pr * 3 := by omega
            have nn9 : ¬ pr * 3 + 1 = (p0) * 3 + 2 := by omega
            have nn10 : ¬ (p0) * 3 + 1 = pr * 3 + 2 := by omega
            have nn11 : ¬ pr * 3 + 2 = (p0) * 3 := by omega
            have nn12 : ¬ (p0) * 3 + 2 = pr * 3 := by omega
            have nn13 : ¬ pr * 3 + 2 = (p0) * 3 + 1 := by omega
            have nn14 : ¬ (p0) * 3 + 2 = pr * 3 + 1 := by omega
            have n7 : ¬ pr = p0 := by omega
            have n8 : ¬ p0 = pr := by omega
            have HS := Lib.hid (H3.out.swap kr kc)
            rw [HX.out.1, HX.out.2.1, HX.out.2.2.1, HX.out.2.2.2.1, HX.out.2.2.2.2.1, HX.out.2.2.2.2.2] at HS
            go_wp2_with fail
            go_region
            go_wp2_with fail
            go_roundg (hi - (2 * root + 1))
            case measure => omega
            case rel => exact ⟨2 * root + 1, swp dk pr (p0), by first | rfl | go_num | (congr 1; omega), by omega, Nat.le_refl _, (show Hid _ from ⟨by rw [size_swp]; exact HR.out.1, HS.out, by rw [← HR.out.2.2, sift_L _ _ _ _ (by omega) HT.out, if_pos (by show decide (cf dk[first + root]! dk[first + (2 * root + 1)]! < 0) = true; rw [← HE.out.1, ← HE.out.2.1, HY.out]; exact decide_eq_true hlt2), ← HE.out.1, ← HE.out.2.1]⟩)⟩
          · have hd2 : decide (y < 0) = false := decide_eq_false hlt2
            go_wp2_with fail
            go_quiet_grown (first | (go_at_fn g; refine Calls.grown_of (t5 _ _).out))
            go_wp2_with fail
            refine bodyPost_ret (results_none rfl _ _ _) rfl ?_
            refine ⟨rfl, ?_⟩
            rw [← HR.out.2.2, sift_L _ _ _ _ (by omega) HT.out, if_neg (by show ¬ decide (cf dk[first + root]! dk[first + (2 * root + 1)]! < 0) = true; rw [← HE.out.1, ← HE.out.2.1, HY.out]; simpa using hlt2)]
            exact HK.out.grew (grewN _ _ _)
      · have h1' : decide ((ch : Int) + 1 < (hi : Int)) = false := decide_eq_false (by omega)
        have HT : Hid (2 * root + 2 < hi → lo cf dk[first + (2 * root + 1)]! dk[first + (2 * root + 1) + 1]! = false) := fun h => by omega
        have HS0 : Hid (Srt w0 rb cap dk W1) := HR.out.2.1
        go_wp2_with fail
        go_quiet (fail)
        obtain ⟨W2, hW2⟩ : ∃ W2, W1.drewN nq = W2 := ⟨_, rfl⟩
        have HK : Hid (Srt w0 rb cap dk W2) := by rw [← hW2]; exact HS0.out.grew (grewD _ _)
        rw [hW2]
        clear hW2
        go_wp2_with fail
        have kc : p0 < dk.size := by rw [HR.out.1]; omega
        have kr : pr < dk.size := by rw [HR.out.1]; omega
        obtain ⟨t1, t2, t2b, t3, t4, t4b, t5⟩ := HK.out.ask HC.out kr kc
        obtain ⟨y, hy⟩ : ∃ y, cf dk[pr]! dk[p0]! = y := ⟨_, rfl⟩
        have HY := Lib.hid hy
        rw [hy] at t5
        clear hy
        generalize hr1 : (dk[pr]!).1 = r1 at *
        generalize hr2 : (dk[pr]!).2.1 = r2 at *
        generalize hr2b : (dk[pr]!).2.2 = r2b at *
        generalize hs1 : (dk[p0]!).1 = s1 at *
        generalize hs2 : (dk[p0]!).2.1 = s2 at *
        generalize hs2b : (dk[p0]!).2.2 = s2b at *
        have HX : Hid ((dk[pr]!).1 = r1 ∧ (dk[pr]!).2.1 = r2 ∧ (dk[pr]!).2.2 = r2b ∧ (dk[p0]!).1 = s1 ∧ (dk[p0]!).2.1 = s2 ∧ (dk[p0]!).2.2 = s2b) := ⟨hr1, hr2, hr2b, hs1, hs2, hs2b⟩
        clear hr1 hr2 hr2b hs1 hs2 hs2b
        by_cases hlt2 : y < 0
        · go_wp2_with fail
          go_quiet_grown (first | (go_at_fn g; refine Calls.grown_of (t5 _ _).out))
          obtain ⟨W3, hW3⟩ : ∃ W3, grow (W2.drewN nq) osq = W3 := ⟨_, rfl⟩
          have H3 : Hid (Srt w0 rb cap dk W3) := by rw [← hW3]; exact HK.out.grew (grewN _ _ _)
          rw [hW3]
          clear hW3 t1 t2 t2b t3 t4 t4b t5
          have e1 := H3.out.c0 kr
          have e2 := H3.out.c1 kr
          have e2b := H3.out.c2 kr
          have e3 := H3.out.c0 kc
          have e4 := H3.out.c1 kc
          have e4b := H3.out.c2 kc
          rw [HX.out.1] at e1
          rw [HX.out.2.1] at e2
          rw [HX.out.2.2.1] at e2b
          rw [HX.out.2.2.2.1] at e3
          rw [HX.out.2.2.2.2.1] at e4
          rw [HX.out.2.2.2.2.2] at e4b
          have fz := H3.out.row.thaw
          have nn1 : ¬ pr * 3 = (p0) * 3 := by omega
          have nn2 : ¬ (p0) * 3 = pr * 3 := by omega
          have nn3 : ¬ pr * 3 = (p0) * 3 + 1 := by omega
          have nn4 : ¬ (p0) * 3 = pr * 3 + 1 := by omega
          have nn5 : ¬ pr * 3 = (p0) * 3 + 2 := by omega
          have nn6 : ¬ (p0) * 3 = pr * 3 + 2 := by omega
          have nn7 : ¬ pr * 3 + 1 = (p0) * 3 := by omega
          have nn8 : ¬ (p0) * 3 + 1 = pr * 3 := by omega
          have nn9 : ¬ pr * 3 + 1 = (p0) * 3 + 2 := by omega
          have nn10 : ¬ (p0) * 3 + 1 = pr * 3 + 2 := by omega
          have nn11 : ¬ pr * 3 + 2 = (p0) * 3 := by omega
          have nn12 : ¬ (p0) * 3 + 2 = pr * 3 := by omega
          have nn13 : ¬ pr * 3 + 2 = (p0) * 3 + 1 := by omega
          have nn14 : ¬ (p0) * 3 + 2 = pr * 3 + 1 := by omega
          have n7 : ¬ pr = p0 := by omega
          have n8 : ¬ p0 = pr := by omega
          have HS := Lib.hid (H3.out.swap kr kc)
          rw [HX.out.1, HX.out.2.1, HX.out.2.2.1, HX.out.2.2.2.1, HX.out.2.2.2.2.1, HX.out.2.2.2.2.2] at HS
          go_wp2_with fail
          go_region
          go_wp2_with fail
          go_roundg (hi - (2 * root + 1))
          case measure => omega
          case rel => exact ⟨2 * root + 1, swp dk pr (p0), by first | rfl | go_num | (congr 1; omega), by omega, Nat.le_refl _, (show Hid _ from ⟨by rw [size_swp]; exact HR.out.1, HS.out, by rw [← HR.out.2.2, sift_L _ _ _ _ (by omega) HT.out, if_pos (by show decide (cf dk[first + root]! dk[first + (2 * root + 1)]! < 0) = true; rw [← HE.out.1, ← HE.out.2.1, HY.out]; exact decide_eq_true hlt2), ← HE.out.1, ← HE.out.2.1]⟩)⟩
        · have hd2 : decide (y < 0) = false := decide_eq_false hlt2
          go_wp2_with fail
          go_quiet_grown (first | (go_at_fn g; refine Calls.grown_of (t5 _ _).out))
          go_wp2_with fail
          refine bodyPost_ret (results_none rfl _ _ _) rfl ?_
          refine ⟨rfl, ?_⟩
          rw [← HR.out.2.2, sift_L _ _ _ _ (by omega) HT.out, if_neg (by show ¬ decide (cf dk[first + root]! dk[first + (2 * root + 1)]! < 0) = true; rw [← HE.out.1, ← HE.out.2.1, HY.out]; simpa using hlt2)]
          exact HK.out.grew (grewN _ _ _)
end Go.Proofs.Ytcipilggddpnpaa.K
