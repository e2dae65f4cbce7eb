/-
  slices.SortFunc's family at entries: partition.
-/
import Derived.Test.YtcipilggddpnpaaSkE
namespace Go.Proofs.Ytcipilggddpnpaa.K
open Go.RowKit Go.Sort Go.Shelf Go.Maps
set_option linter.unusedVariables false
set_option linter.unusedSimpArgs false

theorem part_stop {lt : Ent → Ent → Bool} (a i j : Nat) (d : Array Ent) (i2 j2 : Nat) (h1 : i2 = scanUp (fun x => lt x d[a]!) d j i) (h2 : j2 = scanDown (fun x => !lt x d[a]!) d i2 j) (h : j2 < i2) : partLoop lt a i j d = (j2, d) := by
  rw [partLoop]
  simp only [← h1, ← h2]
  rw [if_pos h]
theorem part_go {lt : Ent → Ent → Bool} (a i j : Nat) (d : Array Ent) (i2 j2 : Nat) (h1 : i2 = scanUp (fun x => lt x d[a]!) d j i) (h2 : j2 = scanDown (fun x => !lt x d[a]!) d i2 j) (h : i2 ≤ j2) (hg : (j2 - 1) + 1 - (i2 + 1) < j + 1 - i) : partLoop lt a i j d = partLoop lt a (i2 + 1) (j2 - 1) (swp d i2 j2) := by
  conv => lhs; rw [partLoop]
  simp only [← h1, ← h2]
  rw [if_neg (by omega), dif_pos hg]
theorem part_early {lt : Ent → Ent → Bool} (d : Array Ent) (a m pivot : Nat) (d0 : Array Ent) (i2 j2 : Nat) (h0 : d0 = swp d a pivot) (h1 : i2 = scanUp (fun x => lt x d0[a]!) d0 m (a + 1)) (h2 : j2 = scanDown (fun x => !lt x d0[a]!) d0 i2 m) (h : j2 < i2) : partition lt d a (m + 1) pivot = (j2, true, swp d0 j2 a) := by
  unfold partition
  simp only [Nat.add_sub_cancel, ← h0, ← h1, ← h2]
  rw [if_pos h]
theorem part_late {lt : Ent → Ent → Bool} (d : Array Ent) (a m pivot : Nat) (d0 : Array Ent) (i2 j2 : Nat) (h0 : d0 = swp d a pivot) (h1 : i2 = scanUp (fun x => lt x d0[a]!) d0 m (a + 1)) (h2 : j2 = scanDown (fun x => !lt x d0[a]!) d0 i2 m) (h : ¬ j2 < i2) : partition lt d a (m + 1) pivot = ((partLoop lt a (i2 + 1) (j2 - 1) (swp d0 i2 j2)).1, false, swp (partLoop lt a (i2 + 1) (j2 - 1) (swp d0 i2 j2)).2 (partLoop lt a (i2 + 1) (j2 - 1) (swp d0 i2 j2)).1 a) := by
  unfold partition
  simp only [Nat.add_sub_cancel, ← h0, ← h1, ← h2]
  rw [if_neg h]

set_option maxHeartbeats 16000000 in
set_option maxRecDepth 100000 in
theorem part_any (g : Nat) (rc : Value) (cf : Ent → Ent → Int) (rb cap : Nat) (w0 : World) (hC : CmpOk g rc cf rb w0) (d : Array Ent) (n : Nat) (hn : d.size = n) (hsm : n ≤ 1099511627776) (a b pivot : Nat) (hab : a < b) (hbn : b ≤ n) (hpv : pivot < n) (w : World) (hS : Srt w0 rb cap d w) :
    Calls Try.prog 113 #[.slice (some ⟨rb, 0, none⟩) n cap, .int .i64 a, .int .i64 b, .int .i64 pivot, .func (.func g) #[rc] #[]] w fun e w' => e = .returned (.tuple #[.int .i64 (partition (lo cf) d a b pivot).1, .bool (partition (lo cf) d a b pivot).2.1]) ∧ Srt w0 rb cap (partition (lo cf) d a b pivot).2.2 w' := by
  have mixed : Try.prog.follows .mixedOrders = true := by kernel_rfl
  have eg := hC.enters
  have HC := Lib.hid hC
  have HN' := Lib.hid hn
  have H0 := Lib.hid hS
  obtain ⟨m, rfl⟩ : ∃ m, b = m + 1 := ⟨b - 1, by omega⟩
  have o1 : (a : Int) < (n : Int) := by omega
  have o2 : (pivot : Int) < (n : Int) := by omega
  have o3 : IntKind.i64.wrap ((a : Int) + 1) = (a : Int) + 1 := by rw [IntKind.wrap_i64]; omega
  have o4 : IntKind.i64.wrap ((m : Int) + 1 - 1) = (m : Int) := by rw [IntKind.wrap_i64]; omega
  have o5 : IntKind.i64.wrap (m : Int) = (m : Int) := by rw [IntKind.wrap_i64]; omega
  obtain ⟨d0, hd0⟩ : ∃ d0, d0 = swp d a pivot := ⟨_, rfl⟩
  obtain ⟨P, hP⟩ : ∃ P, P = partition (lo cf) d a (m + 1) pivot := ⟨_, rfl⟩
  rw [← hP]
  have HD0 := Lib.hid hd0
  have HP0 := Lib.hid hP
  have HN := HN'
  clear hC hS hn hP hd0
  go_enter Try.func113, Try.ntmps113
  have ki : a < d.size := by rw [HN.out]; omega
  have kj : pivot < d.size := by rw [HN.out]; omega
  have e1 := H0.out.c0 ki
  have e2 := H0.out.c1 ki
  have e2b := H0.out.c2 ki
  have e3 := H0.out.c0 kj
  have e4 := H0.out.c1 kj
  have e4b := H0.out.c2 kj
  have fz := (H0.out).row.thaw
  have HX0 := Lib.hid ((H0.out).swap ki kj)
  obtain ⟨⟨v1, e5⟩, ⟨v2, e6⟩, v3, e7⟩ := (H0.out).exch ki kj (d[pivot]!).1 (d[pivot]!).2.1 (d[pivot]!).2.2
  have nn1 : ¬ (a) * 3 = (pivot) * 3 + 1 := by omega
  have nn2 : ¬ (pivot) * 3 = (a) * 3 + 1 := by omega
  have nn3 : ¬ (a) * 3 = (pivot) * 3 + 2 := by omega
  have nn4 : ¬ (pivot) * 3 = (a) * 3 + 2 := by omega
  have nn5 : ¬ (a) * 3 + 1 = (pivot) * 3 := by omega
  have nn6 : ¬ (pivot) * 3 + 1 = (a) * 3 := by omega
  have nn7 : ¬ (a) * 3 + 1 = (pivot) * 3 + 2 := by omega
  have nn8 : ¬ (pivot) * 3 + 1 = (a) * 3 + 2 := by omega
  have nn9 : ¬ (a) * 3 + 2 = (pivot) * 3 := by omega
  have nn10 : ¬ (pivot) * 3 + 2 = (a) * 3 := by omega
  have nn11 : ¬ (a) * 3 + 2 = (pivot) * 3 + 1 := by omega
  have nn12 : ¬ (pivot) * 3 + 2 = (a) * 3 + 1 := by omega
  generalize (d[pivot]!).1 = x1 at e1 e2 e2b e3 e4 e4b e5 e6 e7 HX0
  generalize (d[pivot]!).2.1 = x2 at e1 e2 e2b e3 e4 e4b e5 e6 e7 HX0
  generalize (d[pivot]!).2.2 = x2b at e1 e2 e2b e3 e4 e4b e5 e6 e7 HX0
  generalize (d[a]!).1 = x3 at e1 e2 e2b e3 e4 e4b e5 e6 e7 HX0
  generalize (d[a]!).2.1 = x4 at e1 e2 e2b e3 e4 e4b e5 e6 e7 HX0
  generalize (d[a]!).2.2 = x4b at e1 e2 e2b e3 e4 e4b e5 e6 e7 HX0
  go_wp2_with fail
  go_region
  clear e1 e2 e2b e3 e4 e4b e5 e6 e7 fz
  have HN0 : Hid (d0.size = n) := by rw [HD0.out, size_swp]; exact HN'.out
  rw [← HD0.out] at HX0
  clear HN HN' H0 ki kj
  have HN := HN0
  clear HN0
  go_upto_block 0 with fail
  go_cut [12] (fun s wx => ∃ i2 : Nat, s = .int .i64 i2 ∧ a + 1 ≤ i2 ∧ i2 ≤ m + 2 ∧ Hid (Srt w0 rb cap d0 wx ∧ i2 = scanUp (fun x => lo cf x d0[a]!) d0 m (a + 1)))
  case first =>
    go_wp2_with fail
    go_loopg [12] (m + 1 - (a + 1)) (fun gk s wr => ∃ i2 : Nat, s = .int .i64 i2 ∧ a + 1 ≤ i2 ∧ i2 ≤ m + 2 ∧ m + 1 - i2 ≤ gk ∧ Hid (Srt w0 rb cap d0 wr ∧ scanUp (fun x => lo cf x d0[a]!) d0 m (i2) = scanUp (fun x => lo cf x d0[a]!) d0 m (a + 1)))
    case atStart => exact ⟨a + 1, by first | rfl | go_num, by omega, by omega, Nat.le_refl _, HX0.out, rfl⟩
    case round =>
      obtain ⟨i2, rfl, hb1, hb2, hgk, HU⟩ := hrel
      by_cases hle : i2 ≤ m
      · have hleZ : decide ((i2 : Int) ≤ (m : Int)) = true := decide_eq_true (by omega)
        have q1 : (i2 : Int) < (n : Int) := by omega
        have q2 : (a : Int) < (n : Int) := by omega
        have q3 : (0 : Int) ≤ (i2 : Int) := by omega
        have q4 : (i2 : Int).toNat = i2 := by omega
        have q5 : IntKind.i64.wrap ((i2 : Int) + 1) = (i2 : Int) + 1 := by rw [IntKind.wrap_i64]; omega
        obtain ⟨c1, c2, c2b, c3, c4, c4b, c5⟩ := HU.out.1.ask HC.out (i := i2) (j := a) (by rw [HN.out]; omega) (by rw [HN.out]; omega)
        obtain ⟨z, hz'⟩ : ∃ z, cf d0[i2]! d0[a]! = z := ⟨_, rfl⟩
        have HZ := Lib.hid hz'
        rw [hz'] at c5
        clear hz'
        generalize (d0[i2]!).1 = x1 at c1 c5
        generalize (d0[i2]!).2.1 = x2 at c2 c5
        generalize (d0[i2]!).2.2 = x2b at c2b c5
        generalize (d0[a]!).1 = x3 at c3 c5
        generalize (d0[a]!).2.1 = x4 at c4 c5
        generalize (d0[a]!).2.2 = x4b at c4b c5
        by_cases hz : z < 0
        · have hd : decide (z < 0) = true := decide_eq_true hz
          go_wp2_with fail
          go_quiet_grown (first | (go_at_fn g; refine Calls.grown_of (c5 _ _).out))
          go_wp2_with fail
          go_roundg (m + 1 - (i2 + 1))
          case measure => omega
          case rel => exact ⟨i2 + 1, by first | rfl | go_num, by omega, by omega, Nat.le_refl _, (show Hid _ from ⟨HU.out.1.grew (grewN _ _ _), by rw [← HU.out.2]; exact (scan_up_go _ _ _ _ hle (by show decide (cf d0[i2]! d0[a]! < 0) = true; (rw [HZ.out, hd] <;> rfl))).symm⟩)⟩
        · have hd : decide (z < 0) = false := decide_eq_false hz
          go_wp2_with fail
          go_quiet_grown (first | (go_at_fn g; refine Calls.grown_of (c5 _ _).out))
          go_wp2_with fail
          go_meet
          exact ⟨i2, rfl, by omega, by omega, HU.out.1.grew (grewN _ _ _), by rw [← HU.out.2, scan_up_stop _ _ _ _ (.inr (by show decide (cf d0[i2]! d0[a]! < 0) = false; (rw [HZ.out, hd] <;> rfl)))]⟩
      · have hleZ : decide ((i2 : Int) ≤ (m : Int)) = false := decide_eq_false (by omega)
        go_wp2_with fail
        go_quiet (fail)
        go_wp2_with fail
        go_meet
        exact ⟨i2, rfl, by omega, by omega, HU.out.1.grew (grewD _ _), by rw [← HU.out.2, scan_up_stop _ _ _ _ (.inl hle)]⟩
  case rest =>
    obtain ⟨i2, rfl, hb_i21, hb_i22, HU⟩ := hcut
    go_upto_block 2 with fail
    go_cut [13] (fun s wx => ∃ j2 : Nat, s = .int .i64 j2 ∧ i2 ≤ j2 + 2 ∧ j2 ≤ m ∧ Hid (Srt w0 rb cap d0 wx ∧ j2 = scanDown (fun x => !(lo cf x d0[a]!)) d0 i2 (m)))
    case first =>
      go_wp2_with fail
      go_loopg [13] (m) (fun gk s wr => ∃ j2 : Nat, s = .int .i64 j2 ∧ i2 ≤ j2 + 2 ∧ j2 ≤ m ∧ j2 ≤ gk ∧ Hid (Srt w0 rb cap d0 wr ∧ scanDown (fun x => !(lo cf x d0[a]!)) d0 i2 (j2) = scanDown (fun x => !(lo cf x d0[a]!)) d0 i2 (m)))
      case atStart => exact ⟨m, by first | rfl | go_num, by omega, by omega, Nat.le_refl _, HU.out.1, rfl⟩
      case round =>
        obtain ⟨j2, rfl, hb1, hb2, hgk, HD⟩ := hrel
        by_cases hle : i2 ≤ j2
        · have hleZ : decide ((i2 : Int) ≤ (j2 : Int)) = true := decide_eq_true (by omega)
          obtain ⟨k, rfl⟩ : ∃ k, j2 = k + 1 := ⟨j2 - 1, by omega⟩
          have q1 : ((k : Int) + 1) < (n : Int) := by omega
          have q2 : (a : Int) < (n : Int) := by omega
          have q3 : (0 : Int) ≤ ((k : Int) + 1) := by omega
          have q4 : ((k : Int) + 1).toNat = (k + 1) := by omega
          have q5 : IntKind.i64.wrap (((k : Int) + 1) - 1) = (k : Int) := by rw [IntKind.wrap_i64]; omega
          have q6 : IntKind.i64.wrap (k : Int) = (k : Int) := by rw [IntKind.wrap_i64]; omega
          have q7 : decide ((i2 : Int) ≤ (k : Int) + 1) = true := decide_eq_true (by omega)
          obtain ⟨c1, c2, c2b, c3, c4, c4b, c5⟩ := HD.out.1.ask HC.out (i := k + 1) (j := a) (by rw [HN.out]; omega) (by rw [HN.out]; omega)
          obtain ⟨z, hz'⟩ : ∃ z, cf d0[k + 1]! d0[a]! = z := ⟨_, rfl⟩
          have HZ := Lib.hid hz'
          rw [hz'] at c5
          clear hz'
          generalize (d0[k + 1]!).1 = x1 at c1 c5
          generalize (d0[k + 1]!).2.1 = x2 at c2 c5
          generalize (d0[k + 1]!).2.2 = x2b at c2b c5
          generalize (d0[a]!).1 = x3 at c3 c5
          generalize (d0[a]!).2.1 = x4 at c4 c5
          generalize (d0[a]!).2.2 = x4b at c4b c5
          by_cases hz : z < 0
          · have hd : decide (z < 0) = true := decide_eq_true hz
            go_wp2_with fail
            go_quiet_grown (first | (go_at_fn g; refine Calls.grown_of (c5 _ _).out))
            go_wp2_with fail
            go_meet
            exact ⟨k + 1, by first | rfl | go_num, by omega, by omega, HD.out.1.grew (grewN _ _ _), by rw [← HD.out.2, scan_down_stop _ _ _ _ (.inr (by show (!decide (cf d0[k + 1]! d0[a]! < 0)) = false; (rw [HZ.out, hd] <;> rfl)))]⟩
          · have hd : decide (z < 0) = false := decide_eq_false hz
            go_wp2_with fail
            go_quiet_grown (first | (go_at_fn g; refine Calls.grown_of (c5 _ _).out))
            go_wp2_with fail
            go_roundg (k)
            case measure => omega
            case rel => exact ⟨k, by first | rfl | go_num, by omega, by omega, Nat.le_refl _, (show Hid _ from ⟨HD.out.1.grew (grewN _ _ _), by rw [← HD.out.2]; exact (scan_down_go _ _ _ _ hle (by show (!decide (cf d0[k + 1]! d0[a]! < 0)) = true; (rw [HZ.out, hd] <;> rfl))).symm⟩)⟩
        · have hleZ : decide ((i2 : Int) ≤ (j2 : Int)) = false := decide_eq_false (by omega)
          go_wp2_with fail
          go_quiet (fail)
          go_wp2_with fail
          go_meet
          exact ⟨j2, rfl, by omega, by omega, HD.out.1.grew (grewD _ _), by rw [← HD.out.2, scan_down_stop _ _ _ _ (.inl hle)]⟩
    case rest =>
      obtain ⟨j2, rfl, hb_j21, hb_j22, HD⟩ := hcut
      by_cases hgt : j2 < i2
      · have hgt' : decide ((i2 : Int) > (j2 : Int)) = true := decide_eq_true (by omega)
        have p1 : (j2 : Int) < (n : Int) := by omega
        have p2 : (a : Int) < (n : Int) := by omega
        have ee := part_early (lt := lo cf) d a m pivot d0 i2 j2 HD0.out HU.out.2 HD.out.2 hgt
        have ki : j2 < d0.size := by rw [HN.out]; omega
        have kj : a < d0.size := by rw [HN.out]; omega
        have e1 := HD.out.1.c0 ki
        have e2 := HD.out.1.c1 ki
        have e2b := HD.out.1.c2 ki
        have e3 := HD.out.1.c0 kj
        have e4 := HD.out.1.c1 kj
        have e4b := HD.out.1.c2 kj
        have fz := (HD.out.1).row.thaw
        have HX := Lib.hid ((HD.out.1).swap ki kj)
        obtain ⟨⟨v1, e5⟩, ⟨v2, e6⟩, v3, e7⟩ := (HD.out.1).exch ki kj (d0[a]!).1 (d0[a]!).2.1 (d0[a]!).2.2
        have nn1 : ¬ (j2) * 3 = (a) * 3 + 1 := by omega
        have nn2 : ¬ (a) * 3 = (j2) * 3 + 1 := by omega
        have nn3 : ¬ (j2) * 3 = (a) * 3 + 2 := by omega
        have nn4 : ¬ (a) * 3 = (j2) * 3 + 2 := by omega
        have nn5 : ¬ (j2) * 3 + 1 = (a) * 3 := by omega
        have nn6 : ¬ (a) * 3 + 1 = (j2) * 3 := by omega
        have nn7 : ¬ (j2) * 3 + 1 = (a) * 3 + 2 := by omega
        have nn8 : ¬ (a) * 3 + 1 = (j2) * 3 + 2 := by omega
        have nn9 : ¬ (j2) * 3 + 2 = (a) * 3 := by omega
        have nn10 : ¬ (a) * 3 + 2 = (j2) * 3 := by omega
        have nn11 : ¬ (j2) * 3 + 2 = (a) * 3 + 1 := by omega
        have nn12 : ¬ (a) * 3 + 2 = (j2) * 3 + 1 := by omega
        generalize (d0[a]!).1 = x1 at e1 e2 e2b e3 e4 e4b e5 e6 e7 HX
        generalize (d0[a]!).2.1 = x2 at e1 e2 e2b e3 e4 e4b e5 e6 e7 HX
        generalize (d0[a]!).2.2 = x2b at e1 e2 e2b e3 e4 e4b e5 e6 e7 HX
        generalize (d0[j2]!).1 = x3 at e1 e2 e2b e3 e4 e4b e5 e6 e7 HX
        generalize (d0[j2]!).2.1 = x4 at e1 e2 e2b e3 e4 e4b e5 e6 e7 HX
        generalize (d0[j2]!).2.2 = x4b at e1 e2 e2b e3 e4 e4b e5 e6 e7 HX
        go_wp2_with fail
        go_region
        clear e1 e2 e2b e3 e4 e4b e5 e6 e7 fz
        go_wp2_with fail
        go_ret2
        rw [HP0.out, ee]
        exact ⟨rfl, HX.out⟩
      · have HL := Lib.hid (part_late (lt := lo cf) d a m pivot d0 i2 j2 HD0.out HU.out.2 HD.out.2 hgt)
        have hgt' : decide ((i2 : Int) > (j2 : Int)) = false := decide_eq_false (by omega)
        have p1 : (i2 : Int) < (n : Int) := by omega
        have p2 : (j2 : Int) < (n : Int) := by omega
        have p3 : IntKind.i64.wrap ((i2 : Int) + 1) = (i2 : Int) + 1 := by rw [IntKind.wrap_i64]; omega
        obtain ⟨k, rfl⟩ : ∃ k, j2 = k + 1 := ⟨j2 - 1, by omega⟩
        have p4 : IntKind.i64.wrap ((k : Int) + 1 - 1) = (k : Int) := by rw [IntKind.wrap_i64]; omega
        have p5 : IntKind.i64.wrap (k : Int) = (k : Int) := by rw [IntKind.wrap_i64]; omega
        have p6 : ((k : Int) + 1).toNat = k + 1 := by omega
        have p7 : (0 : Int) ≤ (k : Int) + 1 := by omega
        have p8 : (k : Int) + 1 < (n : Int) := by omega
        have p9 : decide ((i2 : Int) > (k : Int) + 1) = false := decide_eq_false (by omega)
        have ki : i2 < d0.size := by rw [HN.out]; omega
        have kj : k + 1 < d0.size := by rw [HN.out]; omega
        have e1 := HD.out.1.c0 ki
        have e2 := HD.out.1.c1 ki
        have e2b := HD.out.1.c2 ki
        have e3 := HD.out.1.c0 kj
        have e4 := HD.out.1.c1 kj
        have e4b := HD.out.1.c2 kj
        have fz := (HD.out.1).row.thaw
        have HX := Lib.hid ((HD.out.1).swap ki kj)
        obtain ⟨⟨v1, e5⟩, ⟨v2, e6⟩, v3, e7⟩ := (HD.out.1).exch ki kj (d0[k + 1]!).1 (d0[k + 1]!).2.1 (d0[k + 1]!).2.2
        have nn1 : ¬ (i2) * 3 = (k + 1) * 3 + 1 := by omega
        have nn2 : ¬ (k + 1) * 3 = (i2) * 3 + 1 := by omega
        have nn3 : ¬ (i2) * 3 = (k + 1) * 3 + 2 := by omega
        have nn4 : ¬ (k + 1) * 3 = (i2) * 3 + 2 := by omega
        have nn5 : ¬ (i2) * 3 + 1 = (k + 1) * 3 := by omega
        have nn6 : ¬ (k + 1) * 3 + 1 = (i2) * 3 := by omega
        have nn7 : ¬ (i2) * 3 + 1 = (k + 1) * 3 + 2 := by omega
        have nn8 : ¬ (k + 1) * 3 + 1 = (i2) * 3 + 2 := by omega
        have nn9 : ¬ (i2) * 3 + 2 = (k + 1) * 3 := by omega
        have nn10 : ¬ (k + 1) * 3 + 2 = (i2) * 3 := by omega
        have nn11 : ¬ (i2) * 3 + 2 = (k + 1) * 3 + 1 := by omega
        have nn12 : ¬ (k + 1) * 3 + 2 = (i2) * 3 + 1 := by omega
        generalize (d0[k + 1]!).1 = x1 at e1 e2 e2b e3 e4 e4b e5 e6 e7 HX
        generalize (d0[k + 1]!).2.1 = x2 at e1 e2 e2b e3 e4 e4b e5 e6 e7 HX
        generalize (d0[k + 1]!).2.2 = x2b at e1 e2 e2b e3 e4 e4b e5 e6 e7 HX
        generalize (d0[i2]!).1 = x3 at e1 e2 e2b e3 e4 e4b e5 e6 e7 HX
        generalize (d0[i2]!).2.1 = x4 at e1 e2 e2b e3 e4 e4b e5 e6 e7 HX
        generalize (d0[i2]!).2.2 = x4b at e1 e2 e2b e3 e4 e4b e5 e6 e7 HX
        go_wp2_with fail
        go_region
        clear e1 e2 e2b e3 e4 e4b e5 e6 e7 fz
        have HN1 : Hid ((swp d0 i2 (k + 1)).size = n) := by rw [size_swp]; exact HN.out
        have HP : Hid (P = ((partLoop (lo cf) a (i2 + 1) k (swp d0 i2 (k + 1))).1, false, swp (partLoop (lo cf) a (i2 + 1) k (swp d0 i2 (k + 1))).2 (partLoop (lo cf) a (i2 + 1) k (swp d0 i2 (k + 1))).1 a)) := by rw [HP0.out]; exact HL.out
        clear HN HL HU HD HP0 HD0 ki kj HX0
        generalize swp d0 i2 (k + 1) = d1 at HX HN1 HP
        go_wp2_with fail
        go_loopg [12, 13] (m + 1) (fun gk s1 s2 wr => ∃ (i j : Nat) (dk : Array Ent), s1 = .int .i64 i ∧ s2 = .int .i64 j ∧ a < i ∧ i ≤ j + 2 ∧ j < n ∧ j + 1 - i ≤ gk ∧ Hid (dk.size = n ∧ Srt w0 rb cap dk wr ∧ partLoop (lo cf) a i j dk = partLoop (lo cf) a (i2 + 1) k d1))
        case atStart => exact ⟨i2 + 1, k, d1, by go_num, by first | rfl | go_num, by omega, by omega, by omega, by omega, HN1.out, HX.out, rfl⟩
        case round =>
          rename World => W1
          obtain ⟨i, j, dk, rfl, rfl, hai, hij, hjn, hgk0, HR⟩ := hrel
          have HN : Hid (dk.size = n) := HR.out.1
          have HK : Hid (Srt w0 rb cap dk W1) := HR.out.2.1
          have HQ : Hid (partLoop (lo cf) a i j dk = partLoop (lo cf) a (i2 + 1) k d1) := HR.out.2.2
          clear HR HX HN1 p1 p2 p3 p4 p5 p6 p7 p8 p9
          go_upto_block 6 with fail
          go_cut [12] (fun s wx => ∃ i3 : Nat, s = .int .i64 i3 ∧ i ≤ i3 ∧ i3 ≤ j + 2 ∧ Hid (Srt w0 rb cap dk wx ∧ i3 = scanUp (fun x => lo cf x dk[a]!) dk j (i)))
          case first =>
            go_wp2_with fail
            go_loopg [12] (j + 1 - (i)) (fun gk s wr => ∃ i3 : Nat, s = .int .i64 i3 ∧ i ≤ i3 ∧ i3 ≤ j + 2 ∧ j + 1 - i3 ≤ gk ∧ Hid (Srt w0 rb cap dk wr ∧ scanUp (fun x => lo cf x dk[a]!) dk j (i3) = scanUp (fun x => lo cf x dk[a]!) dk j (i)))
            case atStart => exact ⟨i, by first | rfl | go_num, by omega, by omega, Nat.le_refl _, HK.out, rfl⟩
            case round =>
              obtain ⟨i3, rfl, hb1, hb2, hgk, HV⟩ := hrel
              by_cases hle : i3 ≤ j
              · have hleZ : decide ((i3 : Int) ≤ (j : Int)) = true := decide_eq_true (by omega)
                have q1 : (i3 : Int) < (n : Int) := by omega
                have q2 : (a : Int) < (n : Int) := by omega
                have q3 : (0 : Int) ≤ (i3 : Int) := by omega
                have q4 : (i3 : Int).toNat = i3 := by omega
                have q5 : IntKind.i64.wrap ((i3 : Int) + 1) = (i3 : Int) + 1 := by rw [IntKind.wrap_i64]; omega
                obtain ⟨c1, c2, c2b, c3, c4, c4b, c5⟩ := HV.out.1.ask HC.out (i := i3) (j := a) (by rw [HN.out]; omega) (by rw [HN.out]; omega)
                obtain ⟨z, hz'⟩ : ∃ z, cf dk[i3]! dk[a]! = z := ⟨_, rfl⟩
                have HZ := Lib.hid hz'
                rw [hz'] at c5
                clear hz'
                generalize (dk[i3]!).1 = x1 at c1 c5
                generalize (dk[i3]!).2.1 = x2 at c2 c5
                generalize (dk[i3]!).2.2 = x2b at c2b c5
                generalize (dk[a]!).1 = x3 at c3 c5
                generalize (dk[a]!).2.1 = x4 at c4 c5
                generalize (dk[a]!).2.2 = x4b at c4b c5
                by_cases hz : z < 0
                · have hd : decide (z < 0) = true := decide_eq_true hz
                  go_wp2_with fail
                  go_quiet_grown (first | (go_at_fn g; refine Calls.grown_of (c5 _ _).out))
                  go_wp2_with fail
                  go_roundg (j + 1 - (i3 + 1))
                  case measure => omega
                  case rel => exact ⟨i3 + 1, by first | rfl | go_num, by omega, by omega, Nat.le_refl _, (show Hid _ from ⟨HV.out.1.grew (grewN _ _ _), by rw [← HV.out.2]; exact (scan_up_go _ _ _ _ hle (by show decide (cf dk[i3]! dk[a]! < 0) = true; (rw [HZ.out, hd] <;> rfl))).symm⟩)⟩
                · have hd : decide (z < 0) = false := decide_eq_false hz
                  go_wp2_with fail
                  go_quiet_grown (first | (go_at_fn g; refine Calls.grown_of (c5 _ _).out))
                  go_wp2_with fail
                  go_meet
                  exact ⟨i3, rfl, by omega, by omega, HV.out.1.grew (grewN _ _ _), by rw [← HV.out.2, scan_up_stop _ _ _ _ (.inr (by show decide (cf dk[i3]! dk[a]! < 0) = false; (rw [HZ.out, hd] <;> rfl)))]⟩
              · have hleZ : decide ((i3 : Int) ≤ (j : Int)) = false := decide_eq_false (by omega)
                go_wp2_with fail
                go_quiet (fail)
                go_wp2_with fail
                go_meet
                exact ⟨i3, rfl, by omega, by omega, HV.out.1.grew (grewD _ _), by rw [← HV.out.2, scan_up_stop _ _ _ _ (.inl hle)]⟩
          case rest =>
            obtain ⟨i3, rfl, hb_i31, hb_i32, HV⟩ := hcut
            go_upto_block 8 with fail
            go_cut [13] (fun s wx => ∃ j3 : Nat, s = .int .i64 j3 ∧ i3 ≤ j3 + 2 ∧ j3 ≤ j ∧ Hid (Srt w0 rb cap dk wx ∧ j3 = scanDown (fun x => !(lo cf x dk[a]!)) dk i3 (j)))
            case first =>
              go_wp2_with fail
              go_loopg [13] (j) (fun gk s wr => ∃ j3 : Nat, s = .int .i64 j3 ∧ i3 ≤ j3 + 2 ∧ j3 ≤ j ∧ j3 ≤ gk ∧ Hid (Srt w0 rb cap dk wr ∧ scanDown (fun x => !(lo cf x dk[a]!)) dk i3 (j3) = scanDown (fun x => !(lo cf x dk[a]!)) dk i3 (j)))
              case atStart => exact ⟨j, by first | rfl | go_num, by omega, by omega, Nat.le_refl _, HV.out.1, rfl⟩
              case round =>
                obtain ⟨j3, rfl, hb1, hb2, hgk, HE⟩ := hrel
                by_cases hle : i3 ≤ j3
                · have hleZ : decide ((i3 : Int) ≤ (j3 : Int)) = true := decide_eq_true (by omega)
                  obtain ⟨k, rfl⟩ : ∃ k, j3 = k + 1 := ⟨j3 - 1, by omega⟩
                  have q1 : ((k : Int) + 1) < (n : Int) := by omega
                  have q2 : (a : Int) < (n : Int) := by omega
                  have q3 : (0 : Int) ≤ ((k : Int) + 1) := by omega
                  have q4 : ((k : Int) + 1).toNat = (k + 1) := by omega
                  have q5 : IntKind.i64.wrap (((k : Int) + 1) - 1) = (k : Int) := by rw [IntKind.wrap_i64]; omega
                  have q6 : IntKind.i64.wrap (k : Int) = (k : Int) := by rw [IntKind.wrap_i64]; omega
                  have q7 : decide ((i3 : Int) ≤ (k : Int) + 1) = true := decide_eq_true (by omega)
                  obtain ⟨c1, c2, c2b, c3, c4, c4b, c5⟩ := HE.out.1.ask HC.out (i := k + 1) (j := a) (by rw [HN.out]; omega) (by rw [HN.out]; omega)
                  obtain ⟨z, hz'⟩ : ∃ z, cf dk[k + 1]! dk[a]! = z := ⟨_, rfl⟩
                  have HZ := Lib.hid hz'
                  rw [hz'] at c5
                  clear hz'
                  generalize (dk[k + 1]!).1 = x1 at c1 c5
                  generalize (dk[k + 1]!).2.1 = x2 at c2 c5
                  generalize (dk[k + 1]!).2.2 = x2b at c2b c5
                  generalize (dk[a]!).1 = x3 at c3 c5
                  generalize (dk[a]!).2.1 = x4 at c4 c5
                  generalize (dk[a]!).2.2 = x4b at c4b c5
                  by_cases hz : z < 0
                  · have hd : decide (z < 0) = true := decide_eq_true hz
                    go_wp2_with fail
                    go_quiet_grown (first | (go_at_fn g; refine Calls.grown_of (c5 _ _).out))
                    go_wp2_with fail
                    go_meet
                    exact ⟨k + 1, by first | rfl | go_num, by omega, by omega, HE.out.1.grew (grewN _ _ _), by rw [← HE.out.2, scan_down_stop _ _ _ _ (.inr (by show (!decide (cf dk[k + 1]! dk[a]! < 0)) = false; (rw [HZ.out, hd] <;> rfl)))]⟩
                  · have hd : decide (z < 0) = false := decide_eq_false hz
                    go_wp2_with fail
                    go_quiet_grown (first | (go_at_fn g; refine Calls.grown_of (c5 _ _).out))
                    go_wp2_with fail
                    go_roundg (k)
                    case measure => omega
                    case rel => exact ⟨k, by first | rfl | go_num, by omega, by omega, Nat.le_refl _, (show Hid _ from ⟨HE.out.1.grew (grewN _ _ _), by rw [← HE.out.2]; exact (scan_down_go _ _ _ _ hle (by show (!decide (cf dk[k + 1]! dk[a]! < 0)) = true; (rw [HZ.out, hd] <;> rfl))).symm⟩)⟩
                · have hleZ : decide ((i3 : Int) ≤ (j3 : Int)) = false := decide_eq_false (by omega)
                  go_wp2_with fail
                  go_quiet (fail)
                  go_wp2_with fail
                  go_meet
                  exact ⟨j3, rfl, by omega, by omega, HE.out.1.grew (grewD _ _), by rw [← HE.out.2, scan_down_stop _ _ _ _ (.inl hle)]⟩
            case rest =>
              obtain ⟨j3, rfl, hb_j31, hb_j32, HE⟩ := hcut
              by_cases hgt : j3 < i3
              · have hgt' : decide ((i3 : Int) > (j3 : Int)) = true := decide_eq_true (by omega)
                have p1 : (j3 : Int) < (n : Int) := by omega
                have p2 : (a : Int) < (n : Int) := by omega
                have ee : partLoop (lo cf) a i j dk = (j3, dk) := part_stop a i j dk i3 j3 HV.out.2 HE.out.2 hgt
                have ki : j3 < dk.size := by rw [HN.out]; omega
                have kj : a < dk.size := by rw [HN.out]; omega
                have e1 := HE.out.1.c0 ki
                have e2 := HE.out.1.c1 ki
                have e2b := HE.out.1.c2 ki
                have e3 := HE.out.1.c0 kj
                have e4 := HE.out.1.c1 kj
                have e4b := HE.out.1.c2 kj
                have fz := (HE.out.1).row.thaw
                have HY := Lib.hid ((HE.out.1).swap ki kj)
                obtain ⟨⟨v1, e5⟩, ⟨v2, e6⟩, v3, e7⟩ := (HE.out.1).exch ki kj (dk[a]!).1 (dk[a]!).2.1 (dk[a]!).2.2
                have nn1 : ¬ (j3) * 3 = (a) * 3 + 1 := by omega
                have nn2 : ¬ (a) * 3 = (j3) * 3 + 1 := by omega
                have nn3 : ¬ (j3) * 3 = (a) * 3 + 2 := by omega
                have nn4 : ¬ (a) * 3 = (j3) * 3 + 2 := by omega
                have nn5 : ¬ (j3) * 3 + 1 = (a) * 3 := by omega
                have nn6 : ¬ (a) * 3 + 1 = (j3) * 3 := by omega
                have nn7 : ¬ (j3) * 3 + 1 = (a) * 3 + 2 := by omega
                have nn8 : ¬ (a) * 3 + 1 = (j3) * 3 + 2 := by omega
                have nn9 : ¬ (j3) * 3 + 2 = (a) * 3 := by omega
                have nn10 : ¬ (a) * 3 + 2 = (j3) * 3 := by omega
                have nn11 : ¬ (j3) * 3 + 2 = (a) * 3 + 1 := by omega
                have nn12 : ¬ (a) * 3 + 2 = (j3) * 3 + 1 := by omega
                generalize (dk[a]!).1 = x1 at e1 e2 e2b e3 e4 e4b e5 e6 e7 HY
                generalize (dk[a]!).2.1 = x2 at e1 e2 e2b e3 e4 e4b e5 e6 e7 HY
                generalize (dk[a]!).2.2 = x2b at e1 e2 e2b e3 e4 e4b e5 e6 e7 HY
                generalize (dk[j3]!).1 = x3 at e1 e2 e2b e3 e4 e4b e5 e6 e7 HY
                generalize (dk[j3]!).2.1 = x4 at e1 e2 e2b e3 e4 e4b e5 e6 e7 HY
                generalize (dk[j3]!).2.2 = x4b at e1 e2 e2b e3 e4 e4b e5 e6 e7 HY
                go_wp2_with fail
                go_region
                clear e1 e2 e2b e3 e4 e4b e5 e6 e7 fz
                go_wp2_with fail
                go_ret2
                rw [HP.out, ← HQ.out, ee]
                exact ⟨rfl, HY.out⟩
              · skip
                have hgt' : decide ((i3 : Int) > (j3 : Int)) = false := decide_eq_false (by omega)
                have p1 : (i3 : Int) < (n : Int) := by omega
                have p2 : (j3 : Int) < (n : Int) := by omega
                have p3 : IntKind.i64.wrap ((i3 : Int) + 1) = (i3 : Int) + 1 := by rw [IntKind.wrap_i64]; omega
                obtain ⟨k, rfl⟩ : ∃ k, j3 = k + 1 := ⟨j3 - 1, by omega⟩
                have p4 : IntKind.i64.wrap ((k : Int) + 1 - 1) = (k : Int) := by rw [IntKind.wrap_i64]; omega
                have p5 : IntKind.i64.wrap (k : Int) = (k : Int) := by rw [IntKind.wrap_i64]; omega
                have p6 : ((k : Int) + 1).toNat = k + 1 := by omega
                have p7 : (0 : Int) ≤ (k : Int) + 1 := by omega
                have p8 : (k : Int) + 1 < (n : Int) := by omega
                have p9 : decide ((i3 : Int) > (k : Int) + 1) = false := decide_eq_false (by omega)
                have ki : i3 < dk.size := by rw [HN.out]; omega
                have kj : k + 1 < dk.size := by rw [HN.out]; omega
                have e1 := HE.out.1.c0 ki
                have e2 := HE.out.1.c1 ki
                have e2b := HE.out.1.c2 ki
                have e3 := HE.out.1.c0 kj
                have e4 := HE.out.1.c1 kj
                have e4b := HE.out.1.c2 kj
                have fz := (HE.out.1).row.thaw
                have HY := Lib.hid ((HE.out.1).swap ki kj)
                obtain ⟨⟨v1, e5⟩, ⟨v2, e6⟩, v3, e7⟩ := (HE.out.1).exch ki kj (dk[k + 1]!).1 (dk[k + 1]!).2.1 (dk[k + 1]!).2.2
                have nn1 : ¬ (i3) * 3 = (k + 1) * 3 + 1 := by omega
                have nn2 : ¬ (k + 1) * 3 = (i3) * 3 + 1 := by omega
                have nn3 : ¬ (i3) * 3 = (k + 1) * 3 + 2 := by omega
                have nn4 : ¬ (k + 1) * 3 = (i3) * 3 + 2 := by omega
                have nn5 : ¬ (i3) * 3 + 1 = (k + 1) * 3 := by omega
                have nn6 : ¬ (k + 1) * 3 + 1 = (i3) * 3 := by omega
                have nn7 : ¬ (i3) * 3 + 1 = (k + 1) * 3 + 2 := by omega
                have nn8 : ¬ (k + 1) * 3 + 1 = (i3) * 3 + 2 := by omega
                have nn9 : ¬ (i3) * 3 + 2 = (k + 1) * 3 := by omega
                have nn10 : ¬ (k + 1) * 3 + 2 = (i3) * 3 := by omega
                have nn11 : ¬ (i3) * 3 + 2 = (k + 1) * 3 + 1 := by omega
                have nn12 : ¬ (k + 1) * 3 + 2 = (i3) * 3 + 1 := by omega
                generalize (dk[k + 1]!).1 = x1 at e1 e2 e2b e3 e4 e4b e5 e6 e7 HY
                generalize (dk[k + 1]!).2.1 = x2 at e1 e2 e2b e3 e4 e4b e5 e6 e7 HY
                generalize (dk[k + 1]!).2.2 = x2b at e1 e2 e2b e3 e4 e4b e5 e6 e7 HY
                generalize (dk[i3]!).1 = x3 at e1 e2 e2b e3 e4 e4b e5 e6 e7 HY
                generalize (dk[i3]!).2.1 = x4 at e1 e2 e2b e3 e4 e4b e5 e6 e7 HY
                generalize (dk[i3]!).2.2 = x4b at e1 e2 e2b e3 e4 e4b e5 e6 e7 HY
                go_wp2_with fail
                go_region
                clear e1 e2 e2b e3 e4 e4b e5 e6 e7 fz
                go_wp2_with fail
                go_roundg (k + 1 - (i3 + 1))
                case measure => omega
                case rel =>
                  refine ⟨i3 + 1, k, swp dk i3 (k + 1), by go_num, by first | rfl | go_num, by omega, by omega, by omega, by omega, (show Hid _ from ⟨by rw [size_swp]; exact HN.out, HY.out, ?_⟩)⟩
                  rw [← HQ.out, part_go a i j dk i3 (k + 1) HV.out.2 HE.out.2 (by omega) (by omega)]
                  rfl
end Go.Proofs.Ytcipilggddpnpaa.K
