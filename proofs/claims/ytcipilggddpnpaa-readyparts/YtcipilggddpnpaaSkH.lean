/-
  slices.SortFunc's family at entries: partialInsertionSort.
-/
import Derived.Test.YtcipilggddpnpaaSkE
namespace Go.Proofs.Ytcipilggddpnpaa.K
open Go.RowKit Go.Sort Go.Shelf Go.Maps
set_option linter.unusedVariables false
set_option linter.unusedSimpArgs false

theorem scan_sorted_go {lt : Ent → Ent → Bool} (d : Array Ent) (b k : Nat) (h : k + 1 < b) (hp : lt d[k + 1]! d[k]! = false) : scanSorted lt d b (k + 1) = scanSorted lt d b (k + 1 + 1) := by
  conv => lhs; rw [scanSorted]
  rw [if_pos (by simp [h, hp])]
theorem scan_sorted_stop {lt : Ent → Ent → Bool} (d : Array Ent) (b i : Nat) (h : ¬ i < b ∨ lt d[i]! d[i - 1]! = true) : scanSorted lt d b i = i := by
  rw [scanSorted, if_neg]
  intro x
  simp only [Bool.and_eq_true, decide_eq_true_eq, Bool.not_eq_true'] at x
  rcases h with h | h
  · exact h x.1
  · rw [h] at x; cases x.2
theorem shift_down_go {lt : Ent → Ent → Bool} (m : Nat) (d : Array Ent) (h : lt d[m + 1]! d[m]! = true) : shiftDown lt (m + 1) d = shiftDown lt m (swp d (m + 1) m) := by
  conv => lhs; rw [shiftDown]
  rw [if_neg (by simp [h])]
theorem shift_down_stop {lt : Ent → Ent → Bool} (m : Nat) (d : Array Ent) (h : lt d[m + 1]! d[m]! = false) : shiftDown lt (m + 1) d = d := by
  rw [shiftDown, if_pos (by simp [h])]
theorem shift_up_go {lt : Ent → Ent → Bool} (b m : Nat) (d : Array Ent) (hb : m + 1 < b) (h : lt d[m + 1]! d[m]! = true) : shiftUp lt b (m + 1) d = shiftUp lt b (m + 1 + 1) (swp d (m + 1) m) := by
  conv => lhs; rw [shiftUp]
  rw [if_pos hb, if_neg (by simp [h])]; rfl
theorem shift_up_stop {lt : Ent → Ent → Bool} (b m : Nat) (d : Array Ent) (h : lt d[m + 1]! d[m]! = false) : shiftUp lt b (m + 1) d = d := by
  rw [shiftUp]
  split
  · rw [if_pos (by simp [h])]
  · rfl
theorem shift_up_end {lt : Ent → Ent → Bool} (b j : Nat) (d : Array Ent) (h : ¬ j < b) : shiftUp lt b j d = d := by
  rw [shiftUp, if_neg h]
theorem pi_done {lt : Ent → Ent → Bool} (a b s i : Nat) (d : Array Ent) (i2 : Nat) (h : i2 = scanSorted lt d b i) (e : i2 = b) : partialIns lt a b (s + 1) i d = (d, true) := by
  rw [partialIns]
  simp only [← h]
  rw [if_pos e]
theorem pi_short {lt : Ent → Ent → Bool} (a b s i : Nat) (d : Array Ent) (i2 : Nat) (h : i2 = scanSorted lt d b i) (e : ¬ i2 = b) (hl : b - a < 50) : partialIns lt a b (s + 1) i d = (d, false) := by
  rw [partialIns]
  simp only [← h]
  rw [if_neg e, if_pos hl]
theorem pi_go {lt : Ent → Ent → Bool} (a b s i : Nat) (d : Array Ent) (i2 : Nat) (h : i2 = scanSorted lt d b i) (e : ¬ i2 = b) (hl : ¬ b - a < 50) (d2 d3 : Array Ent) (h2 : d2 = if i2 - a ≥ 2 then shiftDown lt (i2 - 1) (swp d i2 (i2 - 1)) else swp d i2 (i2 - 1)) (h3 : d3 = if b - i2 ≥ 2 then shiftUp lt b (i2 + 1) d2 else d2) : partialIns lt a b (s + 1) i d = partialIns lt a b s i2 d3 := by
  conv => lhs; rw [partialIns]
  simp only [← h]
  rw [if_neg e, if_neg hl, ← h2, ← h3]

set_option maxHeartbeats 16000000 in
set_option maxRecDepth 100000 in
theorem partialIns_any (g : Nat) (rc : Value) (cf : Ent → Ent → Int) (rb cap : Nat) (w0 : World) (hC : CmpOk g rc cf rb w0) (d : Array Ent) (n : Nat) (hn : d.size = n) (hsm : n ≤ 1099511627776) (a b : Nat) (hab : a < b) (hbn : b ≤ n) (w : World) (hS : Srt w0 rb cap d w) :
    Calls Try.prog 111 #[.slice (some ⟨rb, 0, none⟩) n cap, .int .i64 a, .int .i64 b, .func (.func g) #[rc] #[]] w fun e w' => e = .returned (.bool (partialInsertionSort (lo cf) d a b).2) ∧ Srt w0 rb cap (partialInsertionSort (lo cf) d a b).1 w' := by
  have mixed : Try.prog.follows .mixedOrders = true := by kernel_rfl
  have eg := hC.enters
  have HC := Lib.hid hC
  have HN0 := Lib.hid hn
  have H0 := Lib.hid hS
  obtain ⟨L, hL⟩ : ∃ L, b - a = L := ⟨_, rfl⟩
  have o1 : IntKind.i64.wrap ((a : Int) + 1) = (a : Int) + 1 := by rw [IntKind.wrap_i64]; omega
  have o2 : (b : Int) - (a : Int) = (L : Int) := by omega
  have o3 : IntKind.i64.wrap (L : Int) = (L : Int) := by rw [IntKind.wrap_i64]; omega
  show Calls _ _ _ _ fun e w' => e = .returned (.bool (partialIns (lo cf) a b 5 (a + 1) d).2) ∧ Srt w0 rb cap (partialIns (lo cf) a b 5 (a + 1) d).1 w'
  clear hC hS hn
  go_enter Try.func111, Try.ntmps111
  go_wp2_with fail
  go_loopg [9, 10] 5 (fun gk s1 s2 wr => ∃ (i t : Nat) (dk : Array Ent), s1 = .int .i64 i ∧ s2 = .int .i64 t ∧ a < i ∧ i ≤ b ∧ t ≤ 5 ∧ 5 - t ≤ gk ∧ Hid (dk.size = n ∧ Srt w0 rb cap dk wr ∧ partialIns (lo cf) a b (5 - t) i dk = partialIns (lo cf) a b 5 (a + 1) d))
  case atStart => exact ⟨a + 1, 0, d, by go_num, by first | rfl | go_num, by omega, by omega, by omega, by omega, HN0.out, H0.out, rfl⟩
  case round =>
    rename World => W1
    obtain ⟨i, t, dk, rfl, rfl, hai, hib, ht5, hgk0, HR⟩ := hrel
    have HN : Hid (dk.size = n) := HR.out.1
    have HK : Hid (Srt w0 rb cap dk W1) := HR.out.2.1
    have HQ : Hid (partialIns (lo cf) a b (5 - t) i dk = partialIns (lo cf) a b 5 (a + 1) d) := HR.out.2.2
    clear HR HN0 H0
    by_cases ht : t < 5
    · have htz : decide ((t : Int) < 5) = true := decide_eq_true (by omega)
      have ht1 : IntKind.i64.wrap ((t : Int) + 1) = (t : Int) + 1 := by rw [IntKind.wrap_i64]; omega
      obtain ⟨s, hs⟩ : ∃ s, 4 - t = s := ⟨_, rfl⟩
      go_upto_block 2 with fail
      go_cut [9] (fun s wx => ∃ i2 : Nat, s = .int .i64 i2 ∧ i ≤ i2 ∧ i2 ≤ b ∧ Hid (Srt w0 rb cap dk wx ∧ i2 = scanSorted (lo cf) dk b i))
      case first =>
        go_wp2_with fail
        go_loopg [9] (b - i) (fun gk s wr => ∃ i2 : Nat, s = .int .i64 i2 ∧ i ≤ i2 ∧ i2 ≤ b ∧ b - i2 ≤ gk ∧ Hid (Srt w0 rb cap dk wr ∧ scanSorted (lo cf) dk b i2 = scanSorted (lo cf) dk b i))
        case atStart => exact ⟨i, by first | rfl | go_num, by omega, by omega, Nat.le_refl _, HK.out, rfl⟩
        case round =>
          obtain ⟨i2, rfl, hb1, hb2, hgk, HU⟩ := hrel
          by_cases hle : i2 < b
          · obtain ⟨k, rfl⟩ : ∃ k, i2 = k + 1 := ⟨i2 - 1, by omega⟩
            have hleZ : decide ((k : Int) + 1 < (b : Int)) = true := decide_eq_true (by omega)
            have HNj := HN
            have q1 : (k : Int) + 1 < (n : Int) := by omega
            have q2 : (k : Int) < (n : Int) := by omega
            have q3 : (0 : Int) ≤ (k : Int) + 1 := by omega
            have q4 : ((k : Int) + 1).toNat = k + 1 := by omega
            have q5 : IntKind.i64.wrap ((k : Int) + 1 - 1) = (k : Int) := by rw [IntKind.wrap_i64]; omega
            have q6 : IntKind.i64.wrap (k : Int) = (k : Int) := by rw [IntKind.wrap_i64]; omega
            have q7 : IntKind.i64.wrap ((k : Int) + 1 + 1) = (k : Int) + 1 + 1 := by rw [IntKind.wrap_i64]; omega
            obtain ⟨c1, c2, c2b, c3, c4, c4b, c5⟩ := HU.out.1.ask HC.out (i := k + 1) (j := k) (by rw [HNj.out]; omega) (by rw [HNj.out]; omega)
            obtain ⟨z, hz'⟩ : ∃ z, cf dk[k + 1]! dk[k]! = z := ⟨_, rfl⟩
            have HZ := Lib.hid hz'
            rw [hz'] at c5
            clear hz'
            generalize (dk[k + 1]!).1 = x1 at c1 c5
            generalize (dk[k + 1]!).2.1 = x2 at c2 c5
            generalize (dk[k + 1]!).2.2 = x2b at c2b c5
            generalize (dk[k]!).1 = x3 at c3 c5
            generalize (dk[k]!).2.1 = x4 at c4 c5
            generalize (dk[k]!).2.2 = x4b at c4b c5
            by_cases hz : z < 0
            · have hd : decide (z < 0) = true := decide_eq_true hz
              go_wp2_with fail
              go_quiet_grown (first | (go_at_fn g; refine Calls.grown_of (c5 _ _).out))
              go_wp2_with fail
              go_meet
              exact ⟨k + 1, by first | rfl | go_num, by omega, by omega, HU.out.1.grew (grewN _ _ _), by rw [← HU.out.2, scan_sorted_stop _ _ _ (.inr (by show decide (cf dk[k + 1]! dk[k]! < 0) = true; rw [HZ.out]; exact hd))]⟩
            · have hd : decide (z < 0) = false := decide_eq_false hz
              go_wp2_with fail
              go_quiet_grown (first | (go_at_fn g; refine Calls.grown_of (c5 _ _).out))
              go_wp2_with fail
              go_roundg (b - (k + 1 + 1))
              case measure => omega
              case rel => exact ⟨k + 1 + 1, by first | rfl | go_num, by omega, by omega, Nat.le_refl _, (show Hid _ from ⟨HU.out.1.grew (grewN _ _ _), by rw [← HU.out.2]; exact (scan_sorted_go _ _ _ hle (by show decide (cf dk[k + 1]! dk[k]! < 0) = false; rw [HZ.out]; exact hd)).symm⟩)⟩
          · have hleZ : decide ((i2 : Int) < (b : Int)) = false := decide_eq_false (by omega)
            go_wp2_with fail
            go_quiet (fail)
            go_wp2_with fail
            go_meet
            exact ⟨i2, rfl, by omega, by omega, HU.out.1.grew (grewD _ _), by rw [← HU.out.2, scan_sorted_stop _ _ _ (.inl hle)]⟩
      case rest =>
        obtain ⟨i2, rfl, hb1, hb2, HU⟩ := hcut
        by_cases hib : i2 = b
        · have hibz : ((i2 : Int) == (b : Int)) = true := beq_iff_eq.2 (by omega)
          go_wp2_with fail
          go_ret
          rw [show 5 - t = s + 1 by omega] at HQ
          rw [← HQ.out, pi_done a b s i dk i2 HU.out.2 hib]
          exact ⟨rfl, HU.out.1⟩
        · have hibz : ((i2 : Int) == (b : Int)) = false := beq_eq_false_iff_ne.2 (by omega)
          by_cases h50 : L < 50
          · have h50z : decide ((L : Int) < 50) = true := decide_eq_true (by omega)
            go_wp2_with fail
            go_ret
            rw [show 5 - t = s + 1 by omega] at HQ
            rw [← HQ.out, pi_short a b s i dk i2 HU.out.2 hib (by omega)]
            exact ⟨rfl, HU.out.1⟩
          · have h50z : decide ((L : Int) < 50) = false := decide_eq_false (by omega)
            obtain ⟨k, rfl⟩ : ∃ k, i2 = k + 1 := ⟨i2 - 1, by omega⟩
            have hibz2 : (((k : Int) + 1) == (b : Int)) = false := beq_eq_false_iff_ne.2 (by omega)
            have q1 : (k : Int) + 1 < (n : Int) := by omega
            have q2 : (k : Int) < (n : Int) := by omega
            have q3 : (0 : Int) ≤ (k : Int) + 1 := by omega
            have q4 : ((k : Int) + 1).toNat = k + 1 := by omega
            have q5 : IntKind.i64.wrap ((k : Int) + 1 - 1) = (k : Int) := by rw [IntKind.wrap_i64]; omega
            have q6 : IntKind.i64.wrap (k : Int) = (k : Int) := by rw [IntKind.wrap_i64]; omega
            have q7 : IntKind.i64.wrap ((k : Int) + 1 + 1) = (k : Int) + 1 + 1 := by rw [IntKind.wrap_i64]; omega
            have ki : k + 1 < dk.size := by rw [HN.out]; omega
            have kj : k < dk.size := by rw [HN.out]; omega
            have e1 := HU.out.1.c0 ki
            have e2 := HU.out.1.c1 ki
            have e2b := HU.out.1.c2 ki
            have e3 := HU.out.1.c0 kj
            have e4 := HU.out.1.c1 kj
            have e4b := HU.out.1.c2 kj
            have fz := (HU.out.1).row.thaw
            have HX := Lib.hid ((HU.out.1).swap ki kj)
            obtain ⟨⟨v1, e5⟩, ⟨v2, e6⟩, v3, e7⟩ := (HU.out.1).exch ki kj (dk[k]!).1 (dk[k]!).2.1 (dk[k]!).2.2
            have nn1 : ¬ (k + 1) * 3 = (k) * 3 + 1 := by omega
            have nn2 : ¬ (k) * 3 = (k + 1) * 3 + 1 := by omega
            have nn3 : ¬ (k + 1) * 3 = (k) * 3 + 2 := by omega
            have nn4 : ¬ (k) * 3 = (k + 1) * 3 + 2 := by omega
            have nn5 : ¬ (k + 1) * 3 + 1 = (k) * 3 := by omega
            have nn6 : ¬ (k) * 3 + 1 = (k + 1) * 3 := by omega
            have nn7 : ¬ (k + 1) * 3 + 1 = (k) * 3 + 2 := by omega
            have nn8 : ¬ (k) * 3 + 1 = (k + 1) * 3 + 2 := by omega
            have nn9 : ¬ (k + 1) * 3 + 2 = (k) * 3 := by omega
            have nn10 : ¬ (k) * 3 + 2 = (k + 1) * 3 := by omega
            have nn11 : ¬ (k + 1) * 3 + 2 = (k) * 3 + 1 := by omega
            have nn12 : ¬ (k) * 3 + 2 = (k + 1) * 3 + 1 := by omega
            generalize (dk[k]!).1 = x1 at e1 e2 e2b e3 e4 e4b e5 e6 e7 HX
            generalize (dk[k]!).2.1 = x2 at e1 e2 e2b e3 e4 e4b e5 e6 e7 HX
            generalize (dk[k]!).2.2 = x2b at e1 e2 e2b e3 e4 e4b e5 e6 e7 HX
            generalize (dk[k + 1]!).1 = x3 at e1 e2 e2b e3 e4 e4b e5 e6 e7 HX
            generalize (dk[k + 1]!).2.1 = x4 at e1 e2 e2b e3 e4 e4b e5 e6 e7 HX
            generalize (dk[k + 1]!).2.2 = x4b at e1 e2 e2b e3 e4 e4b e5 e6 e7 HX
            go_wp2_with fail
            go_region
            clear e1 e2 e2b e3 e4 e4b e5 e6 e7 fz
            have H1 : Hid ((swp dk (k + 1) k).size = n ∧ _) := ⟨by rw [size_swp]; exact HN.out, HX.out⟩
            obtain ⟨u, hu⟩ : ∃ u, k + 1 - a = u := ⟨_, rfl⟩
            have r3 : (k : Int) + 1 - (a : Int) = (u : Int) := by omega
            have r4 : IntKind.i64.wrap (u : Int) = (u : Int) := by rw [IntKind.wrap_i64]; omega
            by_cases h1 : 2 ≤ u
            · have h1z : decide ((u : Int) ≥ 2) = true := decide_eq_true (by omega)
              go_upto_block 4 with fail
              go_cut [11] (fun s wx => Hid ((shiftDown (lo cf) k (swp dk (k + 1) k)).size = n ∧ Srt w0 rb cap (shiftDown (lo cf) k (swp dk (k + 1) k)) wx))
              case first =>
                go_wp2_with fail
                go_loopg [11] k (fun gk s wr => ∃ (j : Nat) (dj : Array Ent), s = .int .i64 j ∧ j ≤ k ∧ j ≤ gk ∧ Hid (dj.size = n ∧ Srt w0 rb cap dj wr ∧ shiftDown (lo cf) j dj = shiftDown (lo cf) k (swp dk (k + 1) k)))
                case atStart => exact ⟨k, (swp dk (k + 1) k), by first | rfl | go_num, Nat.le_refl _, Nat.le_refl _, H1.out.1, H1.out.2, rfl⟩
                case round =>
                  rename World => Wj
                  obtain ⟨j, dj, rfl, hj1, hj2, HJ⟩ := hrel
                  by_cases hj : 1 ≤ j
                  · obtain ⟨m, rfl⟩ : ∃ m, j = m + 1 := ⟨j - 1, by omega⟩
                    have hjz : decide ((m : Int) + 1 ≥ 1) = true := decide_eq_true (by omega)
                    have HNj : Hid (dj.size = n) := HJ.out.1
                    have HSj : Hid (Srt w0 rb cap dj Wj) := HJ.out.2.1
                    have q1 : (m : Int) + 1 < (n : Int) := by omega
                    have q2 : (m : Int) < (n : Int) := by omega
                    have q3 : (0 : Int) ≤ (m : Int) + 1 := by omega
                    have q4 : ((m : Int) + 1).toNat = m + 1 := by omega
                    have q5 : IntKind.i64.wrap ((m : Int) + 1 - 1) = (m : Int) := by rw [IntKind.wrap_i64]; omega
                    have q6 : IntKind.i64.wrap (m : Int) = (m : Int) := by rw [IntKind.wrap_i64]; omega
                    have q7 : IntKind.i64.wrap ((m : Int) + 1 + 1) = (m : Int) + 1 + 1 := by rw [IntKind.wrap_i64]; omega
                    obtain ⟨c1, c2, c2b, c3, c4, c4b, c5⟩ := HSj.out.ask HC.out (i := m + 1) (j := m) (by rw [HNj.out]; omega) (by rw [HNj.out]; omega)
                    obtain ⟨z, hz'⟩ : ∃ z, cf dj[m + 1]! dj[m]! = z := ⟨_, rfl⟩
                    have HZ := Lib.hid hz'
                    rw [hz'] at c5
                    clear hz'
                    generalize (dj[m + 1]!).1 = x1 at c1 c5
                    generalize (dj[m + 1]!).2.1 = x2 at c2 c5
                    generalize (dj[m + 1]!).2.2 = x2b at c2b c5
                    generalize (dj[m]!).1 = x3 at c3 c5
                    generalize (dj[m]!).2.1 = x4 at c4 c5
                    generalize (dj[m]!).2.2 = x4b at c4b c5
                    by_cases hz : z < 0
                    · have hd : decide (z < 0) = true := decide_eq_true hz
                      go_wp2_with fail
                      go_quiet_grown (first | (go_at_fn g; refine Calls.grown_of (c5 _ _).out))
                      obtain ⟨W3, hW3⟩ : ∃ W3, grow (Wj.drewN nq) osq = W3 := ⟨_, rfl⟩
                      have HG : Hid (Srt w0 rb cap dj W3) := by rw [← hW3]; exact HSj.out.grew (grewN _ _ _)
                      rw [hW3]
                      clear hW3 c1 c2 c2b c3 c4 c4b c5
                      have HN := HNj
                      have ki : m + 1 < dj.size := by rw [HN.out]; omega
                      have kj : m < dj.size := by rw [HN.out]; omega
                      have e1 := HG.out.c0 ki
                      have e2 := HG.out.c1 ki
                      have e2b := HG.out.c2 ki
                      have e3 := HG.out.c0 kj
                      have e4 := HG.out.c1 kj
                      have e4b := HG.out.c2 kj
                      have fz := (HG.out).row.thaw
                      have HX := Lib.hid ((HG.out).swap ki kj)
                      obtain ⟨⟨v1, e5⟩, ⟨v2, e6⟩, v3, e7⟩ := (HG.out).exch ki kj (dj[m]!).1 (dj[m]!).2.1 (dj[m]!).2.2
                      have nn1 : ¬ (m + 1) * 3 = (m) * 3 + 1 := by omega
                      have nn2 : ¬ (m) * 3 = (m + 1) * 3 + 1 := by omega
                      have nn3 : ¬ (m + 1) * 3 = (m) * 3 + 2 := by omega
                      have nn4 : ¬ (m) * 3 = (m + 1) * 3 + 2 := by omega
                      have nn5 : ¬ (m + 1) * 3 + 1 = (m) * 3 := by omega
                      have nn6 : ¬ (m) * 3 + 1 = (m + 1) * 3 := by omega
                      have nn7 : ¬ (m + 1) * 3 + 1 = (m) * 3 + 2 := by omega
                      have nn8 : ¬ (m) * 3 + 1 = (m + 1) * 3 + 2 := by omega
                      have nn9 : ¬ (m + 1) * 3 + 2 = (m) * 3 := by omega
                      have nn10 : ¬ (m) * 3 + 2 = (m + 1) * 3 := by omega
                      have nn11 : ¬ (m + 1) * 3 + 2 = (m) * 3 + 1 := by omega
                      have nn12 : ¬ (m) * 3 + 2 = (m + 1) * 3 + 1 := by omega
                      generalize (dj[m]!).1 = x1 at e1 e2 e2b e3 e4 e4b e5 e6 e7 HX
                      generalize (dj[m]!).2.1 = x2 at e1 e2 e2b e3 e4 e4b e5 e6 e7 HX
                      generalize (dj[m]!).2.2 = x2b at e1 e2 e2b e3 e4 e4b e5 e6 e7 HX
                      generalize (dj[m + 1]!).1 = x3 at e1 e2 e2b e3 e4 e4b e5 e6 e7 HX
                      generalize (dj[m + 1]!).2.1 = x4 at e1 e2 e2b e3 e4 e4b e5 e6 e7 HX
                      generalize (dj[m + 1]!).2.2 = x4b at e1 e2 e2b e3 e4 e4b e5 e6 e7 HX
                      go_wp2_with fail
                      go_region
                      clear e1 e2 e2b e3 e4 e4b e5 e6 e7 fz
                      go_wp2_with fail
                      go_roundg (m)
                      case measure => omega
                      case rel => exact ⟨m, swp dj (m + 1) m, by first | rfl | go_num, by omega, Nat.le_refl _, (show Hid _ from ⟨by rw [size_swp]; exact HNj.out, HX.out, by rw [← HJ.out.2.2]; exact (shift_down_go _ _ (by show decide (cf dj[m + 1]! dj[m]! < 0) = true; rw [HZ.out]; exact hd)).symm⟩)⟩
                    · have hd : decide (z < 0) = false := decide_eq_false hz
                      go_wp2_with fail
                      go_quiet_grown (first | (go_at_fn g; refine Calls.grown_of (c5 _ _).out))
                      go_wp2_with fail
                      go_meet
                      have ee : dj = shiftDown (lo cf) k (swp dk (k + 1) k) := (shift_down_stop _ _ (by show decide (cf dj[m + 1]! dj[m]! < 0) = false; rw [HZ.out]; exact hd)).symm.trans HJ.out.2.2
                      exact ⟨by rw [← ee]; exact HNj.out, by rw [← ee]; exact HSj.out.grew (grewN _ _ _)⟩
                  · obtain rfl : j = 0 := by omega
                    have hjz : decide (((0 : Nat) : Int) ≥ 1) = false := by decide
                    go_wp2_with fail
                    go_meet
                    have ee : dj = shiftDown (lo cf) k (swp dk (k + 1) k) := HJ.out.2.2
                    exact ⟨by rw [← ee]; exact HJ.out.1, by rw [← ee]; exact HJ.out.2.1⟩
              case rest =>
                have H2 := hcut
                obtain ⟨u2, hu2⟩ : ∃ u2, b - (k + 1) = u2 := ⟨_, rfl⟩
                have r1 : (b : Int) - ((k : Int) + 1) = (u2 : Int) := by omega
                have r2 : IntKind.i64.wrap (u2 : Int) = (u2 : Int) := by rw [IntKind.wrap_i64]; omega
                by_cases h2 : 2 ≤ u2
                · have h2z : decide ((u2 : Int) ≥ 2) = true := decide_eq_true (by omega)
                  go_wp2_with fail
                  go_loopg [12] b (fun gk s wr => ∃ (j : Nat) (dj : Array Ent), s = .int .i64 j ∧ k + 1 < j ∧ j ≤ b ∧ b - j ≤ gk ∧ Hid (dj.size = n ∧ Srt w0 rb cap dj wr ∧ shiftUp (lo cf) b j dj = shiftUp (lo cf) b (k + 1 + 1) (shiftDown (lo cf) k (swp dk (k + 1) k))))
                  case atStart => exact ⟨(k + 1 + 1), (shiftDown (lo cf) k (swp dk (k + 1) k)), by first | rfl | go_num, by omega, by omega, by omega, H2.out.1, H2.out.2, rfl⟩
                  case round =>
                    rename World => Wj
                    obtain ⟨j, dj, rfl, hj1, hj2, hj3, HJ⟩ := hrel
                    by_cases hj : j < b
                    · obtain ⟨m, rfl⟩ : ∃ m, j = m + 1 := ⟨j - 1, by omega⟩
                      have hjz : decide ((m : Int) + 1 < (b : Int)) = true := decide_eq_true (by omega)
                      have HNj : Hid (dj.size = n) := HJ.out.1
                      have HSj : Hid (Srt w0 rb cap dj Wj) := HJ.out.2.1
                      have q1 : (m : Int) + 1 < (n : Int) := by omega
                      have q2 : (m : Int) < (n : Int) := by omega
                      have q3 : (0 : Int) ≤ (m : Int) + 1 := by omega
                      have q4 : ((m : Int) + 1).toNat = m + 1 := by omega
                      have q5 : IntKind.i64.wrap ((m : Int) + 1 - 1) = (m : Int) := by rw [IntKind.wrap_i64]; omega
                      have q6 : IntKind.i64.wrap (m : Int) = (m : Int) := by rw [IntKind.wrap_i64]; omega
                      have q7 : IntKind.i64.wrap ((m : Int) + 1 + 1) = (m : Int) + 1 + 1 := by rw [IntKind.wrap_i64]; omega
                      obtain ⟨c1, c2, c2b, c3, c4, c4b, c5⟩ := HSj.out.ask HC.out (i := m + 1) (j := m) (by rw [HNj.out]; omega) (by rw [HNj.out]; omega)
                      obtain ⟨z, hz'⟩ : ∃ z, cf dj[m + 1]! dj[m]! = z := ⟨_, rfl⟩
                      have HZ := Lib.hid hz'
                      rw [hz'] at c5
                      clear hz'
                      generalize (dj[m + 1]!).1 = x1 at c1 c5
                      generalize (dj[m + 1]!).2.1 = x2 at c2 c5
                      generalize (dj[m + 1]!).2.2 = x2b at c2b c5
                      generalize (dj[m]!).1 = x3 at c3 c5
                      generalize (dj[m]!).2.1 = x4 at c4 c5
                      generalize (dj[m]!).2.2 = x4b at c4b c5
                      by_cases hz : z < 0
                      · have hd : decide (z < 0) = true := decide_eq_true hz
                        go_wp2_with fail
                        go_quiet_grown (first | (go_at_fn g; refine Calls.grown_of (c5 _ _).out))
                        obtain ⟨W3, hW3⟩ : ∃ W3, grow (Wj.drewN nq) osq = W3 := ⟨_, rfl⟩
                        have HG : Hid (Srt w0 rb cap dj W3) := by rw [← hW3]; exact HSj.out.grew (grewN _ _ _)
                        rw [hW3]
                        clear hW3 c1 c2 c2b c3 c4 c4b c5
                        have HN := HNj
                        have ki : m + 1 < dj.size := by rw [HN.out]; omega
                        have kj : m < dj.size := by rw [HN.out]; omega
                        have e1 := HG.out.c0 ki
                        have e2 := HG.out.c1 ki
                        have e2b := HG.out.c2 ki
                        have e3 := HG.out.c0 kj
                        have e4 := HG.out.c1 kj
                        have e4b := HG.out.c2 kj
                        have fz := (HG.out).row.thaw
                        have HX := Lib.hid ((HG.out).swap ki kj)
                        obtain ⟨⟨v1, e5⟩, ⟨v2, e6⟩, v3, e7⟩ := (HG.out).exch ki kj (dj[m]!).1 (dj[m]!).2.1 (dj[m]!).2.2
                        have nn1 : ¬ (m + 1) * 3 = (m) * 3 + 1 := by omega
                        have nn2 : ¬ (m) * 3 = (m + 1) * 3 + 1 := by omega
                        have nn3 : ¬ (m + 1) * 3 = (m) * 3 + 2 := by omega
                        have nn4 : ¬ (m) * 3 = (m + 1) * 3 + 2 := by omega
                        have nn5 : ¬ (m + 1) * 3 + 1 = (m) * 3 := by omega
                        have nn6 : ¬ (m) * 3 + 1 = (m + 1) * 3 := by omega
                        have nn7 : ¬ (m + 1) * 3 + 1 = (m) * 3 + 2 := by omega
                        have nn8 : ¬ (m) * 3 + 1 = (m + 1) * 3 + 2 := by omega
                        have nn9 : ¬ (m + 1) * 3 + 2 = (m) * 3 := by omega
                        have nn10 : ¬ (m) * 3 + 2 = (m + 1) * 3 := by omega
                        have nn11 : ¬ (m + 1) * 3 + 2 = (m) * 3 + 1 := by omega
                        have nn12 : ¬ (m) * 3 + 2 = (m + 1) * 3 + 1 := by omega
                        generalize (dj[m]!).1 = x1 at e1 e2 e2b e3 e4 e4b e5 e6 e7 HX
                        generalize (dj[m]!).2.1 = x2 at e1 e2 e2b e3 e4 e4b e5 e6 e7 HX
                        generalize (dj[m]!).2.2 = x2b at e1 e2 e2b e3 e4 e4b e5 e6 e7 HX
                        generalize (dj[m + 1]!).1 = x3 at e1 e2 e2b e3 e4 e4b e5 e6 e7 HX
                        generalize (dj[m + 1]!).2.1 = x4 at e1 e2 e2b e3 e4 e4b e5 e6 e7 HX
                        generalize (dj[m + 1]!).2.2 = x4b at e1 e2 e2b e3 e4 e4b e5 e6 e7 HX
                        go_wp2_with fail
                        go_region
                        clear e1 e2 e2b e3 e4 e4b e5 e6 e7 fz
                        go_wp2_with fail
                        go_roundg (b - (m + 1 + 1))
                        case measure => omega
                        case rel => exact ⟨m + 1 + 1, swp dj (m + 1) m, by first | rfl | go_num, by omega, by omega, Nat.le_refl _, (show Hid _ from ⟨by rw [size_swp]; exact HNj.out, HX.out, by rw [← HJ.out.2.2]; exact (shift_up_go _ _ _ (by omega) (by show decide (cf dj[m + 1]! dj[m]! < 0) = true; rw [HZ.out]; exact hd)).symm⟩)⟩
                      · have hd : decide (z < 0) = false := decide_eq_false hz
                        have ee : dj = shiftUp (lo cf) b (k + 1 + 1) (shiftDown (lo cf) k (swp dk (k + 1) k)) := (shift_up_stop _ _ _ (by show decide (cf dj[m + 1]! dj[m]! < 0) = false; rw [HZ.out]; exact hd)).symm.trans HJ.out.2.2
                        go_wp2_with fail
                        go_quiet_grown (first | (go_at_fn g; refine Calls.grown_of (c5 _ _).out))
                        have H3 : Hid ((shiftUp (lo cf) b (k + 1 + 1) (shiftDown (lo cf) k (swp dk (k + 1) k))).size = n ∧ Srt w0 rb cap (shiftUp (lo cf) b (k + 1 + 1) (shiftDown (lo cf) k (swp dk (k + 1) k))) (grow (Wj.drewN nq) osq)) := ⟨by rw [← ee]; exact HNj.out, by rw [← ee]; exact HSj.out.grew (grewN _ _ _)⟩
                        clear ee
                        go_wp2_with fail
                        go_roundg s
                        case measure => omega
                        case rel =>
                          refine ⟨k + 1, t + 1, shiftUp (lo cf) b (k + 1 + 1) (shiftDown (lo cf) k (swp dk (k + 1) k)), by first | rfl | go_num, by first | rfl | go_num, by omega, by omega, by omega, by omega, (show Hid _ from ⟨H3.out.1, H3.out.2, ?_⟩)⟩
                          rw [← HQ.out, show 5 - t = s + 1 by omega, show 5 - (t + 1) = s by omega]
                          exact (pi_go a b s i dk (k + 1) HU.out.2 (by omega) (by omega) (shiftDown (lo cf) k (swp dk (k + 1) k)) (shiftUp (lo cf) b (k + 1 + 1) (shiftDown (lo cf) k (swp dk (k + 1) k))) (by rw [if_pos (by omega)]; rfl) (by rw [if_pos (by omega)])).symm
                    · skip
                      have hjz : decide ((j : Int) < (b : Int)) = false := decide_eq_false (by omega)
                      have ee : dj = shiftUp (lo cf) b (k + 1 + 1) (shiftDown (lo cf) k (swp dk (k + 1) k)) := (shift_up_end _ _ _ hj).symm.trans HJ.out.2.2
                      have H3 : Hid ((shiftUp (lo cf) b (k + 1 + 1) (shiftDown (lo cf) k (swp dk (k + 1) k))).size = n ∧ Srt w0 rb cap (shiftUp (lo cf) b (k + 1 + 1) (shiftDown (lo cf) k (swp dk (k + 1) k))) Wj) := ⟨by rw [← ee]; exact HJ.out.1, by rw [← ee]; exact HJ.out.2.1⟩
                      clear ee
                      go_wp2_with fail
                      go_roundg s
                      case measure => omega
                      case rel =>
                        refine ⟨k + 1, t + 1, shiftUp (lo cf) b (k + 1 + 1) (shiftDown (lo cf) k (swp dk (k + 1) k)), by first | rfl | go_num, by first | rfl | go_num, by omega, by omega, by omega, by omega, (show Hid _ from ⟨H3.out.1, H3.out.2, ?_⟩)⟩
                        rw [← HQ.out, show 5 - t = s + 1 by omega, show 5 - (t + 1) = s by omega]
                        exact (pi_go a b s i dk (k + 1) HU.out.2 (by omega) (by omega) (shiftDown (lo cf) k (swp dk (k + 1) k)) (shiftUp (lo cf) b (k + 1 + 1) (shiftDown (lo cf) k (swp dk (k + 1) k))) (by rw [if_pos (by omega)]; rfl) (by rw [if_pos (by omega)])).symm
                · have h2z : decide ((u2 : Int) ≥ 2) = false := decide_eq_false (by omega)
                  go_wp2_with fail
                  go_roundg s
                  case measure => omega
                  case rel =>
                    refine ⟨k + 1, t + 1, shiftDown (lo cf) k (swp dk (k + 1) k), by first | rfl | go_num, by first | rfl | go_num, by omega, by omega, by omega, by omega, (show Hid _ from ⟨H2.out.1, H2.out.2, ?_⟩)⟩
                    rw [← HQ.out, show 5 - t = s + 1 by omega, show 5 - (t + 1) = s by omega]
                    exact (pi_go a b s i dk (k + 1) HU.out.2 (by omega) (by omega) (shiftDown (lo cf) k (swp dk (k + 1) k)) (shiftDown (lo cf) k (swp dk (k + 1) k)) (by rw [if_pos (by omega)]; rfl) (by rw [if_neg (by omega)])).symm
            · have h1z : decide ((u : Int) ≥ 2) = false := decide_eq_false (by omega)
              obtain ⟨u2, hu2⟩ : ∃ u2, b - (k + 1) = u2 := ⟨_, rfl⟩
              have r1 : (b : Int) - ((k : Int) + 1) = (u2 : Int) := by omega
              have r2 : IntKind.i64.wrap (u2 : Int) = (u2 : Int) := by rw [IntKind.wrap_i64]; omega
              by_cases h2 : 2 ≤ u2
              · have h2z : decide ((u2 : Int) ≥ 2) = true := decide_eq_true (by omega)
                go_wp2_with fail
                go_loopg [12] b (fun gk s wr => ∃ (j : Nat) (dj : Array Ent), s = .int .i64 j ∧ k + 1 < j ∧ j ≤ b ∧ b - j ≤ gk ∧ Hid (dj.size = n ∧ Srt w0 rb cap dj wr ∧ shiftUp (lo cf) b j dj = shiftUp (lo cf) b (k + 1 + 1) (swp dk (k + 1) k)))
                case atStart => exact ⟨(k + 1 + 1), (swp dk (k + 1) k), by first | rfl | go_num, by omega, by omega, by omega, H1.out.1, H1.out.2, rfl⟩
                case round =>
                  rename World => Wj
                  obtain ⟨j, dj, rfl, hj1, hj2, hj3, HJ⟩ := hrel
                  by_cases hj : j < b
                  · obtain ⟨m, rfl⟩ : ∃ m, j = m + 1 := ⟨j - 1, by omega⟩
                    have hjz : decide ((m : Int) + 1 < (b : Int)) = true := decide_eq_true (by omega)
                    have HNj : Hid (dj.size = n) := HJ.out.1
                    have HSj : Hid (Srt w0 rb cap dj Wj) := HJ.out.2.1
                    have q1 : (m : Int) + 1 < (n : Int) := by omega
                    have q2 : (m : Int) < (n : Int) := by omega
                    have q3 : (0 : Int) ≤ (m : Int) + 1 := by omega
                    have q4 : ((m : Int) + 1).toNat = m + 1 := by omega
                    have q5 : IntKind.i64.wrap ((m : Int) + 1 - 1) = (m : Int) := by rw [IntKind.wrap_i64]; omega
                    have q6 : IntKind.i64.wrap (m : Int) = (m : Int) := by rw [IntKind.wrap_i64]; omega
                    have q7 : IntKind.i64.wrap ((m : Int) + 1 + 1) = (m : Int) + 1 + 1 := by rw [IntKind.wrap_i64]; omega
                    obtain ⟨c1, c2, c2b, c3, c4, c4b, c5⟩ := HSj.out.ask HC.out (i := m + 1) (j := m) (by rw [HNj.out]; omega) (by rw [HNj.out]; omega)
                    obtain ⟨z, hz'⟩ : ∃ z, cf dj[m + 1]! dj[m]! = z := ⟨_, rfl⟩
                    have HZ := Lib.hid hz'
                    rw [hz'] at c5
                    clear hz'
                    generalize (dj[m + 1]!).1 = x1 at c1 c5
                    generalize (dj[m + 1]!).2.1 = x2 at c2 c5
                    generalize (dj[m + 1]!).2.2 = x2b at c2b c5
                    generalize (dj[m]!).1 = x3 at c3 c5
                    generalize (dj[m]!).2.1 = x4 at c4 c5
                    generalize (dj[m]!).2.2 = x4b at c4b c5
                    by_cases hz : z < 0
                    · have hd : decide (z < 0) = true := decide_eq_true hz
                      go_wp2_with fail
                      go_quiet_grown (first | (go_at_fn g; refine Calls.grown_of (c5 _ _).out))
                      obtain ⟨W3, hW3⟩ : ∃ W3, grow (Wj.drewN nq) osq = W3 := ⟨_, rfl⟩
                      have HG : Hid (Srt w0 rb cap dj W3) := by rw [← hW3]; exact HSj.out.grew (grewN _ _ _)
                      rw [hW3]
                      clear hW3 c1 c2 c2b c3 c4 c4b c5
                      have HN := HNj
                      have ki : m + 1 < dj.size := by rw [HN.out]; omega
                      have kj : m < dj.size := by rw [HN.out]; omega
                      have e1 := HG.out.c0 ki
                      have e2 := HG.out.c1 ki
                      have e2b := HG.out.c2 ki
                      have e3 := HG.out.c0 kj
                      have e4 := HG.out.c1 kj
                      have e4b := HG.out.c2 kj
                      have fz := (HG.out).row.thaw
                      have HX := Lib.hid ((HG.out).swap ki kj)
                      obtain ⟨⟨v1, e5⟩, ⟨v2, e6⟩, v3, e7⟩ := (HG.out).exch ki kj (dj[m]!).1 (dj[m]!).2.1 (dj[m]!).2.2
                      have nn1 : ¬ (m + 1) * 3 = (m) * 3 + 1 := by omega
                      have nn2 : ¬ (m) * 3 = (m + 1) * 3 + 1 := by omega
                      have nn3 : ¬ (m + 1) * 3 = (m) * 3 + 2 := by omega
                      have nn4 : ¬ (m) * 3 = (m + 1) * 3 + 2 := by omega
                      have nn5 : ¬ (m + 1) * 3 + 1 = (m) * 3 := by omega
                      have nn6 : ¬ (m) * 3 + 1 = (m + 1) * 3 := by omega
                      have nn7 : ¬ (m + 1) * 3 + 1 = (m) * 3 + 2 := by omega
                      have nn8 : ¬ (m) * 3 + 1 = (m + 1) * 3 + 2 := by omega
                      have nn9 : ¬ (m + 1) * 3 + 2 = (m) * 3 := by omega
                      have nn10 : ¬ (m) * 3 + 2 = (m + 1) * 3 := by omega
                      have nn11 : ¬ (m + 1) * 3 + 2 = (m) * 3 + 1 := by omega
                      have nn12 : ¬ (m) * 3 + 2 = (m + 1) * 3 + 1 := by omega
                      generalize (dj[m]!).1 = x1 at e1 e2 e2b e3 e4 e4b e5 e6 e7 HX
                      generalize (dj[m]!).2.1 = x2 at e1 e2 e2b e3 e4 e4b e5 e6 e7 HX
                      generalize (dj[m]!).2.2 = x2b at e1 e2 e2b e3 e4 e4b e5 e6 e7 HX
                      generalize (dj[m + 1]!).1 = x3 at e1 e2 e2b e3 e4 e4b e5 e6 e7 HX
                      generalize (dj[m + 1]!).2.1 = x4 at e1 e2 e2b e3 e4 e4b e5 e6 e7 HX
                      generalize (dj[m + 1]!).2.2 = x4b at e1 e2 e2b e3 e4 e4b e5 e6 e7 HX
                      go_wp2_with fail
                      go_region
                      clear e1 e2 e2b e3 e4 e4b e5 e6 e7 fz
                      go_wp2_with fail
                      go_roundg (b - (m + 1 + 1))
                      case measure => omega
                      case rel => exact ⟨m + 1 + 1, swp dj (m + 1) m, by first | rfl | go_num, by omega, by omega, Nat.le_refl _, (show Hid _ from ⟨by rw [size_swp]; exact HNj.out, HX.out, by rw [← HJ.out.2.2]; exact (shift_up_go _ _ _ (by omega) (by show decide (cf dj[m + 1]! dj[m]! < 0) = true; rw [HZ.out]; exact hd)).symm⟩)⟩
                    · have hd : decide (z < 0) = false := decide_eq_false hz
                      have ee : dj = shiftUp (lo cf) b (k + 1 + 1) (swp dk (k + 1) k) := (shift_up_stop _ _ _ (by show decide (cf dj[m + 1]! dj[m]! < 0) = false; rw [HZ.out]; exact hd)).symm.trans HJ.out.2.2
                      go_wp2_with fail
                      go_quiet_grown (first | (go_at_fn g; refine Calls.grown_of (c5 _ _).out))
                      have H3 : Hid ((shiftUp (lo cf) b (k + 1 + 1) (swp dk (k + 1) k)).size = n ∧ Srt w0 rb cap (shiftUp (lo cf) b (k + 1 + 1) (swp dk (k + 1) k)) (grow (Wj.drewN nq) osq)) := ⟨by rw [← ee]; exact HNj.out, by rw [← ee]; exact HSj.out.grew (grewN _ _ _)⟩
                      clear ee
                      go_wp2_with fail
                      go_roundg s
                      case measure => omega
                      case rel =>
                        refine ⟨k + 1, t + 1, shiftUp (lo cf) b (k + 1 + 1) (swp dk (k + 1) k), by first | rfl | go_num, by first | rfl | go_num, by omega, by omega, by omega, by omega, (show Hid _ from ⟨H3.out.1, H3.out.2, ?_⟩)⟩
                        rw [← HQ.out, show 5 - t = s + 1 by omega, show 5 - (t + 1) = s by omega]
                        exact (pi_go a b s i dk (k + 1) HU.out.2 (by omega) (by omega) (swp dk (k + 1) k) (shiftUp (lo cf) b (k + 1 + 1) (swp dk (k + 1) k)) (by rw [if_neg (by omega)]; rfl) (by rw [if_pos (by omega)])).symm
                  · skip
                    have hjz : decide ((j : Int) < (b : Int)) = false := decide_eq_false (by omega)
                    have ee : dj = shiftUp (lo cf) b (k + 1 + 1) (swp dk (k + 1) k) := (shift_up_end _ _ _ hj).symm.trans HJ.out.2.2
                    have H3 : Hid ((shiftUp (lo cf) b (k + 1 + 1) (swp dk (k + 1) k)).size = n ∧ Srt w0 rb cap (shiftUp (lo cf) b (k + 1 + 1) (swp dk (k + 1) k)) Wj) := ⟨by rw [← ee]; exact HJ.out.1, by rw [← ee]; exact HJ.out.2.1⟩
                    clear ee
                    go_wp2_with fail
                    go_roundg s
                    case measure => omega
                    case rel =>
                      refine ⟨k + 1, t + 1, shiftUp (lo cf) b (k + 1 + 1) (swp dk (k + 1) k), by first | rfl | go_num, by first | rfl | go_num, by omega, by omega, by omega, by omega, (show Hid _ from ⟨H3.out.1, H3.out.2, ?_⟩)⟩
                      rw [← HQ.out, show 5 - t = s + 1 by omega, show 5 - (t + 1) = s by omega]
                      exact (pi_go a b s i dk (k + 1) HU.out.2 (by omega) (by omega) (swp dk (k + 1) k) (shiftUp (lo cf) b (k + 1 + 1) (swp dk (k + 1) k)) (by rw [if_neg (by omega)]; rfl) (by rw [if_pos (by omega)])).symm
              · have h2z : decide ((u2 : Int) ≥ 2) = false := decide_eq_false (by omega)
                go_wp2_with fail
                go_roundg s
                case measure => omega
                case rel =>
                  refine ⟨k + 1, t + 1, swp dk (k + 1) k, by first | rfl | go_num, by first | rfl | go_num, by omega, by omega, by omega, by omega, (show Hid _ from ⟨H1.out.1, H1.out.2, ?_⟩)⟩
                  rw [← HQ.out, show 5 - t = s + 1 by omega, show 5 - (t + 1) = s by omega]
                  exact (pi_go a b s i dk (k + 1) HU.out.2 (by omega) (by omega) (swp dk (k + 1) k) (swp dk (k + 1) k) (by rw [if_neg (by omega)]; rfl) (by rw [if_neg (by omega)])).symm
    · obtain rfl : t = 5 := by omega
      have htz : decide (((5 : Nat) : Int) < 5) = false := by decide
      go_wp2_with fail
      go_ret
      rw [← HQ.out]
      exact ⟨rfl, HK.out⟩
end Go.Proofs.Ytcipilggddpnpaa.K
