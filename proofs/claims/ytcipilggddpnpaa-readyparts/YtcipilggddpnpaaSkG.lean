/-
  slices.SortFunc's family at entries of keys: breakPatterns.
-/
import Derived.Test.YtcipilggddpnpaaSkD
import Derived.Shelf.Lay
import Derived.Shelf.LaySoft
import Derived.Shelf.SlSortCmp.Xorshift
import Derived.Shelf.SlSortFuncK.BreakPatternsK
import Derived.Sort.Walk7
namespace Go.Proofs
open Go.RowKit Go.Sort Go.Shelf Go.Maps
shelf_lay SlLaysF0.n47 Slsf 47 at Try as Ytcipilggddpnpaa.K.lays47
shelf_lay SlLaysF0.n48 Slsf 48 at Try as Ytcipilggddpnpaa.K.lays48
end Go.Proofs
namespace Go.Proofs.Ytcipilggddpnpaa.K
open Go.RowKit Go.Sort Go.Shelf Go.Maps
set_option linter.unusedVariables false
set_option linter.unusedSimpArgs false

theorem pow2_any (L : Nat) (hL : L < 4611686018427387904) (w : World) : Calls Try.prog 101 #[.int .i64 L] w fun e w' => e = .returned (.int .u64 ((1 <<< bitsLen L : Nat) : Int)) ∧ w' = w := AnyF.nextPowerOfTwo lays47 L hL w
theorem next_any (c X : Nat) (hX : X < 18446744073709551616) (w : World) (hc : w.cell? ⟨c, 0, none⟩ = some (.int .u64 X)) (hf : w.frozen? ⟨c, 0, none⟩ = false) :
    Calls Try.prog 102 #[.pointer (some ⟨c, 0, none⟩)] w fun e w' => e = .returned (.int .u64 (xorNextN X : Nat)) ∧ w' = (w.setCell ⟨c, 0, none⟩ (.int .u64 (xorNextN X : Nat))).drewN 3 := AnyF.xorshift_Next lays48 c 0 X hX w hc hf

/-- A world of the sort's, with a drawn number in block c. -/
structure Rnd (w0 : World) (rb cap : Nat) (d : Array Ent) (c X : Nat) (W : World) : Prop where
  srt : Srt w0 rb cap d W
  new : w0.heap.size ≤ c
  ne : c ≠ rb
  cell : W.cell? ⟨c, 0, none⟩ = some (.int .u64 X)
  thaw : W.frozen? ⟨c, 0, none⟩ = false

theorem Rnd.next {w0 W : World} {rb cap : Nat} {d : Array Ent} {c X : Nat} (h : Rnd w0 rb cap d c X W) (Y : Nat) : Rnd w0 rb cap d c Y ((W.setCell ⟨c, 0, none⟩ (.int .u64 Y)).drewN 3) := by
  refine ⟨Srt.grew (W := W.setCell ⟨c, 0, none⟩ (.int .u64 Y)) ⟨h.srt.row.kept (Below.heap_setCell _ _ _ _ (by exact fun e => h.ne e.symm)), h.srt.kept.setCell (.inr h.new) _⟩ (grewD _ 3), h.new, h.ne, ?_, ?_⟩
  · rw [World.cell?_drewN]; exact World.cell?_setCell_same _ _ _ h.cell
  · rw [World.frozen?_drewN]; simpa using h.thaw

theorem Rnd.swap {w0 W : World} {rb cap : Nat} {d : Array Ent} {c X : Nat} (h : Rnd w0 rb cap d c X W) {i j : Nat} (hi : i < d.size) (hj : j < d.size) :
    Rnd w0 rb cap (swp d i j) c X (((((((W.setCell ⟨rb, i * 3, none⟩ (.int .i64 (d[j]!).1)).setCell ⟨rb, i * 3 + 1, none⟩ (.int .i64 (d[j]!).2.1)).setCell ⟨rb, i * 3 + 2, none⟩ (.int .i64 (d[j]!).2.2)).setCell ⟨rb, j * 3, none⟩ (.int .i64 (d[i]!).1)).setCell ⟨rb, j * 3 + 1, none⟩ (.int .i64 (d[i]!).2.1)).setCell ⟨rb, j * 3 + 2, none⟩ (.int .i64 (d[i]!).2.2)).drew) := by
  have hb : ∀ (w : World) (o : Nat) (v : Value), (w.setCell ⟨rb, o, none⟩ v).heap[c]? = w.heap[c]? := fun w o v => Below.heap_setCell _ _ _ _ (by exact h.ne)
  have hB : (((((((W.setCell ⟨rb, i * 3, none⟩ (.int .i64 (d[j]!).1)).setCell ⟨rb, i * 3 + 1, none⟩ (.int .i64 (d[j]!).2.1)).setCell ⟨rb, i * 3 + 2, none⟩ (.int .i64 (d[j]!).2.2)).setCell ⟨rb, j * 3, none⟩ (.int .i64 (d[i]!).1)).setCell ⟨rb, j * 3 + 1, none⟩ (.int .i64 (d[i]!).2.1)).setCell ⟨rb, j * 3 + 2, none⟩ (.int .i64 (d[i]!).2.2)).drew).heap[c]? = W.heap[c]? := by
    have hd : ∀ V : World, V.drew.heap[c]? = V.heap[c]? := fun V => rfl
    rw [hd, hb, hb, hb, hb, hb, hb]
  exact ⟨h.srt.swap hi hj, h.new, h.ne, (World.cell?_of_block (a := ⟨c, 0, none⟩) hB).trans h.cell, (World.frozen?_of_block (a := ⟨c, 0, none⟩) hB).trans h.thaw⟩

set_option maxHeartbeats 16000000 in
set_option maxRecDepth 100000 in
theorem break_any (g : Nat) (rc : Value) (rb cap : Nat) (w0 : World) (d : Array Ent) (n : Nat) (hn : d.size = n) (hsm : n ≤ 1099511627776) (a b : Nat) (hab : a + 12 < b) (hbn : b ≤ n) (w : World) (hS : Srt w0 rb cap d w) :
    Calls Try.prog 108 #[.slice (some ⟨rb, 0, none⟩) n cap, .int .i64 a, .int .i64 b, .func (.func g) #[rc] #[]] w fun e w' => e = .returned (.tuple #[]) ∧ Srt w0 rb cap (breakPatterns d a b) w' := by
  have mixed : Try.prog.follows .mixedOrders = true := by kernel_rfl
  obtain ⟨L, rfl⟩ : ∃ L, b = a + L := ⟨b - a, by omega⟩
  obtain ⟨q, hq⟩ : ∃ q, L / 4 = q := ⟨_, rfl⟩
  obtain ⟨x, hx⟩ : ∃ x, a + q * 2 - 1 = x := ⟨_, rfl⟩
  obtain ⟨y, hy⟩ : ∃ y, a + q * 2 + 1 = y := ⟨_, rfl⟩
  obtain ⟨M, hM⟩ : ∃ M : Nat, M = 1 <<< bitsLen L := ⟨_, rfl⟩
  have hM1 : 1 ≤ M := by rw [hM, Nat.one_shiftLeft]; exact Nat.two_pow_pos _
  have hM2 : M ≤ 2 * L := by rw [hM, Nat.one_shiftLeft]; exact two_pow_bitsLen_le (by omega)
  have NP : ∀ w, Hid (Calls Try.prog 101 #[.int .i64 (L : Int)] w fun e w' => e = .returned (.int .u64 (M : Int)) ∧ w' = w) := fun w => by rw [hM]; exact pow2_any L (by omega) w
  rw [breakPatterns_eq d a L (by omega), ← hM, hq, hx]
  clear hM
  have z0 : ((a + L : Nat) : Int) - (a : Int) = (L : Int) := by omega
  have z1 : (a : Int) + (L : Int) - (a : Int) = (L : Int) := by omega
  have z2 : IntKind.i64.wrap (L : Int) = (L : Int) := by rw [IntKind.wrap_i64]; omega
  have z3 : decide ((L : Int) ≥ 8) = true := decide_eq_true (by omega)
  have z4 : (L : Int).tdiv 4 = (q : Int) := by rw [Int.tdiv_eq_ediv_of_nonneg (by omega)]; omega
  have z5 : IntKind.i64.wrap (q : Int) = (q : Int) := by rw [IntKind.wrap_i64]; omega
  have z6 : IntKind.i64.wrap ((q : Int) * 2) = (q : Int) * 2 := by rw [IntKind.wrap_i64]; omega
  have z7 : IntKind.i64.wrap ((a : Int) + (q : Int) * 2) = (a : Int) + (q : Int) * 2 := by rw [IntKind.wrap_i64]; omega
  have z8 : IntKind.i64.wrap ((a : Int) + (q : Int) * 2 - 1) = (x : Int) := by rw [IntKind.wrap_i64]; omega
  have z9 : IntKind.i64.wrap ((a : Int) + (q : Int) * 2 + 1) = (y : Int) := by rw [IntKind.wrap_i64]; omega
  have z10 : IntKind.u64.wrap (L : Int) = (L : Int) := by rw [IntKind.wrap_u64]; omega
  have z11 : IntKind.u64.wrap ((M : Int) - 1) = (M : Int) - 1 := by rw [IntKind.wrap_u64]; omega
  have hrw := hS.row.lt
  have hk := hS.kept.size
  have HN := Lib.hid hn
  have H0 : Hid (Rnd w0 rb cap d w.heap.size L (w.alloc (.cells #[.int .u64 L] 129))) := ⟨hS.grew ((Grew.refl w).alloc _), hk, by omega, by simp, by simp⟩
  clear hS hn
  go_enter Try.func108, Try.ntmps108
  go_wp2_with (first | (go_at_call 101; (with_reducible refine (NP _).out.mono ?_); rintro e w' ⟨rfl, rfl⟩))
  go_loopg [11] 3 (fun gk s wr => ∃ (t i : Nat) (r : UInt64) (dk : Array Ent), s = .int .i64 i ∧ x + t = i ∧ t ≤ 3 ∧ 3 - t ≤ gk ∧ Hid (dk.size = n ∧ Rnd w0 rb cap dk w.heap.size r.toNat wr ∧ bpRest a L M x (3 - t) t (r, dk) = bpRest a L M x 3 0 (UInt64.ofNat L, d)))
  case atStart => exact ⟨0, x, UInt64.ofNat L, d, by first | rfl | go_num, rfl, by omega, Nat.le_refl _, HN.out, by rw [show (UInt64.ofNat L).toNat = L from by simp; omega]; exact H0.out, rfl⟩
  case round =>
    rename World => W1
    obtain ⟨t, i, r, dk, rfl, hi, ht, hgk, HR⟩ := hrel
    clear H0 HN
    by_cases ht3 : t < 3
    · have y1 : decide ((i : Int) ≤ (y : Int)) = true := decide_eq_true (by omega)
      have y2 : IntKind.i64.wrap ((i : Int) + 1) = (i : Int) + 1 := by rw [IntKind.wrap_i64]; omega
      obtain ⟨R0, hR0⟩ : ∃ R0 : Nat, R0 = r.toNat := ⟨_, rfl⟩
      have lR : R0 < 18446744073709551616 := by rw [hR0]; exact r.toNat_lt
      obtain ⟨R1, hR1⟩ : ∃ R1 : Nat, R1 = xorNextN R0 := ⟨_, rfl⟩
      have lR1 : R1 < 18446744073709551616 := by rw [hR1]; exact xorNextN_lt R0 lR
      obtain ⟨O, hO⟩ : ∃ O : Nat, O = R1 &&& (M - 1) := ⟨_, rfl⟩
      have lO : O ≤ M - 1 := by rw [hO]; exact Nat.and_le_right
      have y3 : bits .and .u64 (R1 : Int) ((M : Int) - 1) = (O : Int) := by
        rw [show ((M : Int) - 1) = ((M - 1 : Nat) : Int) by omega, bits_and_u64_nat _ _ lR1 (by omega), hO]
      have y4 : IntKind.u64.wrap (R1 : Int) = (R1 : Int) := by rw [IntKind.wrap_u64]; omega
      have y5 : IntKind.u64.wrap (O : Int) = (O : Int) := by rw [IntKind.wrap_u64]; omega
      have y6 : IntKind.i64.wrap (O : Int) = (O : Int) := by rw [IntKind.wrap_i64]; omega
      have HO : Hid (R1 = (xorNext r).toNat ∧ O = (xorNext r).toNat &&& (M - 1)) := by
        have e : R1 = (xorNext r).toNat := by rw [hR1, hR0, xorNext_toNat]
        exact ⟨e, by rw [hO, e]⟩
      have HT : Hid (Rnd w0 rb cap dk w.heap.size R1 ((W1.setCell ⟨w.heap.size, 0, none⟩ (.int .u64 (R1 : Nat))).drewN 3)) := HR.out.2.1.next R1
      have NX : Hid (Calls Try.prog 102 #[.pointer (some ⟨w.heap.size, 0, none⟩)] W1 fun e w' => e = .returned (.int .u64 (R1 : Int)) ∧ w' = (W1.setCell ⟨w.heap.size, 0, none⟩ (.int .u64 (R1 : Int))).drewN 3) := by
        rw [hR1]; exact next_any _ R0 lR W1 (by rw [hR0]; exact HR.out.2.1.cell) HR.out.2.1.thaw
      clear hR0 hR1 hO
      have HN : Hid (dk.size = n) := HR.out.1
      have HQ : Hid (bpRest a L M x (3 - t) t (r, dk) = bpRest a L M x 3 0 (UInt64.ofNat L, d)) := HR.out.2.2
      clear HR
      obtain ⟨W2, hW2⟩ : ∃ W2, W2 = (W1.setCell ⟨w.heap.size, 0, none⟩ (.int .u64 (R1 : Int))).drewN 3 := ⟨_, rfl⟩
      rw [← hW2] at HT NX
      clear hW2
      by_cases hLO : L ≤ O
      · have y7 : decide ((O : Int) ≥ (L : Int)) = true := decide_eq_true (by omega)
        obtain ⟨o, ho⟩ : ∃ o, O - L = o := ⟨_, rfl⟩
        have y8 : IntKind.i64.wrap ((O : Int) - (L : Int)) = (o : Int) := by rw [IntKind.wrap_i64]; omega
        obtain ⟨p, hp⟩ : ∃ p, a + o = p := ⟨_, rfl⟩
        have y9 : IntKind.i64.wrap ((a : Int) + (o : Int)) = (p : Int) := by rw [IntKind.wrap_i64]; omega
        have p1 : (i : Int) < (n : Int) := by omega
        have p2 : (p : Int) < (n : Int) := by omega
        go_wp2_with (first | (go_at_call 102; (with_reducible refine NX.out.mono ?_); rintro e w' ⟨rfl, rfl⟩))
        have ki : i < dk.size := by rw [HN.out]; omega
        have kj : p < dk.size := by rw [HN.out]; omega
        have e1 := HT.out.srt.c0 ki
        have e2 := HT.out.srt.c1 ki
        have e2b := HT.out.srt.c2 ki
        have e3 := HT.out.srt.c0 kj
        have e4 := HT.out.srt.c1 kj
        have e4b := HT.out.srt.c2 kj
        have fz := HT.out.srt.row.thaw
        have HX := Lib.hid (HT.out.swap ki kj)
        obtain ⟨⟨v1, e5⟩, ⟨v2, e6⟩, v3, e7⟩ := HT.out.srt.exch ki kj (dk[p]!).1 (dk[p]!).2.1 (dk[p]!).2.2
        have nn1 : ¬ i * 3 = p * 3 + 1 := by omega
        have nn2 : ¬ p * 3 = i * 3 + 1 := by omega
        have nn3 : ¬ i * 3 = p * 3 + 2 := by omega
        have nn4 : ¬ p * 3 = i * 3 + 2 := by omega
        have nn5 : ¬ i * 3 + 1 = p * 3 := by omega
        have nn6 : ¬ p * 3 + 1 = i * 3 := by omega
        have nn7 : ¬ i * 3 + 1 = p * 3 + 2 := by omega
        have nn8 : ¬ p * 3 + 1 = i * 3 + 2 := by omega
        have nn9 : ¬ i * 3 + 2 = p * 3 := by omega
        have nn10 : ¬ p * 3 + 2 = i * 3 := by omega
        have nn11 : ¬ i * 3 + 2 = p * 3 + 1 := by omega
        have nn12 : ¬ p * 3 + 2 = i * 3 + 1 := by omega
        generalize (dk[p]!).1 = x1 at e1 e2 e2b e3 e4 e4b e5 e6 e7 HX
        generalize (dk[p]!).2.1 = x2 at e1 e2 e2b e3 e4 e4b e5 e6 e7 HX
        generalize (dk[p]!).2.2 = x2b at e1 e2 e2b e3 e4 e4b e5 e6 e7 HX
        generalize (dk[i]!).1 = x3 at e1 e2 e2b e3 e4 e4b e5 e6 e7 HX
        generalize (dk[i]!).2.1 = x4 at e1 e2 e2b e3 e4 e4b e5 e6 e7 HX
        generalize (dk[i]!).2.2 = x4b at e1 e2 e2b e3 e4 e4b e5 e6 e7 HX
        go_wp2_with fail
        go_region
        clear e1 e2 e2b e3 e4 e4b e5 e6 e7 fz
        go_wp2_with fail
        go_roundg (3 - (t + 1))
        case measure => omega
        case rel =>
          refine ⟨t + 1, i + 1, xorNext r, swp dk i p, by first | rfl | go_num, by omega, by omega, Nat.le_refl _, (show Hid _ from ⟨by rw [size_swp]; exact HN.out, by rw [← HO.out.1]; exact HX.out, ?_⟩)⟩
          rw [← HQ.out, bp_step a L M x t r dk o ht3 (by rw [← HO.out.2, if_pos (by omega)]; exact ho), hi, hp]
      · have y7 : decide ((O : Int) ≥ (L : Int)) = false := decide_eq_false (by omega)
        obtain ⟨o, ho⟩ : ∃ o, O = o := ⟨_, rfl⟩
        obtain ⟨p, hp⟩ : ∃ p, a + o = p := ⟨_, rfl⟩
        have y9 : IntKind.i64.wrap ((a : Int) + (o : Int)) = (p : Int) := by rw [IntKind.wrap_i64]; omega
        have p1 : (i : Int) < (n : Int) := by omega
        have p2 : (p : Int) < (n : Int) := by omega
        have HO2 : Hid (O = o) := ho
        subst ho
        go_wp2_with (first | (go_at_call 102; (with_reducible refine NX.out.mono ?_); rintro e w' ⟨rfl, rfl⟩))
        have ki : i < dk.size := by rw [HN.out]; omega
        have kj : p < dk.size := by rw [HN.out]; omega
        have e1 := HT.out.srt.c0 ki
        have e2 := HT.out.srt.c1 ki
        have e2b := HT.out.srt.c2 ki
        have e3 := HT.out.srt.c0 kj
        have e4 := HT.out.srt.c1 kj
        have e4b := HT.out.srt.c2 kj
        have fz := HT.out.srt.row.thaw
        have HX := Lib.hid (HT.out.swap ki kj)
        obtain ⟨⟨v1, e5⟩, ⟨v2, e6⟩, v3, e7⟩ := HT.out.srt.exch ki kj (dk[p]!).1 (dk[p]!).2.1 (dk[p]!).2.2
        have nn1 : ¬ i * 3 = p * 3 + 1 := by omega
        have nn2 : ¬ p * 3 = i * 3 + 1 := by omega
        have nn3 : ¬ i * 3 = p * 3 + 2 := by omega
        have nn4 : ¬ p * 3 = i * 3 + 2 := by omega
        have nn5 : ¬ i * 3 + 1 = p * 3 := by omega
        have nn6 : ¬ p * 3 + 1 = i * 3 := by omega
        have nn7 : ¬ i * 3 + 1 = p * 3 + 2 := by omega
        have nn8 : ¬ p * 3 + 1 = i * 3 + 2 := by omega
        have nn9 : ¬ i * 3 + 2 = p * 3 := by omega
        have nn10 : ¬ p * 3 + 2 = i * 3 := by omega
        have nn11 : ¬ i * 3 + 2 = p * 3 + 1 := by omega
        have nn12 : ¬ p * 3 + 2 = i * 3 + 1 := by omega
        generalize (dk[p]!).1 = x1 at e1 e2 e2b e3 e4 e4b e5 e6 e7 HX
        generalize (dk[p]!).2.1 = x2 at e1 e2 e2b e3 e4 e4b e5 e6 e7 HX
        generalize (dk[p]!).2.2 = x2b at e1 e2 e2b e3 e4 e4b e5 e6 e7 HX
        generalize (dk[i]!).1 = x3 at e1 e2 e2b e3 e4 e4b e5 e6 e7 HX
        generalize (dk[i]!).2.1 = x4 at e1 e2 e2b e3 e4 e4b e5 e6 e7 HX
        generalize (dk[i]!).2.2 = x4b at e1 e2 e2b e3 e4 e4b e5 e6 e7 HX
        go_wp2_with fail
        go_region
        clear e1 e2 e2b e3 e4 e4b e5 e6 e7 fz
        go_wp2_with fail
        go_roundg (3 - (t + 1))
        case measure => omega
        case rel =>
          refine ⟨t + 1, i + 1, xorNext r, swp dk i p, by first | rfl | go_num, by omega, by omega, Nat.le_refl _, (show Hid _ from ⟨by rw [size_swp]; exact HN.out, by rw [← HO.out.1]; exact HX.out, ?_⟩)⟩
          rw [← HQ.out, bp_step a L M x t r dk O ht3 (by rw [← HO.out.2, if_neg (by omega)]), hi, hp]
    · obtain rfl : t = 3 := by omega
      have y1 : decide ((i : Int) ≤ (y : Int)) = false := decide_eq_false (by omega)
      go_wp2_with fail
      go_end0
      exact ⟨rfl, by rw [← HR.out.2.2]; exact HR.out.2.1.srt⟩
end Go.Proofs.Ytcipilggddpnpaa.K
