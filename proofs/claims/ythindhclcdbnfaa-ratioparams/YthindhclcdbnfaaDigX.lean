/-
  The walk of Times: the product of two numbers of 64 bits, as digits.
-/
import Derived.Test.YthindhclcdbnfaaDigM
import Derived.StillTailTactics
namespace Go.Proofs.Ythindhclcdbnfaa
open Go.RowKit
set_option linter.unusedVariables false

theorem make8 : ∀ w : World, (Instr.makeSlice 35 (.int .i64 8) (.int .i64 8)).run Try.prog w = .ok (.slice (some ⟨w.heap.size, 0, none⟩) 8 8) (w.alloc (.cells (cellsD (List.replicate 8 0)).toArray 3)) := fun _ => by kernel_rfl

/-- A number is added to one of the places. -/
theorem valD_set : ∀ (l : List Nat) (p u : Nat), p < l.length → valD (l.set p (l.getD p 0 + u)) = valD l + 65536 ^ p * u
  | [], _, _, h => absurd h (by simp)
  | d :: l, 0, u, _ => by simp [valD]; omega
  | d :: l, p + 1, u, h => by
    have e := valD_set l p u (by simpa using h)
    show d + 65536 * valD (l.set p (l.getD p 0 + u)) = d + 65536 * valD l + 65536 ^ (p + 1) * u
    rw [e, Nat.pow_succ, Nat.mul_add, Nat.mul_comm (65536 ^ p) 65536, Nat.mul_assoc]
    omega
theorem cellsD_set (l : List Nat) (p u : Nat) : (cellsD l).toArray.setIfInBounds p (.int .i64 ((u : Nat) : Int)) = (cellsD (l.set p u)).toArray := by
  unfold cellsD
  rw [List.setIfInBounds_toArray, List.map_set]
theorem getD_set_le (l : List Nat) (p u B : Nat) (hl : ∀ j, l.getD j 0 ≤ B) (hu : u ≤ B) (j : Nat) : (l.set p u).getD j 0 ≤ B := by
  rw [List.getD_eq_getElem?_getD, List.getElem?_set]
  split
  · split
    · exact hu
    · exact Nat.zero_le _
  · rw [← List.getD_eq_getElem?_getD]; exact hl j

theorem rowD_far {W : World} {g : Nat} {l : List Nat} {p : Addr} {v : Value} (h : RowD W g l) (hp : g ≠ p.block) : RowD (W.setCell p v) g l :=
  ⟨by have := h.1; simpa [World.setCell] using this, fun i hi => (World.cell?_setCell_far _ _ _ _ (Ne.symm hp)).trans (h.2 i hi)⟩

/-- The product so far: all of the digits ahead of i, and of digit i those ahead of k. -/
def partD (a b i k : Nat) : Nat := a % 65536 ^ i * b + 65536 ^ i * (a / 65536 ^ i % 65536) * (b % 65536 ^ k)
theorem mod_succ (a i : Nat) : a % 65536 ^ (i + 1) = a % 65536 ^ i + 65536 ^ i * (a / 65536 ^ i % 65536) := by
  rw [Nat.pow_succ, Nat.mod_mul]
theorem partD_step (a b i k : Nat) : partD a b i (k + 1) = partD a b i k + 65536 ^ (i + k) * (a / 65536 ^ i % 65536 * (b / 65536 ^ k % 65536)) := by
  unfold partD
  rw [mod_succ b k, Nat.mul_add, Nat.pow_add, ← Nat.add_assoc]
  congr 1
  rw [Nat.mul_mul_mul_comm]
theorem partD_next (a b i : Nat) (hb : b < 65536 ^ 4) : partD a b i 4 = partD a b (i + 1) 0 := by
  unfold partD
  rw [Nat.mod_eq_of_lt hb, Nat.pow_zero, Nat.mod_one, Nat.mul_zero, Nat.add_zero, mod_succ a i, Nat.add_mul]

/-- What holds of the places, behind i digits of the one and k of the other. -/
def TimRel (w : World) (g gx gy a b i k : Nat) (wr : World) : Prop :=
  ∃ l : List Nat, l.length = 8 ∧ wr.heap[g]? = some (.cells (cellsD l).toArray 3 (0, 0)) ∧ valD l = partD a b i k ∧ (∀ j, l.getD j 0 ≤ 131072 * (4 * i + k)) ∧ RowD wr gx (digs 4 a) ∧ RowD wr gy (digs 4 b) ∧ Below w.heap.size w wr

set_option maxHeartbeats 2000000 in
set_option maxRecDepth 20000 in
theorem times_dig (a b : Nat) (ha : a < 18446744073709551616) (hb : b < 18446744073709551616) (w : World) :
    Calls Try.prog 33 #[.int .u64 a, .int .u64 b] w (Makes w (a * b)) := by
  have hmk := make8
  have c1 := Lib.hid (fun W => digits_any a ha W)
  have c2 := Lib.hid (fun W => digits_any b hb W)
  go_enter Try.func33, Try.ntmps33
  go_wp2_with fail
  refine (c1.out _).mono ?_
  rintro e w1 ⟨g1, k1, rfl, o1, b1⟩
  have O1 := Lib.hid o1
  have B1 := Lib.hid b1
  clear o1 b1
  go_wp2_with fail
  refine (c2.out _).mono ?_
  rintro e w2 ⟨g2, k2, rfl, o2, b2⟩
  have R1 := Lib.hid ((rowD_of_own O1.out (digs_length 4 a)).next b2)
  have R2 := Lib.hid (rowD_of_own o2 (digs_length 4 b))
  have B2 : Hid (Below w.heap.size w w2) := B1.out.trans (b2.mono B1.out.size)
  have hs2 := B2.out.size
  have hg1 : g1 < w2.heap.size := R1.out.1
  have hg2 : g2 < w2.heap.size := R2.out.1
  clear o2 b2 O1 B1 c1 c2
  go_wp2_with fail
  go_loopw [8] (fun i wr => ∃ m : Nat, m ≤ 4 ∧ i = .int .i64 m ∧ TimRel w w2.heap.size g1 g2 a b m 0 wr) (fun i _ => 4 - (intOf i).toNat)
  case atStart =>
    refine ⟨0, by omega, rfl, List.replicate 8 0, rfl, heap_alloc_new w2 _, ?_, ?_, R1.out.next ((Below.refl _ _).alloc (Nat.le_refl _) _), R2.out.next ((Below.refl _ _).alloc (Nat.le_refl _) _), B2.out.alloc hs2 _⟩
    · simp [partD, valD, Nat.mod_one, List.replicate]
    · intro j
      rw [List.getD_eq_getElem?_getD, List.getElem?_replicate]
      split <;> simp
  case round =>
    obtain ⟨m, hm, rfl, HT⟩ := hrel
    have HT' := Lib.hid HT
    clear HT
    by_cases hlt : m < 4
    · have hdm : decide ((m : Int) < 4) = true := by simp; omega
      go_wp2_with fail
      go_loopw [9] (fun i wx => ∃ q : Nat, q ≤ 4 ∧ i = .int .i64 q ∧ TimRel w w2.heap.size g1 g2 a b m q wx) (fun i _ => 4 - (intOf i).toNat)
      case atStart => exact ⟨0, by omega, rfl, HT'.out⟩
      case round =>
        obtain ⟨q, hq, rfl, l, hl, hblk, hval, hbd, hr1, hr2, hbel⟩ := hrel
        by_cases hlq : q < 4
        · have h1 : wr.cell? ⟨g1, m, none⟩ = some (.int .i64 ((a / 65536 ^ m % 65536 : Nat) : Int)) := by
            have := hr1.2 m (by rw [digs_length]; exact hlt); rw [digs_at 4 a m hlt] at this; exact this
          have h2 : wr.cell? ⟨g2, q, none⟩ = some (.int .i64 ((b / 65536 ^ q % 65536 : Nat) : Int)) := by
            have := hr2.2 q (by rw [digs_length]; exact hlq); rw [digs_at 4 b q hlq] at this; exact this
          have hc : ∀ p, p < 8 → wr.cell? ⟨w2.heap.size, p, none⟩ = some (.int .i64 ((l.getD p 0 : Nat) : Int)) := fun p hp => by
            rw [Joins.cell_of_block hblk p, List.getElem?_toArray, cellsD_get l p (by omega)]
          have hf : ∀ p, wr.frozen? ⟨w2.heap.size, p, none⟩ = false := fun p => Joins.unfrozen_of_block hblk p
          have hx : a / 65536 ^ m % 65536 < 65536 := Nat.mod_lt _ (by decide)
          have hy : b / 65536 ^ q % 65536 < 65536 := Nat.mod_lt _ (by decide)
          have Hst := Lib.hid (partD_step a b m q)
          generalize a / 65536 ^ m % 65536 = X at *
          generalize b / 65536 ^ q % 65536 = Y at *
          obtain ⟨p, hp⟩ : ∃ p, m + q = p := ⟨_, rfl⟩
          rw [hp] at Hst
          have ep : (m : Int) + (q : Int) = (p : Int) := by omega
          have hp7 : p < 7 := by omega
          have hxy : X * Y ≤ 65535 * 65535 := Nat.mul_le_mul (by omega) (by omega)
          have em : IntKind.i64.wrap ((X : Int) * (Y : Int)) = ((X * Y : Nat) : Int) := by rw [← Int.natCast_mul]; exact IntWalk.i64_in _ (by omega)
          generalize X * Y = M at *
          have hcp := hc p (by omega)
          have hfp := hf p
          have hup := hbd p
          have hcp1 := hc (p + 1) (by omega)
          have hfp1 := hf (p + 1)
          have hup1 := hbd (p + 1)
          have ewp : IntKind.i64.wrap (p : Int) = (p : Int) := IntWalk.i64_in _ (by omega)
          have hp0 : (0 : Int) ≤ (p : Int) := by omega
          have hp8 : (p : Int) < 8 := by omega
          have hm0 : (0 : Int) ≤ (m : Int) := by omega
          have hm4 : (m : Int) < 4 := by omega
          have hq0 : (0 : Int) ≤ (q : Int) := by omega
          have hq4 : (q : Int) < 4 := by omega
          have Hl := Lib.hid hl
          have Hblk := Lib.hid hblk
          have Hval := Lib.hid hval
          have Hbd := Lib.hid hbd
          have Hr1 := Lib.hid hr1
          have Hr2 := Lib.hid hr2
          have Hbel := Lib.hid hbel
          have Hp := Lib.hid hp
          clear hl hblk hval hbd hr1 hr2 hbel hc hf hp
          obtain ⟨u, hu⟩ : ∃ u, l.getD p 0 = u := ⟨_, rfl⟩
          obtain ⟨v, hv⟩ : ∃ v, l.getD (p + 1) 0 = v := ⟨_, rfl⟩
          rw [hu] at hcp hup
          rw [hv] at hcp1 hup1
          obtain ⟨r, hr⟩ : ∃ r, M % 65536 = r := ⟨_, rfl⟩
          obtain ⟨d, hd⟩ : ∃ d, M / 65536 = d := ⟨_, rfl⟩
          obtain ⟨u2, hu2⟩ : ∃ u2, u + r = u2 := ⟨_, rfl⟩
          obtain ⟨v2, hv2⟩ : ∃ v2, v + d = v2 := ⟨_, rfl⟩
          obtain ⟨p1, hp1⟩ : ∃ p1, p + 1 = p1 := ⟨_, rfl⟩
          rw [hp1] at hcp1 hfp1 hv
          have et : (M : Int).tmod 65536 = (r : Int) := by rw [Int.tmod_eq_emod_of_nonneg (by omega)]; omega
          have et2 : (M : Int) % 65536 = (r : Int) := by omega
          have ed : (M : Int).tdiv 65536 = (d : Int) := by rw [Int.tdiv_eq_ediv_of_nonneg (by omega)]; omega
          have ed2 : (M : Int) / 65536 = (d : Int) := by omega
          have es : (u : Int) + (r : Int) = (u2 : Int) := by omega
          have es2 : (v : Int) + (d : Int) = (v2 : Int) := by omega
          have ews : IntKind.i64.wrap (u2 : Int) = (u2 : Int) := IntWalk.i64_in _ (by omega)
          have ews2 : IntKind.i64.wrap (v2 : Int) = (v2 : Int) := IntWalk.i64_in _ (by omega)
          have ewd : IntKind.i64.wrap (d : Int) = (d : Int) := IntWalk.i64_in _ (by omega)
          have ep1 : (p : Int) + 1 = (p1 : Int) := by omega
          have ewp1 : IntKind.i64.wrap (p1 : Int) = (p1 : Int) := IntWalk.i64_in _ (by omega)
          have hp10 : (0 : Int) ≤ (p1 : Int) := by omega
          have hp18 : (p1 : Int) < 8 := by omega
          have lr : r ≤ 65535 := by omega
          have ld : d ≤ 65535 := by omega
          have HT2 : Hid (∀ W1 : World, W1 = (wr.setCell ⟨w2.heap.size, p, none⟩ (.int .i64 (u2 : Int))).drew → (W1.cell? ⟨g1, m, none⟩ = some (.int .i64 (X : Int)) ∧ W1.cell? ⟨g2, q, none⟩ = some (.int .i64 (Y : Int)) ∧ W1.cell? ⟨w2.heap.size, p1, none⟩ = some (.int .i64 (v : Int)) ∧ W1.frozen? ⟨w2.heap.size, p1, none⟩ = false) ∧
              TimRel w w2.heap.size g1 g2 a b m (q + 1) (W1.setCell ⟨w2.heap.size, p1, none⟩ (.int .i64 (v2 : Int))).drew) := by
            rintro W1 rfl
            have q1 := Joins.block_setCell Hblk.out (i := p) (.int .i64 (u2 : Int))
            rw [cellsD_set] at q1
            refine ⟨⟨?_, ?_, ?_, ?_⟩, ?_⟩
            · exact (World.cell?_setCell_far _ _ _ _ (by show w2.heap.size ≠ g1; omega)).trans h1
            · exact (World.cell?_setCell_far _ _ _ _ (by show w2.heap.size ≠ g2; omega)).trans h2
            · show (wr.setCell ⟨w2.heap.size, p, none⟩ (.int .i64 (u2 : Int))).cell? ⟨w2.heap.size, p1, none⟩ = _
              rw [Joins.cell_of_block q1 p1, List.getElem?_toArray, cellsD_get _ p1 (by rw [List.length_set, Hl.out]; omega)]
              rw [List.getD_eq_getElem?_getD, List.getElem?_set_ne (by omega), ← List.getD_eq_getElem?_getD, hv]
            · exact Joins.unfrozen_of_block (w := wr.setCell ⟨w2.heap.size, p, none⟩ (.int .i64 (u2 : Int))) q1 p1
            · have q2 := Joins.block_setCell q1 (i := p1) (.int .i64 (v2 : Int))
              rw [cellsD_set] at q2
              refine ⟨(l.set p u2).set p1 v2, by rw [List.length_set, List.length_set]; exact Hl.out, q2, ?_, ?_, ?_, ?_, ?_⟩
              · have z1 : (l.set p u2).getD p1 0 = v := by rw [List.getD_eq_getElem?_getD, List.getElem?_set_ne (by omega), ← List.getD_eq_getElem?_getD, hv]
                have y1 := valD_set l p r (by rw [Hl.out]; omega)
                rw [hu, hu2] at y1
                have y2 := valD_set (l.set p u2) p1 d (by rw [List.length_set, Hl.out]; omega)
                rw [z1, hv2] at y2
                have y3 := Hst.out
                have y4 : 65536 ^ p1 * d = 65536 ^ p * (65536 * d) := by rw [← hp1, Nat.pow_succ, Nat.mul_assoc]
                have y5 : M = r + 65536 * d := by omega
                rw [y5, Nat.mul_add] at y3
                have y6 := Hval.out
                omega
              · intro j
                refine getD_set_le _ _ _ _ (getD_set_le _ _ _ _ (fun j => ?_) (by omega)) (by omega) j
                have := Hbd.out j
                omega
              · exact rowD_far (rowD_far Hr1.out (by show g1 ≠ w2.heap.size; omega)) (by show g1 ≠ w2.heap.size; omega)
              · exact rowD_far (rowD_far Hr2.out (by show g2 ≠ w2.heap.size; omega)) (by show g2 ≠ w2.heap.size; omega)
              · exact (((Hbel.out.setCell hs2 _).drew).setCell hs2 _).drew
          clear hu hv hr hd hu2 hv2 hp1 hup hup1 Hst Hl Hblk Hval Hbd Hr1 Hr2 Hbel Hp hxy
          go_wp2_with fail
          go_still_tail 22, (by kernel_rfl)
          change wpList _ _ _ _ _ wr.drew
          go_wp2_with fail
          obtain ⟨⟨f1, f2, f3, f4⟩, f5⟩ := HT2.out _ rfl
          have F5 := Lib.hid f5
          clear HT2 f5 h1 h2 hcp hfp hcp1 hfp1
          generalize (wr.setCell ⟨w2.heap.size, p, none⟩ (.int .i64 (u2 : Int))).drew = W1 at *
          go_still_tail 24, (by kernel_rfl)
          change wpList _ _ _ _ _ W1.drew
          go_wp2_with fail
          exact ⟨⟨q + 1, by omega, by go_num, F5.out⟩, by simp [intOf]; omega⟩
        · obtain rfl : q = 4 := by omega
          have HT2 : Hid (TimRel w w2.heap.size g1 g2 a b (m + 1) 0 wr) := ⟨l, hl, hblk, by rw [hval]; exact partD_next a b m (Nat.lt_of_lt_of_le hb (by decide)), fun j => by have := hbd j; omega, hr1, hr2, hbel⟩
          clear hl hblk hval hbd hr1 hr2 hbel
          go_wp2_with fail
          exact ⟨⟨m + 1, by omega, by go_num, HT2.out⟩, by simp [intOf]; omega⟩
    · obtain rfl : m = 4 := by omega
      obtain ⟨l, hl, hblk, hval, hbd, hr1, hr2, hbel⟩ := HT'.out
      have hg : w2.heap.size < wr.heap.size := by
        rcases Nat.lt_or_ge w2.heap.size wr.heap.size with h | h
        · exact h
        · rw [Array.getElem?_eq_none h] at hblk; cases hblk
      have hrow : RowD wr w2.heap.size l := ⟨hg, fun i hi => by rw [Joins.cell_of_block hblk i, List.getElem?_toArray, cellsD_get l i hi]⟩
      have c3 := Lib.hid (carried_any w2.heap.size 8 l wr hrow (fun j => by have := hbd j; omega) (by omega))
      have hv : valD l = a * b := by
        rw [hval]
        unfold partD
        rw [Nat.pow_zero, Nat.mod_one, Nat.mul_zero, Nat.add_zero, Nat.mod_eq_of_lt (Nat.lt_of_lt_of_le ha (by decide))]
      rw [hl, hv] at c3
      have HA : Hid (a * b < 65536 ^ 12) := by
        have : a * b ≤ 18446744073709551615 * 18446744073709551615 := Nat.mul_le_mul (by omega) (by omega)
        exact Nat.lt_of_le_of_lt this (by decide)
      have Hbel := Lib.hid hbel
      clear hl hblk hval hbd hr1 hr2 hbel hrow hv HT'
      go_wp2_with fail
      refine c3.out.mono ?_
      rintro e w4 ⟨rfl, r4, b4⟩
      go_wp2
      go_ret
      exact ⟨_, rfl, ⟨r4, HA.out⟩, Hbel.out.trans (b4.mono Hbel.out.size)⟩
end Go.Proofs.Ythindhclcdbnfaa
