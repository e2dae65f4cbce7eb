/-
  The walk of GrubParts.
-/
import Derived.Test.YthncchngphlcfaaLawG3a
import Derived.Test.YthncchngphlcfaaRatW
import Derived.Test.YthncchngphlcfaaLxA
namespace Go.Proofs.Ythncchngphlcfaa
open Go.RowKit
set_option linter.unusedVariables false
set_option linter.unusedSimpArgs false

theorem Two1.alloc {w W : World} {T T' : TypeId} {a x : Int} (h : Two1 w W T T' a x) (o : Obj) : Two1 w (W.alloc o) T T' a x := h.next ((Below.refl _ _).alloc (Nat.le_refl _) _)
theorem Two1.far {w W : World} {T T' : TypeId} {a x : Int} (h : Two1 w W T T' a x) {b : Nat} (hb : w.heap.size ≤ b) (h1 : w.heap.size ≠ b) (h2 : w.heap.size + 1 ≠ b) (o : Nat) (v : Value) : Two1 w (W.setCell ⟨b, o, none⟩ v) T T' a x :=
  ⟨h.1.setCell hb _, h.2.1.far h1 _ _, h.2.2.far h2 _ _⟩
theorem tot_upto {zs : List Int} : ∀ k, k ≤ zs.length → (∀ j, j < k → 0 ≤ zs.getD j 0 ∧ zs.getD j 0 ≤ 1000000) → 0 ≤ tot zs k ∧ tot zs k ≤ 1000000 * k
  | 0, _, _ => by rw [tot_zero]; omega
  | k + 1, h, hz => by
    have := tot_upto k (by omega) (fun j hj => hz j (by omega))
    have hm := hz k (by omega)
    rw [tot_succ (by omega)]
    omega
theorem q_upto {zs : List Int} {r x : Int} {k : Nat} (hk : k ≤ zs.length) (hz : ∀ j, j < k → 0 ≤ zs.getD j 0 ∧ zs.getD j 0 ≤ 1000000) (hl : k ≤ 40) (r0 : 0 ≤ r) (r1 : r < 1048576) (x0 : 0 ≤ x) (x1 : x ≤ 1048576) :
    (0 ≤ qN zs r x k ∧ qN zs r x k ≤ 40000001) ∧ (0 ≤ qR zs r x k ∧ qR zs r x k < 1048576) ∧ 0 ≤ tot zs k ∧ tot zs k ≤ 40000000 := by
  obtain ⟨t0, t1⟩ := tot_upto k hk hz
  have m0 : 0 ≤ tot zs k * x := Int.mul_nonneg t0 x0
  have m1 : tot zs k * x ≤ 40000000 * 1048576 := Int.mul_le_mul (by omega) x1 x0 (by omega)
  unfold qN qR
  omega

set_option maxRecDepth 20000 in
theorem gparts_o0 (r x : Int) (a : Option Addr) (n cap : Nat) (h0 : decide (r < 0) = true) (cA : AwG) (w : World) :
    Calls Try.prog 5 #[.agg #[.int .i64 r], .slice a n cap, .int .i64 x] w fun E w' => E = .returned (.bool true) ∧ Below w.heap.size w w' := by
  have S0 := Lib.hid (Arr1.start w r 34)
  go_enter Try.func5, Try.ntmps5
  go_wp2_with fail
  refine (Hid.out cA _).mono ?_
  rintro e w1 ⟨rfl, b1⟩
  go_wp2
  go_ret
  exact ⟨rfl, (S0.out.next b1).2.1⟩

set_option maxRecDepth 20000 in
theorem gparts_o1 (r x : Int) (a : Option Addr) (n cap : Nat) (h0 : decide (r < 0) = false) (h1 : decide (1048575 < r) = true) (cA : AwG) (w : World) :
    Calls Try.prog 5 #[.agg #[.int .i64 r], .slice a n cap, .int .i64 x] w fun E w' => E = .returned (.bool true) ∧ Below w.heap.size w w' := by
  have S0 := Lib.hid (Arr1.start w r 34)
  go_enter Try.func5, Try.ntmps5
  go_wp2_with fail
  refine (Hid.out cA _).mono ?_
  rintro e w1 ⟨rfl, b1⟩
  go_wp2
  go_ret
  exact ⟨rfl, (S0.out.next b1).2.1⟩

set_option maxRecDepth 20000 in
theorem gparts_o2 (r x : Int) (a : Option Addr) (n cap : Nat) (h0 : decide (r < 0) = false) (h1 : decide (1048575 < r) = false) (h2 : decide (40 < (n : Int)) = true) (cA : AwG) (w : World) :
    Calls Try.prog 5 #[.agg #[.int .i64 r], .slice a n cap, .int .i64 x] w fun E w' => E = .returned (.bool true) ∧ Below w.heap.size w w' := by
  have S0 := Lib.hid (Arr1.start w r 34)
  have h2' : decide (40 < n) = true := decide_eq_true (by have := of_decide_eq_true h2; omega)
  go_enter Try.func5, Try.ntmps5
  go_wp2_with fail
  refine (Hid.out cA _).mono ?_
  rintro e w1 ⟨rfl, b1⟩
  go_wp2
  go_ret
  exact ⟨rfl, (S0.out.next b1).2.1⟩

set_option maxRecDepth 20000 in
theorem gparts_o3 (r x : Int) (a : Option Addr) (n cap : Nat) (h0 : decide (r < 0) = false) (h1 : decide (1048575 < r) = false) (h2 : decide (40 < (n : Int)) = false) (h3 : decide (x < 0) = true) (cA : AwG) (w : World) :
    Calls Try.prog 5 #[.agg #[.int .i64 r], .slice a n cap, .int .i64 x] w fun E w' => E = .returned (.bool true) ∧ Below w.heap.size w w' := by
  have S0 := Lib.hid (Arr1.start w r 34)
  have h2' : decide (40 < n) = false := decide_eq_false (by have := of_decide_eq_false h2; omega)
  go_enter Try.func5, Try.ntmps5
  go_wp2_with fail
  refine (Hid.out cA _).mono ?_
  rintro e w1 ⟨rfl, b1⟩
  go_wp2
  go_ret
  exact ⟨rfl, (S0.out.next b1).2.1⟩

set_option maxRecDepth 20000 in
theorem gparts_o4 (r x : Int) (a : Option Addr) (n cap : Nat) (h0 : decide (r < 0) = false) (h1 : decide (1048575 < r) = false) (h2 : decide (40 < (n : Int)) = false) (h3 : decide (x < 0) = false) (h4 : decide (1048576 < x) = true) (cA : AwG) (w : World) :
    Calls Try.prog 5 #[.agg #[.int .i64 r], .slice a n cap, .int .i64 x] w fun E w' => E = .returned (.bool true) ∧ Below w.heap.size w w' := by
  have S0 := Lib.hid (Arr1.start w r 34)
  have h2' : decide (40 < n) = false := decide_eq_false (by have := of_decide_eq_false h2; omega)
  go_enter Try.func5, Try.ntmps5
  go_wp2_with fail
  refine (Hid.out cA _).mono ?_
  rintro e w1 ⟨rfl, b1⟩
  go_wp2
  go_ret
  exact ⟨rfl, (S0.out.next b1).2.1⟩

set_option maxHeartbeats 4000000 in
set_option maxRecDepth 20000 in
theorem gparts_core (r x : Int) (zs : List Int) (a : Option Addr) (n cap : Nat) (w : World) (hn : zs.length = n) (hr : RowI w a zs) (hl : n ≤ 40) (r0 : 0 ≤ r) (r1 : r < 1048576) (x0 : 0 ≤ x) (x1 : x ≤ 1048576) (h0 : decide (r < 0) = false) (h1 : decide (1048575 < r) = false) (h2 : decide (40 < (n : Int)) = false) (h3 : decide (x < 0) = false) (h4 : decide (1048576 < x) = false) (cA : AwG) :
    Calls Try.prog 5 #[.agg #[.int .i64 r], .slice a n cap, .int .i64 x] w fun E w' => E = .returned (.bool true) ∧ Below w.heap.size w w' := by
  have h2' : decide (40 < n) = false := decide_eq_false (by have := of_decide_eq_false h2; omega)
  have HY : Hid (RowI w a zs ∧ (0 ≤ r ∧ r < 1048576) ∧ 0 ≤ x ∧ x ≤ 1048576) := ⟨hr, ⟨r0, r1⟩, x0, x1⟩
  have HN := Lib.hid hn
  have HQ := Lib.hid (q_zero zs (x := x) r0 r1)
  have S0 := Lib.hid (Two1.start w 34 34 r r)
  clear hr hn r0 r1 x0 x1
  go_enter Try.func5, Try.ntmps5
  go_wp2
  generalize hW0 : (w.alloc (.cells #[.int .i64 r] 34)).alloc (.cells #[.int .i64 r] 34) = W0 at *
  clear hW0
  go_loopg [7, 8, 10] n (fun gk s7 s8 s10 wr => ∃ k : Nat, s7 = .int .i64 (tot zs k) ∧ s8 = .int .i64 (qN zs r x k) ∧ s10 = .int .i64 k ∧ k ≤ n ∧ n - k ≤ gk ∧ Hid (Two1 w wr 34 34 r (qR zs r x k) ∧ ∀ j, j < k → 0 ≤ zs.getD j 0 ∧ zs.getD j 0 ≤ 1000000))
  case atStart =>
    refine ⟨0, rfl, ?_, rfl, Nat.zero_le _, Nat.le_refl _, ?_, fun j hj => absurd hj (Nat.not_lt_zero _)⟩
    · rw [HQ.out.1]
    · rw [HQ.out.2]; exact S0.out
  case round =>
    obtain ⟨k, rfl, rfl, rfl, hk, hgk, HR⟩ := hrel
    rename World => W1
    have HB := Lib.hid (q_upto (r := r) (x := x) (by rw [HN.out]; exact hk) HR.out.2 (by omega) HY.out.2.1.1 HY.out.2.1.2 HY.out.2.2.1 HY.out.2.2.2)
    by_cases hlt : k < n
    · have hlt' : k < zs.length := by rw [HN.out]; exact hlt
      have d1 : decide ((k : Int) < (n : Int)) = true := decide_eq_true (by omega)
      have d2 : decide (k < n) = true := decide_eq_true hlt
      have d3 : (k : Int) < (n : Int) := by omega
      obtain ⟨g, o, rfl, hg, hc⟩ : ∃ g o, a = some ⟨g, o, none⟩ ∧ g < w.heap.size ∧ w.cell? ⟨g, o + k, none⟩ = some (.int .i64 (zs.getD k 0)) := by
        rcases HY.out.1 with h | ⟨g, o, ha, hg, hc⟩
        · rw [h] at hlt'; exact absurd hlt' (by simp)
        · exact ⟨g, o, ha, hg, hc k hlt'⟩
      have c0 : W1.cell? ⟨g, o + k, none⟩ = some (.int .i64 (zs.getD k 0)) := (HR.out.1.1.cell (p := ⟨g, o + k, none⟩) hg).trans hc
      have HG : Hid (g < w.heap.size ∧ w.cell? ⟨g, o + k, none⟩ = some (.int .i64 (zs.getD k 0))) := ⟨hg, hc⟩
      obtain ⟨z, hz⟩ : ∃ z, zs.getD k 0 = z := ⟨_, rfl⟩
      have HZ := Lib.hid hz
      rw [hz] at c0 HG
      clear hz hc hg
      by_cases z0 : z < 0
      · have z0' : decide (z < 0) = true := decide_eq_true z0
        go_wp2_with fail
        refine (Hid.out cA _).mono ?_
        rintro e w2 ⟨rfl, b2⟩
        go_wp2
        go_ret
        exact ⟨rfl, (HR.out.1.next b2).1⟩
      have z0' : decide (z < 0) = false := decide_eq_false z0
      by_cases z1 : 1000000 < z
      · have z1' : decide (1000000 < z) = true := decide_eq_true z1
        go_wp2_with fail
        refine (Hid.out cA _).mono ?_
        rintro e w2 ⟨rfl, b2⟩
        go_wp2
        go_ret
        exact ⟨rfl, (HR.out.1.next b2).1⟩
      have z1' : decide (1000000 < z) = false := decide_eq_false z1
      have HT := Lib.hid (show ∀ j, j < k + 1 → 0 ≤ zs.getD j 0 ∧ zs.getD j 0 ≤ 1000000 from fun j hj => by
        by_cases h : j < k
        · exact HR.out.2 j h
        · obtain rfl : j = k := by omega
          rw [HZ.out]; omega)
      have HS := Lib.hid (q_step (zs := zs) (r := r) (x := x) hlt')
      have HU := Lib.hid (tot_succ hlt')
      have HB2 := Lib.hid (q_upto (r := r) (x := x) (k := k + 1) (by rw [HN.out]; exact hlt) HT.out (by omega) HY.out.2.1.1 HY.out.2.1.2 HY.out.2.2.1 HY.out.2.2.2)
      rw [HZ.out] at HS HU
      have CC : Hid _ := Lib.hid (fun W => gcharge_ok (qR zs r x k) z x (chE_ok HB.out.2.1.1 HB.out.2.1.2 (by omega) (by omega) HY.out.2.2.1 HY.out.2.2.2) W)
      rw [HS.out.2] at CC
      have hm : qN zs r x (k + 1) = qN zs r x k + (z * x + qR zs r x k) / 1048576 := HS.out.1.symm
      have hm0 : 0 ≤ (z * x + qR zs r x k) / 1048576 := Int.ediv_nonneg (by have := Int.mul_nonneg (show 0 ≤ z by omega) HY.out.2.2.1; have := HB.out.2.1.1; omega) (by decide)
      obtain ⟨hb1, hb2⟩ := HB2.out.1
      obtain ⟨hc1, hc2⟩ := HB.out.1
      obtain ⟨ht1, ht2⟩ := HB.out.2.2
      have hm2 := HU.out
      clear hlt'
      generalize (z * x + qR zs r x k) / 1048576 = m at *
      have m0' : decide (m < 0) = false := decide_eq_false (by omega)
      have HM := Lib.hid (And.intro hm hm2)
      have hmb : m ≤ 40000001 := by omega
      clear hm hm2 hb1 hb2
      have p1 := HR.out.1.2.2.cell
      go_wp2_with fail
      clear c0 p1
      refine region_alloc 11 13 9 12 82 [0, 1, 2, 3, 4, 5, 6, 7, 8, 9, 10, 12, 14] _ _ _ (.cells #[.int .i64 0] 34) [.int .i64 (qR zs r x (k + 1))] rfl rfl rfl (by kernel_rfl) mixedT ?hA ?hh
      case hA => exact fun Q a w K h => ⟨(fun f hf => by cases hf), h⟩
      apply Exists.intro
      refine ⟨fun V b hV => ?q, ?e, ?s, fun v1 v2 v3 h1 h2 h3 => ?t⟩
      case q =>
        have X1 := Lib.hid (HR.out.1.next hV)
        have f0 := fun q : LiesB V => (X1.out.next q.h).2.2.cell
        have f1 := fun q : LiesB V => ((X1.out.next q.h).1.cell (p := ⟨g, o + k, none⟩) HG.out.1).trans HG.out.2
        have CG : ∀ q : LiesB V, Hid _ := fun q => Lib.hid (lies_call CC.out q)
        haveI hin : Inhabited (LiesB V) := ⟨⟨V, Below.refl _ _⟩⟩
        simp only [List.filterMap_cons, List.filterMap_nil, List.getElem?_cons_succ, List.getElem?_cons_zero, ptrN]
        repeat (quiet_step (first | (go_at_call 15; (with_reducible exact (CG _).out))))
        exact wpQuiet_nil rfl
      case e => exact fun b => rfl
      case s =>
        intro Q' v1 a' v2 h1 h2 e1 e2 K hK
        have X7 := (B1.start v1 34 0).next h2
        have x0 := X7.cell
        have y0 := X7.thaw
        have e1' : a'.tmps[12]? = some (.pointer (some ⟨v1.heap.size, 0, none⟩)) := e1
        have e2' : a'.tmps[82]? = some (.agg #[.int .i64 (qR zs r x (k + 1))]) := e2
        refine ⟨(fun f hf => by cases hf), ?_⟩
        simp [Oper.semAt, execOp, Act.eval, e1', e2', go_sem, x0, y0]
        exact hK
      have ne1 : w.heap.size ≠ v1.heap.size := Nat.ne_of_lt (Nat.lt_of_lt_of_le (by have := HR.out.1.2.2.lt; omega) h1.size)
      have ne2 : w.heap.size + 1 ≠ v1.heap.size := Nat.ne_of_lt (Nat.lt_of_lt_of_le HR.out.1.2.2.lt h1.size)
      have X3 := Lib.hid (((((B1.start v1 34 0).next h2).set (qR zs r x (k + 1))).next h3))
      have S3 := Lib.hid (((((HR.out.1.next h1).alloc (.cells #[.int .i64 0] 34)).next h2).far (Nat.le_trans HR.out.1.1.size h1.size) ne1 ne2 0 (.int .i64 (qR zs r x (k + 1)))).next h3)
      clear h1 h2 h3 ne1 ne2
      have y0 := X3.out.cell
      have y1 := S3.out.2.2.cell
      have y2 := S3.out.2.2.thaw
      go_wp2
      go_roundg (n - (k + 1))
      case measure => omega
      refine ⟨k + 1, ?_, ?_, by go_num, by omega, by omega, ⟨S3.out.1.setCell (Nat.le_succ _) _, S3.out.2.1.far (by omega) _ _, S3.out.2.2.set _⟩, HT.out⟩
      · rw [HM.out.2]
      · rw [HM.out.1]
    · obtain rfl : k = n := by omega
      have d1 : decide ((k : Int) < (k : Int)) = false := by simp
      have d2 : decide (k < k) = false := by simp
      obtain ⟨⟨n0, n1⟩, ⟨s0, s1⟩, t0, t1⟩ := HB.out
      have x0 := HY.out.2.2.1
      have x1 := HY.out.2.2.2
      have C1 := Lib.hid (fun W => gcharge_ok r (tot zs k) x (chE_ok HY.out.2.1.1 HY.out.2.1.2 t0 (by omega) x0 x1) W)
      have C4 := Lib.hid (fun W => gcharge_ok 0 (tot zs k) x (chE_ok (by omega) (by omega) t0 (by omega) x0 x1) W)
      have C2 := Lib.hid (fun W (h : RowI W a zs) => gall_ok r x zs a cap W h (fun z hz => by
        obtain ⟨j, hj, rfl⟩ := List.getElem_of_mem hz
        have := HR.out.2 j (by rw [← HN.out]; exact hj)
        rw [List.getD_eq_getElem?_getD, List.getElem?_eq_getElem hj] at this
        exact this) (by rw [HN.out]; omega) HY.out.2.1.1 HY.out.2.1.2 x0 x1)
      rw [HN.out] at C2
      have pm0 : 0 ≤ tot zs k * x := Int.mul_nonneg t0 x0
      have pm1 : tot zs k * x ≤ tot zs k * 1048576 := Int.mul_le_mul_of_nonneg_left x1 t0
      have c3 := fun W => part_any x (tot zs k) false ⟨by omega, by omega⟩ ⟨by omega, by omega⟩ W
      have e3 : divR x (tot zs k) 1048576 false = ((tot zs k * x + 0) / 1048576, 0) := by
        obtain ⟨X, hX⟩ := Int.eq_ofNat_of_zero_le x0
        obtain ⟨T, hT⟩ := Int.eq_ofNat_of_zero_le t0
        rw [hX, hT] at pm0 pm1 ⊢
        have := divR_of X T 1048576 false (by omega)
        rw [divQ_down] at this
        have ep : (T : Int) * (X : Int) = ((X * T : Nat) : Int) := by rw [Nat.mul_comm, Int.natCast_mul]
        rw [ep] at pm0 pm1 ⊢
        rw [if_pos (by omega)] at this
        rw [show ((1048576 : Int)) = ((1048576 : Nat) : Int) from rfl, this, Int.add_zero]
        rfl
      rw [e3] at c3
      have C3 := Lib.hid c3
      have g1 : (tot zs k * x + 0) / 1048576 ≤ tot zs k := by omega
      have g2 : (tot zs k * x + 0) / 1048576 ≤ qN zs r x k := by unfold qN; have := HY.out.2.1.1; omega
      have g3 : qN zs r x k ≤ (tot zs k * x + 0) / 1048576 + 1 := by unfold qN; have := HY.out.2.1.2; omega
      have g0 : 0 ≤ (tot zs k * x + 0) / 1048576 := by omega
      have eqN : (tot zs k * x + r) / 1048576 = qN zs r x k := rfl
      have eqR : (tot zs k * x + r) % 1048576 = qR zs r x k := rfl
      rw [eqN, eqR] at C1
      have S1 := HR
      clear c3 e3 pm0 pm1 eqN eqR
      generalize qN zs r x k = N at *
      generalize qR zs r x k = R at *
      generalize (tot zs k * x + 0) / 1048576 = D at *
      generalize (tot zs k * x + 0) % 1048576 = D' at *
      generalize tot zs k = T at *
      have g1' : decide (D ≤ T) = true := decide_eq_true g1
      have g2' : decide (D ≤ N) = true := decide_eq_true g2
      have g3' : decide (N ≤ D + 1) = true := decide_eq_true g3
      have p0 := S1.out.1.2.1.cell
      go_wp2_with fail
      refine (C1.out _).mono ?_
      rintro e w2 ⟨rfl, b2⟩
      have S2 := Lib.hid ((S1.out.1.next b2).alloc (.cells #[.int .i64 R] 34))
      have X2 := Lib.hid (B1.start w2 34 R)
      have lt2 : w.heap.size < w2.heap.size := (S1.out.1.next b2).2.1.lt
      clear p0
      have p0 := (S1.out.1.next b2).2.1.cell
      go_wp2_with fail
      refine (C2.out _ ?hro).mono ?_
      case hro => exact HY.out.1.next (((S1.out.1.next b2).1.alloc (S1.out.1.next b2).1.size _))
      rintro e w3 ⟨rfl, b3⟩
      have S3 := Lib.hid ((S2.out.next b3).alloc (.cells #[.int .i64 R] 34))
      have X3 := Lib.hid ((X2.out.next b3).alloc (.cells #[.int .i64 R] 34))
      have Y3 := Lib.hid (B1.start w3 34 R)
      clear p0
      go_wp2_with fail
      refine (C3.out _).mono ?_
      rintro e w4 ⟨rfl, b4⟩
      have S4 := Lib.hid (S3.out.next b4)
      have X4 := Lib.hid (X3.out.next b4)
      have Y4 := Lib.hid (Y3.out.next b4)
      go_wp2_with fail
      refine (C4.out _).mono ?_
      rintro e w5 ⟨rfl, b5⟩
      have S5 := Lib.hid ((S4.out.next b5).alloc (.cells #[.int .i64 D'] 34))
      have l1 := (S4.out.next b5).2.2.lt
      have l2 := (X4.out.next b5).lt
      have l3 := (Y4.out.next b5).lt
      have q1 := (S4.out.next b5).2.2.cell
      have q2 := (X4.out.next b5).cell
      have q3 := (Y4.out.next b5).cell
      go_wp2_with fail
      refine (Hid.out cA _).mono ?_
      rintro e w6 ⟨rfl, b6⟩
      go_wp2
      go_ret
      exact ⟨rfl, (S5.out.next b6).1⟩

theorem walk_GrubParts (r : Int) (a : Option Addr) (len cap : Nat) (zs0 : List Int) (x : Int) (w : World) (hr : -9223372036854775808 ≤ r ∧ r ≤ 9223372036854775807) (hz : IsRow w a len cap zs0) (hx : -9223372036854775808 ≤ x ∧ x ≤ 9223372036854775807) :
    Calls Try.prog 5 #[.agg #[.int .i64 r], .slice a len cap, .int .i64 x] w fun E w' => E = .returned (.bool true) ∧ Below w.heap.size w w' := by
  obtain ⟨ys, hl, hrow, _, _⟩ := hz.row
  by_cases h0 : r < 0
  · exact gparts_o0 r x a len cap (decide_eq_true h0) awG w
  by_cases h1 : 1048575 < r
  · exact gparts_o1 r x a len cap (decide_eq_false h0) (decide_eq_true h1) awG w
  by_cases h2 : 40 < (len : Int)
  · exact gparts_o2 r x a len cap (decide_eq_false h0) (decide_eq_false h1) (decide_eq_true h2) awG w
  by_cases h3 : x < 0
  · exact gparts_o3 r x a len cap (decide_eq_false h0) (decide_eq_false h1) (decide_eq_false h2) (decide_eq_true h3) awG w
  by_cases h4 : 1048576 < x
  · exact gparts_o4 r x a len cap (decide_eq_false h0) (decide_eq_false h1) (decide_eq_false h2) (decide_eq_false h3) (decide_eq_true h4) awG w
  · exact gparts_core r x ys a len cap w hl hrow (by omega) (by omega) (by omega) (by omega) (by omega) (decide_eq_false h0) (decide_eq_false h1) (decide_eq_false h2) (decide_eq_false h3) (decide_eq_false h4) awG
end Go.Proofs.Ythncchngphlcfaa
