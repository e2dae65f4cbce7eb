/-
  A meter's All, where no time is wrong: what is charged of all of them, as of their sum.
-/
import Derived.Test.YthncchngphlcfaaWalkG2
import Derived.Test.YthncchngphlcfaaIsRow
import Derived.Deep.LoopGhost
import Derived.Deep.Cut
namespace Go.Proofs.Ythncchngphlcfaa
open Go.RowKit
set_option linter.unusedVariables false
set_option linter.unusedSimpArgs false

/-- The sum of the first ones. -/
def tot (zs : List Int) (k : Nat) : Int := (zs.take k).sum
theorem tot_zero (zs : List Int) : tot zs 0 = 0 := rfl
theorem tot_succ {zs : List Int} {k : Nat} (h : k < zs.length) : tot zs (k + 1) = tot zs k + zs.getD k 0 := by
  unfold tot
  rw [List.take_succ_eq_append_getElem h, List.sum_append, List.getD_eq_getElem?_getD, List.getElem?_eq_getElem h]
  simp
theorem tot_bound {zs : List Int} (hz : ∀ z ∈ zs, 0 ≤ z ∧ z ≤ 1000000) : ∀ k, k ≤ zs.length → 0 ≤ tot zs k ∧ tot zs k ≤ 1000000 * k
  | 0, _ => by rw [tot_zero]; omega
  | k + 1, h => by
    have := tot_bound hz k (by omega)
    have hm := hz (zs.getD k 0) (by rw [List.getD_eq_getElem?_getD, List.getElem?_eq_getElem (by omega)]; exact List.getElem_mem _)
    rw [tot_succ (by omega)]
    omega

/-- What is charged of one time more. -/
theorem part_step {P Q r : Int} : (P + r) / 1048576 + (Q + (P + r) % 1048576) / 1048576 = (P + Q + r) / 1048576 ∧ (Q + (P + r) % 1048576) % 1048576 = (P + Q + r) % 1048576 := by omega
def qN (zs : List Int) (r x : Int) (k : Nat) : Int := (tot zs k * x + r) / 1048576
def qR (zs : List Int) (r x : Int) (k : Nat) : Int := (tot zs k * x + r) % 1048576
theorem q_zero (zs : List Int) {r x : Int} (r0 : 0 ≤ r) (r1 : r < 1048576) : qN zs r x 0 = 0 ∧ qR zs r x 0 = r := by
  unfold qN qR
  rw [tot_zero, Int.zero_mul]
  omega
theorem q_step {zs : List Int} {r x : Int} {k : Nat} (h : k < zs.length) :
    qN zs r x k + (zs.getD k 0 * x + qR zs r x k) / 1048576 = qN zs r x (k + 1) ∧ (zs.getD k 0 * x + qR zs r x k) % 1048576 = qR zs r x (k + 1) := by
  unfold qN qR
  rw [tot_succ h, Int.add_mul]
  exact part_step
theorem q_bound {zs : List Int} {r x : Int} (hz : ∀ z ∈ zs, 0 ≤ z ∧ z ≤ 1000000) (hl : zs.length ≤ 40) (r0 : 0 ≤ r) (r1 : r < 1048576) (x0 : 0 ≤ x) (x1 : x ≤ 1048576) {k : Nat} (hk : k ≤ zs.length) :
    (0 ≤ qN zs r x k ∧ qN zs r x k ≤ 40000001) ∧ 0 ≤ qR zs r x k ∧ qR zs r x k < 1048576 := by
  obtain ⟨t0, t1⟩ := tot_bound hz k hk
  have m0 : 0 ≤ tot zs k * x := Int.mul_nonneg t0 x0
  have m1 : tot zs k * x ≤ 40000000 * 1048576 := Int.mul_le_mul (by omega) x1 x0 (by omega)
  unfold qN qR
  omega

theorem below_drew {B : Nat} {w W : World} (h : Below B w W) : Below B w W.drew := ⟨h.os, h.tape, h.output, h.size, h.block⟩
theorem Two1.drew {w W : World} {T T' : TypeId} {a x : Int} (h : Two1 w W T T' a x) : Two1 w W.drew T T' a x := ⟨below_drew h.1, h.2.1, h.2.2⟩
theorem Two1.set {w W : World} {T T' : TypeId} {a x : Int} (h : Two1 w W T T' a x) (a' : Int) : Two1 w (W.setCell ⟨w.heap.size, 0, none⟩ (.int .i64 a')) T T' a' x :=
  ⟨h.1.setCell (Nat.le_refl _) _, h.2.1.set a', h.2.2.far (by omega) _ _⟩
/-- num.Sum of two numbers in a block, where it fits. -/
theorem gsum2 (s n : Int) (s0 : 0 ≤ s) (s1 : s ≤ 1099511627776) (n0 : 0 ≤ n) (n1 : n ≤ 1099511627776) (g cap : Nat) (W : World) (hW : g < W.heap.size ∧ W.cell? ⟨g, 0, none⟩ = some (.int .i64 s) ∧ W.cell? ⟨g, 1, none⟩ = some (.int .i64 n)) :
    Calls Try.prog 27 #[.slice (some ⟨g, 0, none⟩) 2 cap] W fun e w' => e = .returned (.tuple #[.int .i64 (s + n), .int .i64 0]) ∧ W = w' := by
  have k := sum_any (some ⟨g, 0, none⟩) [s, n] cap W (.inr ⟨g, 0, rfl, hW.1, fun i hi => by
    match i, hi with
    | 0, _ => exact hW.2.1
    | 1, _ => exact hW.2.2⟩) (fun z hz => by
      simp at hz
      rcases hz with rfl | rfl
      · exact ⟨by omega, by omega⟩
      · exact ⟨by omega, by omega⟩) (by simp)
  have e : sumR 0 [s, n] = (s + n, 0) := by
    show (if -9223372036854775808 ≤ (0 : Int) + s ∧ (0 : Int) + s ≤ 9223372036854775807 then (if -9223372036854775808 ≤ (0 : Int) + s + n ∧ (0 : Int) + s + n ≤ 9223372036854775807 then ((0 : Int) + s + n, (0 : Int)) else (0, 11)) else (0, 11)) = _
    rw [if_pos (by omega), if_pos (by omega), Int.zero_add]
  rw [e] at k
  exact k

set_option maxHeartbeats 2000000 in
set_option maxRecDepth 20000 in
theorem gall_ok (r x : Int) (zs : List Int) (a : Option Addr) (cap : Nat) (w : World) (hr : RowI w a zs) (hz : ∀ z ∈ zs, 0 ≤ z ∧ z ≤ 1000000) (hl : zs.length ≤ 40) (r0 : 0 ≤ r) (r1 : r < 1048576) (x0 : 0 ≤ x) (x1 : x ≤ 1048576) :
    Calls Try.prog 19 #[.agg #[.int .i64 r], .int .i64 x, .slice a zs.length cap] w fun e w' => e = .returned (.tuple #[.int .i64 (qN zs r x zs.length), .agg #[.int .i64 (qR zs r x zs.length)], .int .i64 0]) ∧ Below w.heap.size w w' := by
  have hmf : ∀ (fn : Fn) (first cap : Array Value) (w : World), (Instr.makeFunc fn first cap).run Try.prog w = .ok (.func fn first cap) w := fun _ _ _ _ => rfl
  have c1 := fun W => gmet_any r W
  rw [metE_ok r0 r1] at c1
  have C1 := Lib.hid c1
  have S0 := Lib.hid (Two1.start w 34 34 r 0)
  have HY : Hid (RowI w a zs ∧ (∀ z ∈ zs, 0 ≤ z ∧ z ≤ 1000000) ∧ (0 ≤ r ∧ r < 1048576) ∧ 0 ≤ x ∧ x ≤ 1048576) := ⟨hr, hz, ⟨r0, r1⟩, x0, x1⟩
  obtain ⟨n, hn⟩ : ∃ n, zs.length = n := ⟨_, rfl⟩
  have HN := Lib.hid hn
  rw [hn] at hl ⊢
  have HQ := Lib.hid (q_zero zs (x := x) r0 r1)
  clear hr hz hn r0 r1 x0 x1 c1
  go_enter Try.func19, Try.ntmps19
  go_wp2_with fail
  refine (C1.out _).mono ?_
  rintro e w1 ⟨rfl, b1⟩
  have S1 := Lib.hid (S0.out.next b1)
  have p0 := S1.out.2.1.cell
  go_wp2
  go_loopg [10, 11, 12, 28] n (fun gk s10 s11 s12 s28 wr => ∃ k : Nat, s10 = .int .i64 (qN zs r x k) ∧ s11 = .int .i64 0 ∧ s12 = .func (.func 15) #[.agg #[.int .i64 (qR zs r x k)]] #[] ∧ s28 = .int .i64 k ∧ k ≤ n ∧ n - k ≤ gk ∧ Hid (Two1 w wr 34 34 (qR zs r x k) 0))
  case atStart =>
    refine ⟨0, ?_, rfl, ?_, rfl, Nat.zero_le _, Nat.le_refl _, ?_⟩
    · rw [HQ.out.1]
    · rw [HQ.out.2]
    · rw [HQ.out.2]; exact S1
  case round =>
    obtain ⟨k, rfl, rfl, rfl, rfl, hk, hgk, HR⟩ := hrel
    rename World => W1
    have HB := Lib.hid (q_bound HY.out.2.1 (by rw [HN.out]; exact hl) HY.out.2.2.1.1 HY.out.2.2.1.2 HY.out.2.2.2.1 HY.out.2.2.2.2 (k := k) (by rw [HN.out]; exact hk))
    by_cases hlt : k < n
    · have hlt' : k < zs.length := by rw [HN.out]; exact hlt
      have d1 : decide ((k : Int) < (n : Int)) = true := decide_eq_true (by omega)
      have d2 : decide (k < n) = true := decide_eq_true hlt
      have d3 : (k : Int) < (n : Int) := by omega
      have HS := Lib.hid (q_step (zs := zs) (r := r) (x := x) hlt')
      have HB2 := Lib.hid (q_bound HY.out.2.1 (by rw [HN.out]; exact hl) HY.out.2.2.1.1 HY.out.2.2.1.2 HY.out.2.2.2.1 HY.out.2.2.2.2 (k := k + 1) (by rw [HN.out]; exact hlt))
      obtain ⟨g, o, rfl, hg, hc⟩ : ∃ g o, a = some ⟨g, o, none⟩ ∧ g < w.heap.size ∧ w.cell? ⟨g, o + k, none⟩ = some (.int .i64 (zs.getD k 0)) := by
        rcases HY.out.1 with h | ⟨g, o, ha, hg, hc⟩
        · rw [h] at hlt'; exact absurd hlt' (by simp)
        · exact ⟨g, o, ha, hg, hc k hlt'⟩
      have z01 := HY.out.2.1 (zs.getD k 0) (by rw [List.getD_eq_getElem?_getD, List.getElem?_eq_getElem hlt']; exact List.getElem_mem _)
      have c0 : W1.cell? ⟨g, o + k, none⟩ = some (.int .i64 (zs.getD k 0)) := (HR.out.1.cell (p := ⟨g, o + k, none⟩) hg).trans hc
      have CC := Lib.hid (chC_ok (r := qR zs r x k) (t := zs.getD k 0) (x := x) (chE_ok HB.out.2.1 HB.out.2.2 z01.1 (by omega) HY.out.2.2.2.1 HY.out.2.2.2.2)).out
      have hn0 : 0 ≤ (zs.getD k 0 * x + qR zs r x k) / 1048576 ∧ (zs.getD k 0 * x + qR zs r x k) / 1048576 ≤ 40000001 := by
        have := HS.out.1
        have := HB.out.1
        have := HB2.out.1
        have : 0 ≤ zs.getD k 0 * x + qR zs r x k := by have := Int.mul_nonneg z01.1 HY.out.2.2.2.1; have := HB.out.2.1; omega
        omega
      have CS := Lib.hid (fun g cap W => gsum2 (qN zs r x k) ((zs.getD k 0 * x + qR zs r x k) / 1048576) HB.out.1.1 (by have := HB.out.1.2; omega) hn0.1 (by omega) g cap W)
      rw [HS.out.1] at CS
      rw [HS.out.2] at CC
      clear hc hlt' hn0
      generalize zs.getD k 0 = z at *
      generalize (z * x + qR zs r x k) / 1048576 = m at *
      go_wp2_with fail
      refine (Hid.out CC _).mono ?_
      rintro e w2 ⟨rfl, b2⟩
      have S2 := Lib.hid (HR.out.next b2)
      have lt2 := S2.out.2.2.lt
      have B2 := Lib.hid (B1.start w2 34 (qR zs r x (k + 1)))
      go_wp2_with fail
      refine (CS.out _ _ _ ?hs).mono ?_
      case hs => exact ⟨by simp, by simp [go_sem], by simp [go_sem]⟩
      rintro e w3 ⟨rfl, rfl⟩
      go_wp2_with fail
      obtain ⟨W3, hW3⟩ : ∃ W3, (w2.alloc (.cells #[.int .i64 (qR zs r x (k + 1))] 34)).alloc (.cells #[.int .i64 (qN zs r x k), .int .i64 m] 3) = W3 := ⟨_, rfl⟩
      rw [hW3]
      have S3 : Hid (Two1 w W3 34 34 (qR zs r x k) 0) := by
        rw [← hW3]
        exact ⟨(S2.out.1.alloc S2.out.1.size _).alloc (by have := S2.out.1.size; simp; omega) _, (S2.out.2.1.alloc _).alloc _, (S2.out.2.2.alloc _).alloc _⟩
      have B3 : Hid (B1 W3 w2.heap.size 34 (qR zs r x (k + 1))) := by
        rw [← hW3]
        exact B2.out.alloc _
      have p3 := B3.out.cell
      have f3 := S3.out.2.1.thaw
      have p4 := S3.out.2.1.cell
      clear hW3 B2 CS CC c0
      go_region
      go_wp2
      go_roundg (n - (k + 1))
      case measure => omega
      exact ⟨k + 1, rfl, rfl, rfl, by go_num, by omega, by omega, (S3.out.set _).drew⟩
    · have hkn : k = n := by omega
      subst hkn
      have d1 : decide ((k : Int) < (k : Int)) = false := by simp
      have d2 : decide (k < k) = false := by simp
      have p1 := HR.out.2.1.cell
      have p2 := HR.out.2.2.cell
      have f2 := HR.out.2.2.thaw
      go_wp2
      go_region
      go_wp2
      exact bodyPost_ret (v := .tuple #[.int .i64 (qN zs r x k), .agg #[.int .i64 (qR zs r x k)], .int .i64 0]) (by simp [results, Try.results19, go_sem, p2]) rfl ⟨rfl, below_drew (HR.out.out _)⟩
end Go.Proofs.Ythncchngphlcfaa
