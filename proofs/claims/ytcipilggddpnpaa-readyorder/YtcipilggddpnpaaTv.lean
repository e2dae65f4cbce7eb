/-
  The reference's timers: Arm as one contract; Until and Due.
-/
import Derived.Test.YtcipilggddpnpaaTu
import Derived.Test.YtcipilggddpnpaaQu
import Derived.Test.YtcipilggddpnpaaLv
import Derived.Deep.LoopGhost
namespace Go.Proofs.Ytcipilggddpnpaa
open Go.RowKit Go.Shelf Go.Maps
set_option linter.unusedVariables false
set_option linter.unusedSimpArgs false

/-- What a slice of the reference's row holds. -/
def SliceOf (w : World) (v : Value) (n : Nat) (S : List Ent) : Prop := ∃ a cap, v = .slice a n cap ∧ n ≤ S.length ∧ ((a = none ∧ n = 0 ∧ cap = 0) ∨ ∃ g, a = some ⟨g, 0, none⟩ ∧ ∀ j u, (flatR S)[j]? = some u → w.cell? ⟨g, j, none⟩ = some u)

set_option maxHeartbeats 2000000 in
set_option maxRecDepth 20000 in
theorem runtil_any {B : Nat} {w : World} {rh : Nat} {S : List Ent} (h : RefIs B w rh S) (hl : S.length < 1099511627776) (t : Int) :
    Calls Try.prog 26 #[.pointer (some ⟨rh, 0, none⟩), .int .i64 t] w fun E w' => ∃ v, E = .returned v ∧ SliceOf w v (untilN t S) S ∧ w = w' := by
  obtain ⟨a, cap, h1, h2⟩ := h
  have hc : w.cell? ⟨rh, 0, none⟩ = some (.slice a S.length cap) := by simp [World.cell?, h1]
  have hN := untilN_le t S
  have LT := Lib.hid (untilN_lt t S)
  have AT := Lib.hid (untilN_at t S)
  have HR : Hid (S.length ≤ cap ∧ ∀ i, i < S.length → ∃ g, a = some ⟨g, 0, none⟩ ∧ w.cell? ⟨g, i * 2, none⟩ = some (.int .i64 (S.getD i (0, 0)).2)) := by
    refine ⟨?_, fun i hi => ?_⟩
    · rcases h2.2 with ⟨e, hn⟩ | ⟨g, c, cur, e, _, h3, h4, h5, h6, h7⟩
      · omega
      · simp only [Value.slice.injEq] at e
        omega
    · obtain ⟨a', cap', e, hh⟩ := RefIs.at (⟨a, cap, h1, h2⟩ : RefIs B w rh S)
      rw [hc] at e
      cases e
      obtain ⟨g, e, k1, _⟩ := hh i hi
      exact ⟨g, e, k1⟩
  have HS : Hid (∀ n, n ≤ S.length → SliceOf w (.slice a n cap) n S) := fun n hn => by
    refine ⟨a, cap, rfl, hn, ?_⟩
    rcases h2.2 with ⟨e, h0⟩ | ⟨g, c, cur, e, _, h3, h4, h5, h6, h7⟩
    · simp only [Value.slice.injEq] at e
      obtain ⟨rfl, _, rfl⟩ := e
      exact .inl ⟨rfl, by omega, rfl⟩
    · simp only [Value.slice.injEq] at e
      obtain ⟨rfl, _, rfl⟩ := e
      refine .inr ⟨g, rfl, fun j u hj => ?_⟩
      have hlt : j < S.length * 2 := by rw [← len_flatR]; exact (List.getElem?_eq_some_iff.1 hj).1
      have := h2.cellAt j (by omega)
      rw [this]; exact hj
  clear h1 h2
  obtain ⟨len, hlen⟩ : ∃ len, S.length = len := ⟨_, rfl⟩
  obtain ⟨N, hNN⟩ : ∃ N, untilN t S = N := ⟨_, rfl⟩
  rw [hNN] at hN LT AT ⊢
  rw [hlen] at hN AT HR HS hc hl
  clear hlen hNN
  go_enter Try.func26, Try.ntmps26
  go_wp2_with fail
  go_loopg [5] N (fun gk s5 wr => ∃ i : Nat, s5 = .int .i64 i ∧ i ≤ N ∧ N - i ≤ gk ∧ wr = w)
  case atStart => exact ⟨0, rfl, Nat.zero_le _, Nat.le_refl _, rfl⟩
  case round =>
    obtain ⟨i, rfl, hi, hgk, rfl⟩ := hrel
    by_cases hlen : i < len
    · have t1 : decide ((i : Int) < (len : Int)) = true := decide_eq_true (by omega)
      have t2 : decide (i < len) = true := decide_eq_true hlen
      have t3 : (i : Int) < (len : Int) := by omega
      obtain ⟨g, rfl, c1⟩ := HR.out.2 i hlen
      by_cases hiN : i < N
      · have h3 := LT.out i hiN
        generalize (S.getD i (0, 0)).2 = tm at *
        have t4 : decide (tm ≤ t) = true := decide_eq_true h3
        clear h3
        go_wp2
        go_roundg (N - (i + 1))
        case measure => omega
        case rel => exact ⟨i + 1, by go_num, by omega, Nat.le_refl _, rfl⟩
      · obtain rfl : i = N := by omega
        have h3 := AT.out hlen
        generalize (S.getD i (0, 0)).2 = tm at *
        have t4 : decide (tm ≤ t) = false := decide_eq_false (by omega)
        have t5 : decide (i ≤ cap) = true := decide_eq_true (by have := HR.out.1; omega)
        have t6 : (i : Int) ≤ (cap : Int) := by have := HR.out.1; omega
        clear h3
        go_wp2
        go_ret
        exact ⟨_, rfl, HS.out i (by omega), rfl⟩
    · obtain rfl : i = len := by omega
      have hNi : N = i := by omega
      have t1 : decide ((i : Int) < (i : Int)) = false := decide_eq_false (by omega)
      have t2 : decide (i < i) = false := decide_eq_false (by omega)
      have t5 : decide (i ≤ cap) = true := decide_eq_true HR.out.1
      have t6 : (i : Int) ≤ (cap : Int) := by have := HR.out.1; omega
      go_wp2
      go_ret
      rw [hNi]
      exact ⟨_, rfl, HS.out i (Nat.le_refl _), rfl⟩
end Go.Proofs.Ytcipilggddpnpaa
