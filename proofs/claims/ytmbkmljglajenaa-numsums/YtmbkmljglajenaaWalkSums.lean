/-
  NumSums, for every slice.
-/
import Derived.Test.YtmbkmljglajenaaLawSums
import Derived.WalkKit
import Derived.ProofKit
import Derived.OpenShut
namespace Go.Proofs.Ytmbkmljglajenaa
open Go.ChangeShapes Go.WideShapes Go.ChangeAt Go.RowKit
set_option linter.unusedVariables false

/-- A slice of ints that reads as a list, up to its capacity. -/
def IsRow (w : World) (a : Option Addr) (len cap : Nat) (zs : List Int) : Prop :=
  (a = none ∧ len = 0 ∧ cap = 0 ∧ zs = []) ∨
  ∃ x, a = some x ∧ len ≤ cap ∧ cap ≤ maxLen ∧ zs.length = cap ∧ (∀ i, i < zs.length → w.cell? (x.add i) = some (.int .i64 (zs.getD i 0))) ∧ ∀ n ∈ zs, (Lit.int .i64 n).wf = true

theorem IsRow.row {w : World} {a : Option Addr} {len cap : Nat} {zs : List Int} (h : IsRow w a len cap zs) :
    ∃ ys : List Int, ys.length = len ∧ RowI w a ys ∧ (∀ z ∈ ys, Is64 z) ∧ len ≤ 9223372036854775807 := by
  rcases h with ⟨rfl, rfl, rfl, rfl⟩ | ⟨x, rfl, hl, hm, hz, hc, hw⟩
  · exact ⟨[], rfl, .inl rfl, by simp, by omega⟩
  · refine ⟨zs.take len, by rw [List.length_take]; omega, ?_, fun z hz' => bounds_i64 (hw z (List.mem_of_mem_take hz')), by simp only [maxLen] at hm; omega⟩
    cases len with
    | zero => exact .inl (by simp)
    | succ l =>
      have h0 := hc 0 (by omega)
      obtain ⟨g, o, s⟩ := x
      have hs : s = none := by simpa [Addr.add] using World.cell?_spot h0
      subst hs
      refine .inr ⟨g, o, rfl, World.block_lt_of_cell? w ⟨g, o, none⟩ (by simpa [Addr.add] using h0), fun i hi => ?_⟩
      rw [List.length_take] at hi
      have hi' := hc i (by omega)
      have e1 : (⟨g, o, none⟩ : Addr).add i = ⟨g, o + i, none⟩ := by
        unfold Addr.add
        split
        · subst_vars; rfl
        · rfl
      rw [e1] at hi'
      rw [hi', List.getD_eq_getElem?_getD, List.getD_eq_getElem?_getD, List.getElem?_take_of_lt (by omega)]

theorem sums_long (a : Option Addr) (n cap : Nat) (hn : 60 < n) (hn2 : n ≤ 9223372036854775807)
    (cW : Hid (∀ W, Calls Try.prog 11 #[] W fun E w' => E = .returned (.bool true) ∧ Below W.heap.size W w')) (w : World) :
    Calls Try.prog 3 #[.slice a n cap] w fun E w' => E = .returned (.bool true) ∧ Below w.heap.size w w' := by
  have h1 : decide ((60 : Int) < (n : Int)) = true := by simp; omega
  go_enter Try.func3, Try.ntmps3
  go_wp2_with (go_at_call 11; refine (cW.out _).mono ?_; rintro E w1 ⟨rfl, b1⟩)
  go_ret
  exact ⟨rfl, b1⟩

theorem walk_NumSums (a : Option Addr) (len cap : Nat) (zs : List Int) (w : World) (h : IsRow w a len cap zs) :
    Calls Try.prog 3 #[.slice a len cap] w fun E w' => E = .returned (.bool true) ∧ Below w.heap.size w w' := by
  obtain ⟨ys, rfl, hr, hz, hl⟩ := h.row
  have cW := Lib.hid (fun W => awake_any W)
  by_cases h60 : 60 < ys.length
  · exact sums_long a ys.length cap h60 hl cW w
  · exact sums_core a ys ys.length cap (sumR 0 ys).1 (sumR 0 ys).2 (Lib.hid rfl) (Lib.hid rfl) (Lib.hid hz) (by omega) (Lib.hid (fun W hW => sum_any a ys cap W hW hz (by omega))) cW w (Lib.hid hr)
end Go.Proofs.Ytmbkmljglajenaa
