/-
  A slice of the law's calls that came in; few.
-/
import Derived.Test.YtdmdebelcklfhaaSam
namespace Go.Proofs.Ytdmdebelcklfhaa
open Go.RowKit Go.Sort Go.Shelf Go.Maps
set_option linter.unusedVariables false
set_option linter.unusedSimpArgs false

/-- n calls lie at a: what is asked, the key's time, its number. -/
def OpsAt (w : World) (a : Option Addr) (n : Nat) (V : Nat → Int × Int × Int) : Prop :=
  n = 0 ∨ ∃ g o, a = some ⟨g, o, none⟩ ∧ g < w.heap.size ∧ ∀ i, i < n → (w.cell? ⟨g, o + i * 3, none⟩ = some (.int .i64 (V i).1) ∧ w.cell? ⟨g, o + i * 3 + 1, none⟩ = some (.int .i64 (V i).2.1) ∧ w.cell? ⟨g, o + i * 3 + 2, none⟩ = some (.int .i64 (V i).2.2)) ∧ Is64 (V i).2.1 ∧ Is64 (V i).2.2

theorem OpsAt.below {w w' : World} {a : Option Addr} {n : Nat} {V : Nat → Int × Int × Int} (h : OpsAt w a n V) (b : Below w.heap.size w w') : OpsAt w' a n V := by
  rcases h with h | ⟨g, o, rfl, hg, hc⟩
  · exact .inl h
  · refine .inr ⟨g, o, rfl, Nat.lt_of_lt_of_le hg b.size, fun i hi => ?_⟩
    obtain ⟨⟨h1, h2, h3⟩, h4⟩ := hc i hi
    exact ⟨⟨(b.cell (p := ⟨g, o + i * 3, none⟩) hg).trans h1, (b.cell (p := ⟨g, o + i * 3 + 1, none⟩) hg).trans h2, (b.cell (p := ⟨g, o + i * 3 + 2, none⟩) hg).trans h3⟩, h4⟩

/-- As it comes in. -/
def IsOps (w : World) (a : Option Addr) (len cap : Nat) : Prop :=
  (a = none ∧ len = 0 ∧ cap = 0) ∨ ∃ (x : Addr) (V : Nat → Int × Int × Int), a = some x ∧ len ≤ cap ∧ cap ≤ maxLen ∧ ∀ i, i < len → w.cell? (x.add (i * 3)) = some (.int .i64 (V i).1) ∧ w.cell? (x.add (i * 3 + 1)) = some (.int .i64 (V i).2.1) ∧ w.cell? (x.add (i * 3 + 2)) = some (.int .i64 (V i).2.2) ∧ (Lit.int .i64 (V i).2.1).wf = true ∧ (Lit.int .i64 (V i).2.2).wf = true

theorem IsOps.ops {w : World} {a : Option Addr} {len cap : Nat} (h : IsOps w a len cap) : len ≤ 9223372036854775807 ∧ ∃ V, OpsAt w a len V := by
  rcases h with ⟨rfl, rfl, rfl⟩ | ⟨x, V, rfl, hl, hm, hc⟩
  · exact ⟨by omega, fun _ => (0, 0, 0), .inl rfl⟩
  · refine ⟨by simp only [maxLen] at hm; omega, V, ?_⟩
    cases len with
    | zero => exact .inl rfl
    | succ l =>
      have h0 := (hc 0 (by omega)).1
      obtain ⟨g, o, s⟩ := x
      have hs : s = none := by simpa [Addr.add] using World.cell?_spot h0
      subst hs
      have e1 : ∀ i, (⟨g, o, none⟩ : Addr).add i = ⟨g, o + i, none⟩ := fun i => by
        unfold Addr.add
        split
        · subst_vars; rfl
        · rfl
      refine .inr ⟨g, o, rfl, World.block_lt_of_cell? w ⟨g, o, none⟩ (by simpa [e1] using h0), fun i hi => ?_⟩
      obtain ⟨h1, h2, h3, h4, h5⟩ := hc i hi
      rw [e1] at h1 h2 h3
      exact ⟨⟨h1, by rw [← Nat.add_assoc] at h2; exact h2, by rw [← Nat.add_assoc] at h3; exact h3⟩, bounds_i64 h4, bounds_i64 h5⟩

set_option maxHeartbeats 400000 in
theorem few3_any (a : Option Addr) (n cap : Nat) (w : World) : Calls Try.prog 13 #[.slice a n cap] w fun e w' => e = .returned (.bool (decide (n ≤ 60))) ∧ w' = w := by
  have hd : decide ((n : Int) ≤ 60) = decide (n ≤ 60) := by
    by_cases h : n ≤ 60
    · rw [decide_eq_true h, decide_eq_true (by omega)]
    · rw [decide_eq_false h, decide_eq_false (by omega)]
  go_enter Try.func13, Try.ntmps13
  go_wp2
  go_ret
  exact ⟨by first | rfl | rw [hd], rfl⟩

/-- A heap and a reference that are new. -/
theorem pr_new {B : Nat} {W W' : World} {hb mb : Nat} (h : Hs B W hb mb none []) (hB : B ≤ W.heap.size) (hW : W.alloc (.cells #[.slice none 0 0] 33) = W') : Pr B W' hb mb none W.heap.size [] := by
  have g : Grew W W' := by rw [← hW]; exact (Grew.refl W).alloc _
  refine ⟨h.grew g, ⟨none, 0, ?_, rfl, .inl ⟨rfl, rfl⟩⟩, List.Pairwise.nil, List.Pairwise.nil, (fun x hx => by cases hx), Nat.le_trans hB g.size, hB⟩
  rw [← hW]
  exact heap_alloc_new _ _

theorem Did.below {B : Nat} {W W' : World} {hb mb : Nat} {ro : Option Nat} {rf : Nat} {L : List Ent} (h : Did B W hb mb ro rf L W') (hp : Pr B W hb mb ro rf L) : Below B W W' := by
  obtain ⟨ro', L', _, _, k, _⟩ := h
  exact k.below hp.base (fun i hi => by
    rcases hi with hi | rfl
    · exact hp.heap.from i hi
    · exact hp.rb)
end Go.Proofs.Ytdmdebelcklfhaa
