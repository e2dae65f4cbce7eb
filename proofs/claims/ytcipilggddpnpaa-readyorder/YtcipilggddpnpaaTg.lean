/-
  The chapter's example of timers: the law's awake.
-/
import Derived.Test.YtcipilggddpnpaaTf
namespace Go.Proofs.Ytcipilggddpnpaa
open Go.RowKit Go.Shelf Go.Maps
set_option linter.unusedVariables false
set_option linter.unusedSimpArgs false

def exTm : List Ent := [(2, 4), (1, 10), (3, 10)]
theorem ex_sorted5 : Sorted exTm := by
  unfold Sorted exTm
  simp [ah_eq]
theorem ex_due {D Lc : List Ent} {o' : Int} (h : DueI 12 0 exTm D Lc o') (hl : ∀ y ∈ Lc, 12 < y.2) : D = exTm ∧ o' = 8 := by
  have hnil : Lc = [] := by
    cases Lc with
    | nil => rfl
    | cons y r =>
      exfalso
      have hy := hl y List.mem_cons_self
      have hm : y ∈ exTm := h.perm.mem_iff.2 (List.mem_append_right _ List.mem_cons_self)
      unfold exTm at hm
      simp only [List.mem_cons, List.not_mem_nil, or_false] at hm
      rcases hm with rfl | rfl | rfl <;> simp at hy
  subst hnil
  have hp := h.perm
  rw [List.append_nil] at hp
  have e : D = exTm := sorted_eq hp.symm h.sorted ex_sorted5
  refine ⟨e, ?_⟩
  rw [h.worst, e]
  decide

end Go.Proofs.Ytcipilggddpnpaa
