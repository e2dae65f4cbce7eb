/-
  Drawn regions whose last two operations wait for all others, one behind the other: a call, and what keeps its answer.
-/
import Derived.Test.YtcipilggddpnpaaLv
namespace Go.Proofs.Ytcipilggddpnpaa
open Go Go.Sort
set_option linter.unusedVariables false

section
variable {F : Fence} {n : Nat} {P : Program} {o1 o2 : Oper} {Q : Exit → Act → World → Prop} {C : World → Prop}

theorem oper_toLastQ {o : Oper} {a : Act} {w : World} {K : Act → World → Prop} (hh : o.wpIn F n P a w K Q) : o.wpIn F n P a w K (lastQ F n P o2 Q) := by
  unfold Oper.wpIn at *
  refine ⟨hh.1, ?_⟩
  have h2 := hh.2
  generalize (o.semAt F.round a.eval).run P w = r at *
  cases r with
  | ok x w' => cases x <;> exact h2
  | halt x w' => cases x <;> exact h2

theorem tail2_of (hg1 : o1.guard = none) (hg2 : o2.guard = none) {a : Act} {w : World} (h : wpListIn F n P #[o1, o2] Q [o1, o2] a w) : Oper.wpIn F n P o1 a w (fun a2 w2 => lastQ F n P o2 Q .normal a2 w2) (lastQ F n P o2 Q) := by
  unfold wpListIn at h
  have hw : ∀ (o : Oper) t, o.guard = none → Region.wanted o (yielded #[o1, o2] t) = true := fun o t hg => by unfold Region.wanted; rw [hg]
  rw [if_pos (hw o1 _ hg1)] at h
  refine oper_toLastQ (Oper.wpIn_mono (fun a' w' hq => ?_) h)
  unfold wpListIn at hq
  rw [if_pos (hw o2 _ hg2)] at hq
  exact Oper.wpIn_mono (fun a' w' hq => by unfold wpListIn at hq; exact hq) hq

def last2B (os : List Oper) (m : Nat) (o1 o2 : Oper) : Bool := lastB os m o1 && (elderB (os.take (m + 1)).toArray && O2.sinkB (os.take (m + 1)).toArray o2 && o2.after.all (fun e => decide (e.on < m + 1)) && o2.guard.isNone)

/-- A region whose last two operations wait for all others, which read, with quiet callees. -/
theorem plain_last2 {id : Nat} {a : Act} {w : World} {os : List Oper} (m : Nat) (o1 o2 : Oper) (C : World → Prop) (hos : os[m]? = some o1) (hos2 : os[m + 1]? = some o2) (hlen : os.length = m + 2) (hch : last2B os m o1 o2 = true) (hm : P.follows .mixedOrders = true) (hC : C { w with drawn := w.drawn + 1 })
    (h : wpQuiet P (os.take m).toArray C (fun a' => ∀ w', C w' → wpListIn Fence.wide 8 P #[o1, o2] Q [o1, o2] a' w') (os.take m) a) : (Code.region id os.toArray true).wp P Q a w := by
  simp only [last2B, lastB, Bool.and_eq_true, Option.isNone_iff_eq_none] at hch
  obtain ⟨⟨⟨⟨⟨⟨h1, h2⟩, h3⟩, h4⟩, h5⟩, h6⟩, ⟨⟨g1, g2⟩, g3⟩, g4⟩ := hch
  have hsz : (os.take m).toArray.size = m := by simp; omega
  have e0 : os.toArray = (os.take (m + 1)).toArray.push o2 := take_push (m := m + 1) hos2 (by omega)
  have e1 : (os.take (m + 1)).toArray = (os.take m).toArray.push o1 := by
    have := take_push (os := os.take (m + 1)) (m := m) (oL := o1) (by rw [List.getElem?_take, if_pos (by omega)]; exact hos) (by rw [List.length_take]; omega)
    rwa [List.take_take, Nat.min_eq_left (by omega)] at this
  rw [e1] at e0 g1 g2
  rw [e0]
  generalize hi : (os.take m).toArray = init at *
  have hl : os.take m = init.toList := by rw [← hi]
  rw [hl] at h
  have hq : wpQuietIn Fence.wide 8 P init C (fun a' => ∀ w', C w' → Oper.wpIn Fence.wide 8 P o1 a' w' (fun a2 w2 => lastQ Fence.wide 8 P o2 Q .normal a2 w2) (lastQ Fence.wide 8 P o2 Q)) init.toList a := by
    have hq := quiet_wide (n := 8) h
    have : ∀ (l : List Oper) (a : Act), wpQuietIn Fence.wide 8 P init C (fun a' => ∀ w', C w' → wpListIn Fence.wide 8 P #[o1, o2] Q [o1, o2] a' w') l a → wpQuietIn Fence.wide 8 P init C (fun a' => ∀ w', C w' → Oper.wpIn Fence.wide 8 P o1 a' w' (fun a2 w2 => lastQ Fence.wide 8 P o2 Q .normal a2 w2) (lastQ Fence.wide 8 P o2 Q)) l a := by
      intro l
      induction l with
      | nil => intro a h w' hw'; exact tail2_of h4 g4 (h w' hw')
      | cons o r ih =>
        intro a h
        obtain ⟨ha, h⟩ := h
        refine ⟨ha, ?_⟩
        split
        · rename_i hw
          rw [if_pos hw] at h
          exact Oper.quietIn_mono ih h
        · rename_i hw
          rw [if_neg hw] at h
          exact ih _ h
    exact this _ _ hq
  refine (wpIn_wide (n := 8)).1 ?_
  simp only [Region.lexB, Bool.and_eq_true] at h5
  refine wpIn_region_any hm ?_
  have k1 := wpAnyQIn_lex (F := Fence.wide) (n := 8) (C := C) (md := .any) h5.1 init.toList 0 (Array.replicate init.size false) a (by simp) (by simpa using h5.2) hq
  have k2 := wpAnyIn_of_quiet (Q' := lastQ Fence.wide 8 P o1 (lastQ Fence.wide 8 P o2 Q)) rfl (fun a' w' hw' (h : ∀ w', C w' → Oper.wpIn Fence.wide 8 P o1 a' w' (fun a2 w2 => lastQ Fence.wide 8 P o2 Q .normal a2 w2) (lastQ Fence.wide 8 P o2 Q)) => h w' hw') _ _ _ _ hC k1
  have k3 := snoc_any h1 h2 (by rw [hsz]; exact h3) h4 _ _ _ _ (by simp) (O2.closed_none init _) k2
  have f1 : (Array.replicate init.size false).push false = Array.replicate (init.push o1).size false := by simp [Array.replicate_succ]
  rw [f1] at k3
  have k4 := snoc_any g1 g2 (by rw [Array.size_push, hsz]; exact g3) g4 _ _ _ _ (by simp) (O2.closed_none (init.push o1) _) k3
  have f2 : (Array.replicate (init.push o1).size false).push false = Array.replicate ((init.push o1).push o2).size false := by simp [Array.replicate_succ]
  have f3 : init.toList.length + 1 + 1 = ((init.push o1).push o2).size := by simp
  rw [f2, f3] at k4
  exact k4
end
end Go.Proofs.Ytcipilggddpnpaa
