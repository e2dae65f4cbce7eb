/-
  Drawn regions, in a round of a range over a function and outside: walked as plain ones are, with plain contracts; the last operation, if it waits for all others, behind them.
-/
import Derived.Test.YtdmdebelcklfhaaRq2
import Derived.Shelf.SlSortCmp.QuietGrown
import Derived.Test.YtdmdebelcklfhaaHpB
namespace Go.Proofs.Ytdmdebelcklfhaa
open Go Go.Sort
set_option linter.unusedVariables false

section
variable {n : Nat} {P : Program} {Q : Exit → Act → World → Prop} {C : World → Prop}

theorem quietAt_wide {o : Oper} {a : Act} {w : World} {v : Value} (h : o.quietAt P a C w v) : o.quietAtIn Fence.wide n P a C w v := by
  unfold Oper.quietAt at h
  unfold Oper.quietAtIn
  generalize (execOp a.eval o).run P w = r at *
  cases r with
  | ok x w' =>
    cases x <;> simp only [Oper.quietUpon] at h <;> simp only [Oper.quietUponIn]
    case value u => exact h
    case skip => exact h
    case enter f args => exact ⟨h.1, fun x => by simp [Fence.wide] at x, callsIn_wide.2 h.2⟩
  | halt x w' => simp only [Oper.quietUpon] at h

theorem quiet_wide {ops : Array Oper} {R : Act → Prop} : ∀ {l : List Oper} {a : Act}, wpQuiet P ops C R l a → wpQuietIn Fence.wide n P ops C R l a
  | [], _, h => h
  | o :: rest, a, h => by
    refine ⟨fun _ _ _ _ => trivial, ?_⟩
    unfold wpQuiet at h
    split
    · rename_i hw
      rw [if_pos hw] at h
      obtain ⟨v, h1, h2⟩ := h
      exact ⟨v, fun w hw => quietAt_wide (h1 w hw), quiet_wide h2⟩
    · rename_i hw
      rw [if_neg hw] at h
      exact quiet_wide h

/-- In a round: a region that reads, with quiet callees. -/
theorem round_quiet {id : Nat} {a : Act} {w : World} {os : List Oper} (l : Nat) (C : World → Prop) (hnd : noDeferB os = true) (hm : P.follows .mixedOrders = true) (hB : Region.lexB .any os.toArray = true) (hC : C { w with drawn := w.drawn + 1 })
    (h : wpQuiet P os.toArray C (fun a' => ∀ w', C w' → Q .normal a' w') os a) : (Code.region id os.toArray true).wpIn (Fence.wide.inRound l) n P Q a w :=
  region_quiet_round (C := C) l (noDefer_of hnd) hm hB hC (by simpa using quiet_wide h)

theorem take_push {os : List Oper} {m : Nat} {oL : Oper} (hos : os[m]? = some oL) (hlen : os.length = m + 1) : os.toArray = (os.take m).toArray.push oL := by
  apply Array.ext'
  rw [Array.toList_push]
  show os = os.take m ++ [oL]
  have h1 : os.take (m + 1) = os.take m ++ [oL] := by
    rw [List.take_add_one, hos]; rfl
  rw [← h1, List.take_of_length_le (by omega)]

def lastB (os : List Oper) (m : Nat) (oL : Oper) : Bool := elderB (os.take m).toArray && O2.waitsB oL m && oL.after.all (fun e => decide (e.on < m)) && oL.guard.isNone && Region.lexB .any (os.take m).toArray && noDeferB (os.take m)

theorem tail_of {F : Fence} {oL : Oper} (hg : oL.guard = none) {a : Act} {w : World} (h : wpListIn F n P #[oL] Q [oL] a w) : Oper.wpIn F n P oL a w (fun a2 w2 => Q .normal a2 w2) Q := by
  unfold wpListIn at h
  have hw : Region.wanted oL (yielded #[oL] a.tmps) = true := by unfold Region.wanted; rw [hg]
  rw [if_pos hw] at h
  exact Oper.wpIn_mono (fun a' w' hq => by unfold wpListIn at hq; exact hq) h

/-- A region whose last operation waits for all others, which read, with quiet callees. -/
theorem plain_last {id : Nat} {a : Act} {w : World} {os : List Oper} (m : Nat) (oL : Oper) (C : World → Prop) (hos : os[m]? = some oL) (hlen : os.length = m + 1) (hch : lastB os m oL = true) (hm : P.follows .mixedOrders = true) (hC : C { w with drawn := w.drawn + 1 })
    (h : wpQuiet P (os.take m).toArray C (fun a' => ∀ w', C w' → wpListIn Fence.wide 8 P #[oL] Q [oL] a' w') (os.take m) a) : (Code.region id os.toArray true).wp P Q a w := by
  simp only [lastB, Bool.and_eq_true, Option.isNone_iff_eq_none] at hch
  obtain ⟨⟨⟨⟨⟨h1, h2⟩, h3⟩, h4⟩, h5⟩, h6⟩ := hch
  have hsz : (os.take m).toArray.size = m := by simp; omega
  rw [take_push hos hlen]
  refine (wpIn_wide (n := 8)).1 (region_quiet_last (C := C) rfl hm h1 (by rw [hsz]; exact h2) (by rw [hsz]; exact h3) h4 h5 hC ?_)
  have hq := quiet_wide (n := 8) h
  have : ∀ (l : List Oper) (a : Act), wpQuietIn Fence.wide 8 P (os.take m).toArray C (fun a' => ∀ w', C w' → wpListIn Fence.wide 8 P #[oL] Q [oL] a' w') l a → wpQuietIn Fence.wide 8 P (os.take m).toArray C (fun a' => ∀ w', C w' → Oper.wpIn Fence.wide 8 P oL a' w' (fun a2 w2 => Q .normal a2 w2) Q) l a := by
    intro l
    induction l with
    | nil => intro a h w' hw'; exact tail_of h4 (h w' hw')
    | cons o r ih =>
      intro a h
      obtain ⟨ha, h⟩ := h
      refine ⟨ha, ?_⟩
      split
      · rename_i hw
        rw [if_pos hw] at h
        exact Oper.quietIn_mono ih h
      · rename_i hw
        rw [if_neg hw] at h
        exact ih _ h
  have := this _ _ hq
  simpa using this

/-- .. in a round. -/
theorem round_last {id : Nat} {a : Act} {w : World} {os : List Oper} (l m : Nat) (oL : Oper) (C : World → Prop) (hos : os[m]? = some oL) (hlen : os.length = m + 1) (hch : lastB os m oL = true) (hm : P.follows .mixedOrders = true) (hC : C { w with drawn := w.drawn + 1 })
    (h : wpQuiet P (os.take m).toArray C (fun a' => ∀ w', C w' → wpListIn (Fence.wide.inRound l) n P #[oL] Q [oL] a' w') (os.take m) a) : (Code.region id os.toArray true).wpIn (Fence.wide.inRound l) n P Q a w := by
  simp only [lastB, Bool.and_eq_true, Option.isNone_iff_eq_none] at hch
  obtain ⟨⟨⟨⟨⟨h1, h2⟩, h3⟩, h4⟩, h5⟩, h6⟩ := hch
  have hsz : (os.take m).toArray.size = m := by simp; omega
  rw [take_push hos hlen]
  refine region_quiet_last_round (C := C) l (noDefer_of h6) hm h1 (by rw [hsz]; exact h2) (by rw [hsz]; exact h3) h4 h5 hC ?_
  have hq := quiet_wide (n := n) h
  have : ∀ (k : List Oper) (a : Act), wpQuietIn Fence.wide n P (os.take m).toArray C (fun a' => ∀ w', C w' → wpListIn (Fence.wide.inRound l) n P #[oL] Q [oL] a' w') k a → wpQuietIn Fence.wide n P (os.take m).toArray C (fun a' => ∀ w', C w' → Oper.wpIn (Fence.wide.inRound l) n P oL a' w' (fun a2 w2 => Q .normal a2 w2) Q) k a := by
    intro k
    induction k with
    | nil => intro a h w' hw'; exact tail_of h4 (h w' hw')
    | cons o r ih =>
      intro a h
      obtain ⟨ha, h⟩ := h
      refine ⟨ha, ?_⟩
      split
      · rename_i hw
        rw [if_pos hw] at h
        exact Oper.quietIn_mono ih h
      · rename_i hw
        rw [if_neg hw] at h
        exact ih _ h
  have := this _ _ hq
  simpa using this
end

/-- w, some draws on, some blocks laid behind it: the class that growing callees keep to. -/
abbrev Growing (w : World) (w' : World) : Prop := ∃ p : GrownBy, w' = grow (w.drewN p.n) p.os
theorem growing_drew (w : World) : Growing w { w with drawn := w.drawn + 1 } := ⟨⟨1, #[]⟩, by rw [grow_empty]; rfl⟩
/-- w, some draws on. -/
abbrev Drawing (w : World) (w' : World) : Prop := ∃ n, w' = w.drewN n
theorem drawing_drew (w : World) : Drawing w { w with drawn := w.drawn + 1 } := ⟨1, rfl⟩
theorem Growing.grew {w w' : World} (h : Growing w w') : Grew w w' := by
  obtain ⟨p, rfl⟩ := h
  exact ⟨p.n, p.os, rfl⟩
end Go.Proofs.Ytdmdebelcklfhaa
