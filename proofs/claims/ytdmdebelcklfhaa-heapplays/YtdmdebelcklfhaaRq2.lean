/-
  A drawn region whose last operation waits for all others, inside a fence: the others are walked as if they were the region, the last one behind them.
-/
import Derived.Test.YtdmdebelcklfhaaRq
import Derived.Test.YtdmdebelcklfhaaOrd2
namespace Go.Proofs.Ytdmdebelcklfhaa
open Go
set_option linter.unusedVariables false

section
variable {F : Fence} {n : Nat} {P : Program} {init : Array Oper} {oL : Oper} {Q : Exit → Act → World → Prop} {C : World → Prop}

/-- Behind the others: the last one. -/
def lastQ (F : Fence) (n : Nat) (P : Program) (oL : Oper) (Q : Exit → Act → World → Prop) : Exit → Act → World → Prop
  | .normal, a, w => Oper.wpIn F n P oL a w (fun a' w' => Q .normal a' w') Q
  | e, a, w => Q e a w

/-- Each waits for elder ones alone, and its guard is an elder one. -/
def elderB (init : Array Oper) : Bool := (List.range init.size).all fun i => match init[i]? with
  | some o => o.after.all (fun e => decide (e.on < i)) && (match o.guard with | some (j, _) => decide (j < init.size) | none => true)
  | none => true
theorem elder_of (h : elderB init = true) (i : Nat) (o : Oper) (ho : init[i]? = some o) : (∀ e ∈ o.after, e.on < i) ∧ ∀ j b, o.guard = some (j, b) → j < init.size := by
  have hi : i < init.size := (Array.getElem?_eq_some_iff.1 ho).1
  have h1 := List.all_eq_true.1 h i (List.mem_range.2 hi)
  simp only [ho, Bool.and_eq_true] at h1
  refine ⟨fun e he => ?_, fun j b hg => ?_⟩
  · have := h1.1
    rw [Array.all_eq_true'] at this
    exact of_decide_eq_true (this e he)
  · have := h1.2
    rw [hg] at this
    exact of_decide_eq_true this

theorem yielded_push (t : Array Value) {j : Nat} (hj : j < init.size) : yielded (init.push oL) t j = yielded init t j := by
  unfold yielded
  rw [Array.getElem?_push_lt hj, Array.getElem?_eq_getElem hj]
theorem wanted_push (h : elderB init = true) {i : Nat} {o : Oper} (ho : init[i]? = some o) (t : Array Value) : Region.wanted o (yielded (init.push oL) t) = Region.wanted o (yielded init t) := by
  unfold Region.wanted
  cases hg : o.guard with
  | none => rfl
  | some jb =>
    obtain ⟨j, b⟩ := jb
    simp only []
    rw [yielded_push t ((elder_of h i o ho).2 j b hg)]

theorem oper_lastQ {o : Oper} {a : Act} {w : World} {K K' : Act → World → Prop} (h : ∀ a w, K a w → K' a w) (hh : o.wpIn F n P a w K (lastQ F n P oL Q)) : o.wpIn F n P a w K' Q := by
  have h1 := Oper.wpIn_mono h hh
  unfold Oper.wpIn at *
  refine ⟨h1.1, ?_⟩
  have h2 := h1.2
  generalize (o.semAt F.round a.eval).run P w = r at *
  cases r with
  | ok x w' => cases x <;> exact h2
  | halt x w' => cases x <;> exact h2

theorem getD_push_lt {listed : Array Bool} {j : Nat} (d : Bool) (hj : j < listed.size) : (listed.push false).getD j d = listed.getD j d := by
  rw [Array.getD_eq_getD_getElem?, Array.getElem?_push_lt hj, Array.getD_eq_getD_getElem?, Array.getElem?_eq_getElem hj]

theorem ready_nil (h : elderB init = true) {listed : Array Bool} (hl : listed.size = init.size) (hr : Region.ready .any init listed = []) : ∀ j, j < init.size → listed.getD j false = true := by
  intro j
  induction j using Nat.strongRecOn with
  | ind j ihj =>
    intro hj
    cases hb' : listed.getD j false with
    | true => rfl
    | false =>
      have hmem : j ∈ Region.ready .any init listed := by
        refine mem_ready.2 ⟨?_, init[j], Array.getElem?_eq_getElem hj, fun e he _ => ?_⟩
        · rw [Array.getD_eq_getD_getElem?, Array.getElem?_eq_getElem (show j < listed.size by omega)] at hb' ⊢
          exact hb'
        · have := (elder_of h j _ (Array.getElem?_eq_getElem hj)).1 e he
          exact ihj e.on this (by omega)
      rw [hr] at hmem
      cases hmem
theorem nil_ready {listed : Array Bool} (hl : listed.size = init.size) (hall : ∀ j, j < init.size → listed.getD j false = true) : Region.ready .any init listed = [] := by
  rw [List.eq_nil_iff_forall_not_mem]
  intro j hj
  obtain ⟨h0, o, ho, _⟩ := mem_ready.1 hj
  have hlt : j < init.size := (Array.getElem?_eq_some_iff.1 ho).1
  have := hall j hlt
  rw [Array.getD_eq_getD_getElem?, Array.getElem?_eq_getElem (show j < listed.size by omega)] at this h0
  simp only [Option.getD_some] at this h0
  rw [this] at h0
  cases h0

theorem snoc_any (he : elderB init = true) (hw : O2.waitsB oL init.size = true) (hw2 : oL.after.all (fun e => decide (e.on < init.size)) = true) (hg : oL.guard = none) : ∀ (fuel : Nat) (listed : Array Bool) (a : Act) (w : World), listed.size = init.size →
    wpAnyIn F n P .any init (lastQ F n P oL Q) fuel listed a w → wpAnyIn F n P .any (init.push oL) Q (fuel + 1) (listed.push false) a w := by
  have hoL : (init.push oL)[init.size]? = some oL := by simp
  have lastly : ∀ (fuel : Nat) (listed : Array Bool) (a : Act) (w : World), listed.size = init.size → (∀ j, j < init.size → listed.getD j false = true) → lastQ F n P oL Q .normal a w →
      wpOpIn F n P (init.push oL) Q init.size (wpAnyIn F n P .any (init.push oL) Q fuel ((listed.push false).setIfInBounds init.size true)) a w := fun fuel listed a w hl hall hq => by
    unfold wpOpIn
    rw [hoL]
    have hwant : Region.wanted oL (yielded (init.push oL) a.tmps) = true := by unfold Region.wanted; rw [hg]
    simp only [hwant, if_true]
    refine Oper.wpIn_mono (fun a' w' hq' => ?_) hq
    refine O2.done_any _ (by simp [hl]) (fun j hj => ?_) a' w' hq' fuel
    rw [Array.getD_eq_getD_getElem?, Array.getElem?_setIfInBounds]
    by_cases hji : init.size = j
    · rw [if_pos hji, if_pos (by simp; omega)]; rfl
    · rw [if_neg hji, ← Array.getD_eq_getD_getElem?, getD_push_lt _ (by simp at hj; omega)]
      exact hall j (by simp at hj; omega)
  have lastReady : ∀ (listed : Array Bool), listed.size = init.size → (∀ j, j < init.size → listed.getD j false = true) → init.size ∈ Region.ready .any (init.push oL) (listed.push false) := fun listed hl hall => by
    refine mem_ready.2 ⟨?_, oL, hoL, fun e he' _ => ?_⟩
    · rw [Array.getD_eq_getD_getElem?, ← hl, Array.getElem?_push_size]; rfl
    · rw [Array.all_eq_true'] at hw2
      have := of_decide_eq_true (hw2 e he')
      rw [getD_push_lt _ (by omega)]
      exact hall _ this
  have elder : ∀ (listed : Array Bool) (i : Nat), listed.size = init.size → i ∈ Region.ready .any (init.push oL) (listed.push false) → i < init.size ∧ i ∈ Region.ready .any init listed ∨ i = init.size ∧ ∀ j, j < init.size → listed.getD j false = true := fun listed i hl hi => by
    obtain ⟨h0, o, ho, hdep⟩ := mem_ready.1 hi
    have hio : i < init.size + 1 := by have := (Array.getElem?_eq_some_iff.1 ho).1; simpa using this
    by_cases him : i = init.size
    · subst him
      rw [hoL] at ho
      cases ho
      refine .inr ⟨rfl, fun j hj => ?_⟩
      obtain ⟨e, he', hbd, rfl⟩ := O2.waits_of hw j hj
      have := hdep e he' hbd
      rwa [getD_push_lt _ (by omega)] at this
    · have hlt : i < init.size := by omega
      rw [Array.getElem?_push_lt hlt] at ho
      have ho' : init[i]? = some o := by rw [Array.getElem?_eq_getElem hlt]; exact ho
      refine .inl ⟨hlt, mem_ready.2 ⟨by rwa [getD_push_lt _ (by omega)] at h0, o, ho', fun e he' hbd => ?_⟩⟩
      have h1 := (elder_of he i o ho').1 e he'
      have := hdep e he' hbd
      rwa [getD_push_lt _ (by omega)] at this
  intro fuel
  induction fuel with
  | zero =>
    intro listed a w hl h
    have hall := ready_nil he hl h.1
    refine ⟨fun hr => ?_, fun i hi => ?_⟩
    · have := lastReady listed hl hall
      rw [hr] at this
      cases this
    · rcases elder listed i hl hi with ⟨_, hi'⟩ | ⟨rfl, _⟩
      · rw [h.1] at hi'; cases hi'
      · exact lastly 0 listed a w hl hall h.2
  | succ fuel ih =>
    intro listed a w hl h
    refine ⟨fun hr => ?_, fun i hi => ?_⟩
    · exfalso
      by_cases hr2 : Region.ready .any init listed = []
      · have := lastReady listed hl (ready_nil he hl hr2)
        rw [hr] at this
        cases this
      · obtain ⟨i, hi⟩ := List.exists_mem_of_ne_nil _ hr2
        obtain ⟨h0, o, ho, hdep⟩ := mem_ready.1 hi
        have hlt : i < init.size := (Array.getElem?_eq_some_iff.1 ho).1
        have : i ∈ Region.ready .any (init.push oL) (listed.push false) := by
          refine mem_ready.2 ⟨by rwa [getD_push_lt _ (by omega)], o, by rw [Array.getElem?_push_lt hlt, ← Array.getElem?_eq_getElem hlt]; exact ho, fun e he' hbd => ?_⟩
          have h1 := (elder_of he i o ho).1 e he'
          rw [getD_push_lt _ (by omega)]
          exact hdep e he' hbd
        rw [hr] at this
        cases this
    · rcases elder listed i hl hi with ⟨hlt, hi'⟩ | ⟨rfl, hall⟩
      · have h2 := h.2 i hi'
        obtain ⟨_, o, ho, _⟩ := mem_ready.1 hi'
        have ho' : (init.push oL)[i]? = some o := by rw [Array.getElem?_push_lt hlt, ← Array.getElem?_eq_getElem hlt]; exact ho
        have e1 : (listed.push false).setIfInBounds i true = (listed.setIfInBounds i true).push false := by
          apply Array.ext'
          rw [Array.toList_setIfInBounds, Array.toList_push, Array.toList_push, Array.toList_setIfInBounds, List.set_append_left _ _ (by simpa using (show i < listed.size by omega))]
        unfold wpOpIn at h2 ⊢
        rw [ho] at h2
        rw [ho', e1]
        simp only [] at h2 ⊢
        rw [wanted_push he ho]
        by_cases hwant : Region.wanted o (yielded init a.tmps) = true
        · simp only [hwant, if_true] at h2 ⊢
          exact oper_lastQ (fun a' w' hk => ih _ a' w' (by simpa using hl) hk) h2
        · simp only [hwant] at h2 ⊢
          exact ⟨h2.1, ih _ _ _ (by simpa using hl) h2.2⟩
      · exact lastly (fuel + 1) listed a w hl hall (h.1 (nil_ready hl hall))

/-- The others walked in their text's order, in a class of worlds that they and their callees keep to; then the last one. -/
theorem region_quiet_last {id : Nat} {a : Act} {w : World} (hro : F.round = none) (hm : P.follows .mixedOrders = true) (he : elderB init = true) (hw : O2.waitsB oL init.size = true) (hw2 : oL.after.all (fun e => decide (e.on < init.size)) = true) (hg : oL.guard = none) (hB : Region.lexB .any init = true) (hC : C { w with drawn := w.drawn + 1 })
    (h : wpQuietIn F n P init C (fun a' => ∀ w', C w' → Oper.wpIn F n P oL a' w' (fun a2 w2 => Q .normal a2 w2) Q) init.toList a) : (Code.region id (init.push oL) true).wpIn F n P Q a w := by
  simp only [Region.lexB, Bool.and_eq_true] at hB
  refine wpIn_region_any hm ?_
  have h1 := wpAnyQIn_lex (F := F) (n := n) (C := C) (md := .any) hB.1 init.toList 0 (Array.replicate init.size false) a (by simp) (by simpa using hB.2) h
  have h2 := wpAnyIn_of_quiet (Q' := lastQ F n P oL Q) hro (fun a' w' hw' (h : ∀ w', C w' → Oper.wpIn F n P oL a' w' (fun a2 w2 => Q .normal a2 w2) Q) => h w' hw') _ _ _ _ hC h1
  have h3 := snoc_any he hw hw2 hg _ _ _ _ (by simp) h2
  have e1 : (Array.replicate init.size false).push false = Array.replicate (init.push oL).size false := by simp [Array.replicate_succ]
  have e2 : init.toList.length + 1 = (init.push oL).size := by simp
  rw [e1, e2] at h3
  exact h3

theorem region_quiet_last_round {id : Nat} {a : Act} {w : World} (l : Nat) (hnd : NoDefer init) (hm : P.follows .mixedOrders = true) (he : elderB init = true) (hw : O2.waitsB oL init.size = true) (hw2 : oL.after.all (fun e => decide (e.on < init.size)) = true) (hg : oL.guard = none) (hB : Region.lexB .any init = true) (hC : C { w with drawn := w.drawn + 1 })
    (h : wpQuietIn F n P init C (fun a' => ∀ w', C w' → Oper.wpIn (F.inRound l) n P oL a' w' (fun a2 w2 => Q .normal a2 w2) Q) init.toList a) : (Code.region id (init.push oL) true).wpIn (F.inRound l) n P Q a w := by
  simp only [Region.lexB, Bool.and_eq_true] at hB
  refine wpIn_region_any hm ?_
  have h1 := wpAnyQIn_lex (F := F) (n := n) (C := C) (md := .any) hB.1 init.toList 0 (Array.replicate init.size false) a (by simp) (by simpa using hB.2) h
  have h2 := any_of_quiet (Q' := lastQ (F.inRound l) n P oL Q) l hnd (fun a' w' hw' (h : ∀ w', C w' → Oper.wpIn (F.inRound l) n P oL a' w' (fun a2 w2 => Q .normal a2 w2) Q) => h w' hw') _ _ _ _ hC h1
  have h3 := snoc_any he hw hw2 hg _ _ _ _ (by simp) h2
  have e1 : (Array.replicate init.size false).push false = Array.replicate (init.push oL).size false := by simp [Array.replicate_succ]
  have e2 : init.toList.length + 1 = (init.push oL).size := by simp
  rw [e1, e2] at h3
  exact h3
end
end Go.Proofs.Ytdmdebelcklfhaa
