/-
  A region whose operations come up in whatever order, each of which leaves a known value (or is not wanted), in every world that meets S.
-/
import Derived.WalkKit
import Derived.OrdersHeld
import Derived.RegionTactic
namespace Go.Proofs.Ytmbkmljglajenaa
set_option linter.unusedVariables false
section
variable {P : Program} {ops : Array Oper} {Q : Exit → Act → World → Prop} {S : World → Prop}

/-- What an operation sees: the places ahead of the region's own as they were, and the values of those that it waits for. -/
def Sees (a0 : Act) (base : Nat) (vals : List Value) (o : Oper) (a : Act) : Prop :=
  (∀ s, s < base → a.tmps[s]? = a0.tmps[s]?) ∧ ∀ e ∈ o.after, Region.binds .any e = true → a.tmps[base + e.on]? = vals[e.on]?

/-- One operation leaves its value. -/
def StepOk (P : Program) (ops : Array Oper) (Q : Exit → Act → World → Prop) (S : World → Prop) (a0 : Act) (base : Nat) (vals : List Value) (i : Nat) (o : Oper) : Prop :=
  (o.dst = some (base + i) ∧ o.after.all (fun e => decide (e.on < i)) = true) ∧
  ∀ a w v, vals[i]? = some v → S w → Sees a0 base vals o a → if Region.wanted o (yielded ops a.tmps) = true then ∀ K' : Act → World → Prop, (∀ w', S w' → K' (a.put o.dst v) w') → Oper.wp P o a w K' Q else v = undef

def AllSteps (P : Program) (ops : Array Oper) (Q : Exit → Act → World → Prop) (S : World → Prop) (a0 : Act) (base : Nat) (vals : List Value) : Nat → List Oper → Prop
  | _, [] => True
  | k, o :: l => StepOk P ops Q S a0 base vals k o ∧ AllSteps P ops Q S a0 base vals (k + 1) l

theorem AllSteps.at_ {a0 : Act} {base : Nat} {vals : List Value} : ∀ (l : List Oper) (k i : Nat) (o : Oper), AllSteps P ops Q S a0 base vals k l → l[i]? = some o → StepOk P ops Q S a0 base vals (k + i) o
  | [], _, _, _, _, h => by simp at h
  | x :: l, k, 0, o, hs, h => by
    simp at h
    subst h
    exact hs.1
  | x :: l, k, i + 1, o, hs, h => by
    have := AllSteps.at_ l (k + 1) i o hs.2 (by simpa using h)
    rw [show k + (i + 1) = k + 1 + i by omega]
    exact this

/-- The frame, with the region's values in their places. -/
def patch (t : Array Value) (base : Nat) (vals : List Value) : Array Value := (t.toList.take base ++ (vals ++ t.toList.drop (base + vals.length))).toArray
theorem patch_at (t : Array Value) (base : Nat) (vals : List Value) (hb : base + vals.length ≤ t.size) (s : Nat) :
    (patch t base vals)[s]? = if base ≤ s ∧ s - base < vals.length then vals[s - base]? else t[s]? := by
  have hlen : (t.toList.take base).length = base := by rw [List.length_take, Array.length_toList]; omega
  unfold patch
  rw [List.getElem?_toArray]
  by_cases h1 : s < base
  · rw [List.getElem?_append_left (by omega), if_neg (by omega), List.getElem?_take_of_lt h1, Array.getElem?_toList]
  · rw [List.getElem?_append_right (by omega), hlen]
    by_cases h2 : s - base < vals.length
    · rw [if_pos ⟨by omega, h2⟩, List.getElem?_append_left h2]
    · rw [if_neg (by omega), List.getElem?_append_right (by omega), List.getElem?_drop, Array.getElem?_toList]
      congr 1
      omega

/-- The frame behind those that have come up. -/
def Known (a0 : Act) (base : Nat) (vals : List Value) (listed : Array Bool) (a : Act) : Prop :=
  a.defers = a0.defers ∧ ∀ s, a.tmps[s]? = if base ≤ s ∧ listed.getD (s - base) false = true then vals[s - base]? else a0.tmps[s]?

theorem count_zero_all {listed : Array Bool} (h : listed.toList.count false = 0) (j : Nat) (hj : j < listed.size) : listed.getD j false = true := by
  rw [List.count_eq_zero] at h
  rw [Array.getD_eq_getD_getElem?, Array.getElem?_eq_getElem hj]
  cases hb : listed[j] with
  | true => rfl
  | false => exact absurd (by rw [← hb]; exact Array.mem_toList_iff.2 (Array.getElem_mem hj)) h

theorem known_any {a0 : Act} {base : Nat} {vals : List Value} (hv : vals.length = ops.size) (hb : base + vals.length ≤ a0.tmps.size)
    (hs : AllSteps P ops Q S a0 base vals 0 ops.toList) (hQ : ∀ w, S w → Q .normal { a0 with tmps := patch a0.tmps base vals } w) :
    ∀ (fuel : Nat) (listed : Array Bool) (a : Act) (w : World), listed.size = ops.size → listed.toList.count false ≤ fuel → Known a0 base vals listed a → S w → wpAny P .any ops Q fuel listed a w := by
  have fin : ∀ (listed : Array Bool) (a : Act) (w : World), listed.size = ops.size → (∀ j, j < listed.size → listed.getD j false = true) → Known a0 base vals listed a → S w → Q .normal a w := by
    intro listed a w hl hall hk hw
    have e : a = { a0 with tmps := patch a0.tmps base vals } := by
      obtain ⟨t, d⟩ := a
      obtain ⟨h1, h2⟩ := hk
      have ht : t = patch a0.tmps base vals := by
        refine Array.ext_getElem? fun s => ?_
        have := h2 s
        simp only at this
        rw [this, patch_at _ _ _ hb]
        by_cases hc : base ≤ s ∧ s - base < vals.length
        · rw [if_pos ⟨hc.1, hall _ (by omega)⟩, if_pos hc]
        · rw [if_neg hc, if_neg]
          rintro ⟨c1, c2⟩
          rw [Array.getD_eq_getD_getElem?, Array.getElem?_eq_none (by omega)] at c2
          cases c2
      rw [ht]
      simp only at h1
      rw [h1]
    rw [e]
    exact hQ w hw
  intro fuel
  induction fuel with
  | zero =>
    intro listed a w hl hc hk hw
    have hall := fun j hj => count_zero_all (Nat.le_zero.1 hc) j hj
    refine ⟨?_, fin listed a w hl hall hk hw⟩
    rw [List.eq_nil_iff_forall_not_mem]
    intro j hj
    obtain ⟨h0, o, ho, _⟩ := mem_ready.1 hj
    have hlt : j < listed.size := by
      rw [hl]
      rcases Nat.lt_or_ge j ops.size with h | h
      · exact h
      · rw [Array.getElem?_eq_none h] at ho; cases ho
    have := hall j hlt
    rw [Array.getD_eq_getD_getElem?, Array.getElem?_eq_getElem hlt] at this h0
    simp only [Option.getD_some] at this h0
    rw [this] at h0
    cases h0
  | succ fuel ih =>
    intro listed a w hl hc hk hw
    refine ⟨fun hr => ?_, fun i hi => ?_⟩
    · have hall : ∀ j, j < listed.size → listed.getD j false = true := by
        intro j
        induction j using Nat.strongRecOn with
        | ind j ihj =>
          intro hj
          cases hb' : listed.getD j false with
          | true => rfl
          | false =>
            have hjo : j < ops.size := by omega
            have hst := AllSteps.at_ (P := P) (Q := Q) (S := S) ops.toList 0 j ops[j] hs (by rw [Array.getElem?_toList, Array.getElem?_eq_getElem hjo])
            have hmem : j ∈ Region.ready .any ops listed := by
              refine mem_ready.2 ⟨?_, ops[j], Array.getElem?_eq_getElem hjo, fun e he _ => ?_⟩
              · rw [Array.getD_eq_getD_getElem?, Array.getElem?_eq_getElem hj] at hb' ⊢
                exact hb'
              · have h2 := hst.1.2
                rw [Array.all_eq_true'] at h2
                have h3 := of_decide_eq_true (h2 e he)
                exact ihj e.on (by omega) (by omega)
            rw [hr] at hmem
            cases hmem
      exact fin listed a w hl hall hk hw
    · obtain ⟨h0, o, ho, hdep⟩ := mem_ready.1 hi
      have hio : i < ops.size := by
        rcases Nat.lt_or_ge i ops.size with h | h
        · exact h
        · rw [Array.getElem?_eq_none h] at ho; cases ho
      have hil : i < listed.size := by omega
      have hst := AllSteps.at_ (P := P) (Q := Q) (S := S) ops.toList 0 i o hs (by rw [Array.getElem?_toList]; exact ho)
      rw [Nat.zero_add] at hst
      obtain ⟨⟨hd, hlt⟩, hrun⟩ := hst
      obtain ⟨v, hv'⟩ : ∃ v, vals[i]? = some v := ⟨vals[i], List.getElem?_eq_getElem (by omega)⟩
      have hli : listed[i] = false := by
        rw [Array.getD_eq_getD_getElem?, Array.getElem?_eq_getElem hil] at h0
        exact h0
      have hsees : Sees a0 base vals o a := by
        refine ⟨fun s hs' => ?_, fun e he hbd => ?_⟩
        · rw [hk.2 s, if_neg (by omega)]
        · have := hdep e he hbd
          rw [hk.2 (base + e.on), Nat.add_sub_cancel_left, if_pos ⟨by omega, this⟩]
      have hslot : base + i < a.tmps.size := by
        have := hk.2 (base + i)
        rw [if_neg (by rw [Nat.add_sub_cancel_left, Array.getD_eq_getD_getElem?, Array.getElem?_eq_getElem hil, hli]; simp), Array.getElem?_eq_getElem (show base + i < a0.tmps.size by omega)] at this
        rcases Nat.lt_or_ge (base + i) a.tmps.size with h | h
        · exact h
        · rw [Array.getElem?_eq_none h] at this; cases this
      have hnext : ∀ w', S w' → wpAny P .any ops Q fuel (listed.setIfInBounds i true) (a.put o.dst v) w' := by
        intro w' hw'
        refine ih _ _ _ (by rw [Array.size_setIfInBounds]; exact hl) ?_ ?_ hw'
        · rw [Array.toList_setIfInBounds, List.count_set (by rw [Array.length_toList]; exact hil), Array.getElem_toList, hli]
          show listed.toList.count false - 1 + 0 ≤ fuel
          omega
        · refine ⟨by rw [hd]; exact hk.1, fun s => ?_⟩
          rw [hd]
          show (a.tmps.setIfInBounds (base + i) v)[s]? = _
          rw [Array.getElem?_setIfInBounds]
          by_cases hsi : base + i = s
          · subst hsi
            rw [if_pos rfl, if_pos hslot, Nat.add_sub_cancel_left, if_pos ⟨by omega, by rw [Array.getD_eq_getD_getElem?, Array.getElem?_setIfInBounds, if_pos rfl, if_pos hil]; rfl⟩, hv']
          · rw [if_neg hsi, hk.2 s]
            by_cases hbs : base ≤ s
            · have e1 : (listed.setIfInBounds i true).getD (s - base) false = listed.getD (s - base) false := by
                rw [Array.getD_eq_getD_getElem?, Array.getElem?_setIfInBounds, if_neg (by omega), ← Array.getD_eq_getD_getElem?]
              rw [e1]
            · rw [if_neg (by omega), if_neg (by omega)]
      have hgo := hrun a w v hv' hw hsees
      unfold wpOp
      rw [ho]
      show if Region.wanted o (yielded ops a.tmps) = true then _ else _
      by_cases hwant : Region.wanted o (yielded ops a.tmps) = true
      · rw [if_pos hwant] at hgo ⊢
        exact .inl (hgo _ hnext)
      · rw [if_neg hwant] at hgo ⊢
        rw [hgo] at hnext
        exact hnext w hw

/-- A region that draws: every operation's value is known. -/
theorem region_known {id : Nat} {a0 : Act} {w : World} (base : Nat) (vals : List Value) (S : World → Prop) (hm : P.follows .mixedOrders = true) (hv : vals.length = ops.size) (hb : base + vals.length ≤ a0.tmps.size)
    (hS : S w.drew) (hs : AllSteps P ops Q S a0 base vals 0 ops.toList) (hQ : ∀ w, S w → Q .normal { a0 with tmps := patch a0.tmps base vals } w) : (Code.region id ops true).wp P Q a0 w := by
  refine wp_region_any hm (known_any hv hb hs hQ _ _ _ _ (by simp) (by simp) ⟨rfl, fun s => ?_⟩ hS)
  rw [if_neg]
  rintro ⟨_, h2⟩
  rw [Array.getD_eq_getD_getElem?, Array.getElem?_replicate] at h2
  split at h2 <;> cases h2
end
end Go.Proofs.Ytmbkmljglajenaa
