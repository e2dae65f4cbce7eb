/-
  A region that draws its order, inside a fence: each of its operations but the last leaves a known value (or is not wanted) in every world that meets S; the last one waits for all others.
-/
import Derived.WalkKit
import Derived.OrdersIn
import Derived.OrdersHeld
import Derived.Test.YtdmdebelcklfhaaProg
namespace Go.Proofs.Ytdmdebelcklfhaa.O2
open Go
set_option linter.unusedVariables false
section
variable {F : Fence} {n : Nat} {P : Program} {ops : Array Oper} {Q : Exit → Act → World → Prop} {S : World → Prop}

/-- What an operation sees: the places ahead of the region's own as they were, and the values of those that it waits for. -/
def Sees (a0 : Act) (base : Nat) (vals : List Value) (o : Oper) (a : Act) : Prop :=
  (∀ s, s < base → a.tmps[s]? = a0.tmps[s]?) ∧ ∀ e ∈ o.after, Region.binds .any e = true → a.tmps[base + e.on]? = vals[e.on]?

/-- One operation leaves its value. -/
def StepOk (F : Fence) (n : Nat) (P : Program) (ops : Array Oper) (Q : Exit → Act → World → Prop) (S : World → Prop) (a0 : Act) (base : Nat) (vals : List Value) (i : Nat) (o : Oper) : Prop :=
  (o.dst = some (base + i) ∧ o.after.all (fun e => decide (e.on < i)) = true) ∧
  ∀ a w v, vals[i]? = some v → S w → Sees a0 base vals o a → if Region.wanted o (yielded ops a.tmps) = true then ∀ K' : Act → World → Prop, (∀ w', S w' → K' (a.put o.dst v) w') → Oper.wpIn F n P o a w K' Q else v = undef

def AllSteps (F : Fence) (n : Nat) (P : Program) (ops : Array Oper) (Q : Exit → Act → World → Prop) (S : World → Prop) (a0 : Act) (base : Nat) (vals : List Value) : Nat → List Oper → Prop
  | _, [] => True
  | k, o :: l => StepOk F n P ops Q S a0 base vals k o ∧ AllSteps F n P ops Q S a0 base vals (k + 1) l

theorem AllSteps.at_ {a0 : Act} {base : Nat} {vals : List Value} : ∀ (l : List Oper) (k i : Nat) (o : Oper), AllSteps F n P ops Q S a0 base vals k l → l[i]? = some o → StepOk F n P ops Q S a0 base vals (k + i) o
  | [], _, _, _, _, h => by simp at h
  | x :: l, k, 0, o, hs, h => by
    simp at h
    subst h
    exact hs.1
  | x :: l, k, i + 1, o, hs, h => by
    have := AllSteps.at_ l (k + 1) i o hs.2 (by simpa using h)
    rw [show k + (i + 1) = k + 1 + i by omega]
    exact this

/-- The frame, with the region's values in their places. -/
def patch (t : Array Value) (base : Nat) (vals : List Value) : Array Value := (t.toList.take base ++ (vals ++ t.toList.drop (base + vals.length))).toArray
theorem patch_at (t : Array Value) (base : Nat) (vals : List Value) (hb : base + vals.length ≤ t.size) (s : Nat) :
    (patch t base vals)[s]? = if base ≤ s ∧ s - base < vals.length then vals[s - base]? else t[s]? := by
  have hlen : (t.toList.take base).length = base := by rw [List.length_take, Array.length_toList]; omega
  unfold patch
  rw [List.getElem?_toArray]
  by_cases h1 : s < base
  · rw [List.getElem?_append_left (by omega), if_neg (by omega), List.getElem?_take_of_lt h1, Array.getElem?_toList]
  · rw [List.getElem?_append_right (by omega), hlen]
    by_cases h2 : s - base < vals.length
    · rw [if_pos ⟨by omega, h2⟩, List.getElem?_append_left h2]
    · rw [if_neg (by omega), List.getElem?_append_right (by omega), List.getElem?_drop, Array.getElem?_toList]
      congr 1
      omega

/-- The frame behind those that have come up. -/
def Known (a0 : Act) (base : Nat) (vals : List Value) (listed : Array Bool) (a : Act) : Prop :=
  a.defers = a0.defers ∧ ∀ s, a.tmps[s]? = if base ≤ s ∧ listed.getD (s - base) false = true then vals[s - base]? else a0.tmps[s]?

/-- The last one waits for all others. -/
def waitsB (o : Oper) (m : Nat) : Bool := (List.range m).all fun i => o.after.any fun e => Region.binds .any e && e.on == i
theorem waits_of {o : Oper} {m : Nat} (h : waitsB o m = true) (i : Nat) (hi : i < m) : ∃ e ∈ o.after, Region.binds .any e = true ∧ e.on = i := by
  have h1 := List.all_eq_true.1 h i (List.mem_range.2 hi)
  obtain ⟨e, he, hb⟩ := Array.any_eq_true'.1 h1
  simp only [Bool.and_eq_true, beq_iff_eq] at hb
  exact ⟨e, he, hb.1, hb.2⟩

theorem done_any (listed : Array Bool) (hl : listed.size = ops.size) (hall : ∀ j, j < listed.size → listed.getD j false = true) (a : Act) (w : World) (hq : Q .normal a w) : ∀ fuel, wpAnyIn F n P .any ops Q fuel listed a w := by
  have hr : Region.ready .any ops listed = [] := by
    rw [List.eq_nil_iff_forall_not_mem]
    intro j hj
    obtain ⟨h0, o, ho, _⟩ := mem_ready.1 hj
    have hlt : j < listed.size := by rw [hl]; exact (Array.getElem?_eq_some_iff.1 ho).1
    have := hall j hlt
    rw [Array.getD_eq_getD_getElem?, Array.getElem?_eq_getElem hlt] at this h0
    simp only [Option.getD_some] at this h0
    rw [this] at h0
    cases h0
  intro fuel
  cases fuel with
  | zero => exact ⟨hr, hq⟩
  | succ fuel => exact ⟨fun _ => hq, fun i hi => by rw [hr] at hi; cases hi⟩

theorem known_any {a0 : Act} {base m : Nat} {vals : List Value} {oL : Oper} (hF : ∀ f, F.fn f) (hm : ops.size = m + 1) (hoL : ops[m]? = some oL) (hw : waitsB oL m = true) (hw2 : oL.after.all (fun e => decide (e.on < m)) = true) (hg : oL.guard = none) (hv : vals.length = m) (hb : base + vals.length ≤ a0.tmps.size)
    (hs : AllSteps F n P ops Q S a0 base vals 0 (ops.toList.take m)) (hQ : ∀ w, S w → Oper.wpIn F n P oL { a0 with tmps := patch a0.tmps base vals } w (fun a' w' => Q .normal a' w') Q) :
    ∀ (fuel : Nat) (listed : Array Bool) (a : Act) (w : World), listed.size = ops.size → listed.getD m true = false → listed.toList.count false ≤ fuel → Known a0 base vals listed a → S w → wpAnyIn F n P .any ops Q fuel listed a w := by
  have at_ : ∀ (j : Nat) (o : Oper), j < m → ops[j]? = some o → StepOk F n P ops Q S a0 base vals j o := fun j o hj ho => by
    have := AllSteps.at_ (ops.toList.take m) 0 j o hs (by rw [List.getElem?_take_of_lt hj, Array.getElem?_toList]; exact ho)
    rwa [Nat.zero_add] at this
  intro fuel
  induction fuel with
  | zero =>
    intro listed a w hl hmf hc hk hS
    exfalso
    rw [Nat.le_zero, List.count_eq_zero] at hc
    apply hc
    have hlt : m < listed.size := by omega
    rw [Array.getD_eq_getD_getElem?, Array.getElem?_eq_getElem hlt] at hmf
    simp only [Option.getD_some] at hmf
    rw [← hmf]
    exact Array.mem_toList_iff.2 (Array.getElem_mem hlt)
  | succ fuel ih =>
    intro listed a w hl hmf hc hk hS
    have hml : m < listed.size := by omega
    refine ⟨fun hr => ?_, fun i hi => ?_⟩
    · exfalso
      have hall : ∀ j, j < m → listed.getD j false = true := by
        intro j
        induction j using Nat.strongRecOn with
        | ind j ihj =>
          intro hj
          cases hb' : listed.getD j false with
          | true => rfl
          | false =>
            have hjo : j < ops.size := by omega
            have hst := at_ j ops[j] hj (Array.getElem?_eq_getElem hjo)
            have hmem : j ∈ Region.ready .any ops listed := by
              refine mem_ready.2 ⟨?_, ops[j], Array.getElem?_eq_getElem hjo, fun e he _ => ?_⟩
              · rw [Array.getD_eq_getD_getElem?, Array.getElem?_eq_getElem (show j < listed.size by omega)] at hb' ⊢
                exact hb'
              · have h2 := hst.1.2
                rw [Array.all_eq_true'] at h2
                have h3 := of_decide_eq_true (h2 e he)
                exact ihj e.on (by omega) (by omega)
            rw [hr] at hmem
            cases hmem
      have hp : ∀ e ∈ oL.after, Region.binds .any e = true → listed.getD e.on false = true := fun e he _ => by
        rw [Array.all_eq_true'] at hw2
        exact hall e.on (of_decide_eq_true (hw2 e he))
      have hmem : m ∈ Region.ready .any ops listed := mem_ready.2 ⟨hmf, oL, hoL, hp⟩
      rw [hr] at hmem
      cases hmem
    · obtain ⟨h0, o, ho, hdep⟩ := mem_ready.1 hi
      have hio : i < ops.size := (Array.getElem?_eq_some_iff.1 ho).1
      have hil : i < listed.size := by omega
      have hli : listed[i] = false := by
        rw [Array.getD_eq_getD_getElem?, Array.getElem?_eq_getElem hil] at h0
        exact h0
      by_cases him : i = m
      · subst him
        rw [hoL] at ho
        cases ho
        have hall : ∀ j, j < i → listed.getD j false = true := fun j hj => by
          obtain ⟨e, he, hbd, rfl⟩ := waits_of hw j hj
          exact hdep e he hbd
        have ea : a = { a0 with tmps := patch a0.tmps base vals } := by
          obtain ⟨t, d⟩ := a
          obtain ⟨k1, k2⟩ := hk
          have ht : t = patch a0.tmps base vals := by
            refine Array.ext_getElem? fun s => ?_
            have := k2 s
            simp only at this
            rw [this, patch_at _ _ _ hb]
            by_cases hcs : base ≤ s ∧ s - base < vals.length
            · rw [if_pos ⟨hcs.1, hall _ (by omega)⟩, if_pos hcs]
            · rw [if_neg hcs, if_neg]
              rintro ⟨c1, c2⟩
              have hge : i ≤ s - base := by omega
              rcases Nat.lt_or_ge (s - base) listed.size with hlt | hlt
              · have hei : s - base = i := by omega
                rw [hei, Array.getD_eq_getD_getElem?, Array.getElem?_eq_getElem hil, hli] at c2
                cases c2
              · rw [Array.getD_eq_getD_getElem?, Array.getElem?_eq_none hlt] at c2
                cases c2
          rw [ht]
          simp only at k1
          rw [k1]
        subst ea
        unfold wpOpIn
        rw [hoL]
        have hwant : Region.wanted oL (yielded ops (patch a0.tmps base vals)) = true := by unfold Region.wanted; rw [hg]
        simp only [hwant, if_true]
        refine Oper.wpIn_mono (fun a' w' hq => ?_) (hQ w hS)
        refine done_any _ (by simp [hl]) (fun j hj => ?_) a' w' hq fuel
        rw [Array.getD_eq_getD_getElem?, Array.getElem?_setIfInBounds]
        by_cases hji : i = j
        · rw [if_pos hji, if_pos hil]; rfl
        · rw [if_neg hji, ← Array.getD_eq_getD_getElem?]
          exact hall j (by simp at hj; omega)
      · have hilt : i < m := by omega
        obtain ⟨⟨hd, hlt⟩, hrun⟩ := at_ i o hilt ho
        obtain ⟨v, hv'⟩ : ∃ v, vals[i]? = some v := ⟨vals[i], List.getElem?_eq_getElem (by omega)⟩
        have hsees : Sees a0 base vals o a := by
          refine ⟨fun s hs' => ?_, fun e he hbd => ?_⟩
          · rw [hk.2 s, if_neg (by omega)]
          · have := hdep e he hbd
            rw [hk.2 (base + e.on), Nat.add_sub_cancel_left, if_pos ⟨by omega, this⟩]
        have hslot : base + i < a.tmps.size := by
          have := hk.2 (base + i)
          rw [if_neg (by rw [Nat.add_sub_cancel_left, Array.getD_eq_getD_getElem?, Array.getElem?_eq_getElem hil, hli]; simp), Array.getElem?_eq_getElem (show base + i < a0.tmps.size by omega)] at this
          rcases Nat.lt_or_ge (base + i) a.tmps.size with h | h
          · exact h
          · rw [Array.getElem?_eq_none h] at this; cases this
        have hnext : ∀ w', S w' → wpAnyIn F n P .any ops Q fuel (listed.setIfInBounds i true) (a.put o.dst v) w' := by
          intro w' hw'
          refine ih _ _ _ (by rw [Array.size_setIfInBounds]; exact hl) ?_ ?_ ?_ hw'
          · rw [Array.getD_eq_getD_getElem?, Array.getElem?_setIfInBounds, if_neg him, ← Array.getD_eq_getD_getElem?]; exact hmf
          · rw [Array.toList_setIfInBounds, List.count_set (by rw [Array.length_toList]; exact hil), Array.getElem_toList, hli]
            show listed.toList.count false - 1 + 0 ≤ fuel
            omega
          · refine ⟨by rw [hd]; exact hk.1, fun s => ?_⟩
            rw [hd]
            show (a.tmps.setIfInBounds (base + i) v)[s]? = _
            rw [Array.getElem?_setIfInBounds]
            by_cases hsi : base + i = s
            · subst hsi
              rw [if_pos rfl, if_pos hslot, Nat.add_sub_cancel_left, if_pos ⟨by omega, by rw [Array.getD_eq_getD_getElem?, Array.getElem?_setIfInBounds, if_pos rfl, if_pos hil]; rfl⟩, hv']
            · rw [if_neg hsi, hk.2 s]
              by_cases hbs : base ≤ s
              · have e1 : (listed.setIfInBounds i true).getD (s - base) false = listed.getD (s - base) false := by
                  rw [Array.getD_eq_getD_getElem?, Array.getElem?_setIfInBounds, if_neg (by omega), ← Array.getD_eq_getD_getElem?]
                rw [e1]
              · rw [if_neg (by omega), if_neg (by omega)]
        have hgo := hrun a w v hv' hS hsees
        unfold wpOpIn
        rw [ho]
        by_cases hwant : Region.wanted o (yielded ops a.tmps) = true
        · simp only [hwant, if_true] at hgo ⊢
          exact hgo _ hnext
        · simp only [hwant] at hgo ⊢
          have hgo : v = undef := hgo
          rw [hgo] at hnext
          exact ⟨fun f _ => hF f, hnext w hS⟩

/-- A region that draws: the value of every operation but the last is known, and the last one waits for all. -/
theorem region_last {id : Nat} {a0 : Act} {w : World} (m base : Nat) (vals : List Value) (oL : Oper) (S : World → Prop) (hF : ∀ f, F.fn f) (hm : P.follows .mixedOrders = true) (hsz : ops.size = m + 1) (hoL : ops[m]? = some oL) (hw : waitsB oL m = true) (hw2 : oL.after.all (fun e => decide (e.on < m)) = true) (hg : oL.guard = none) (hv : vals.length = m) (hb : base + vals.length ≤ a0.tmps.size)
    (hS : S w.drew) (hs : AllSteps F n P ops Q S a0 base vals 0 (ops.toList.take m)) (hQ : ∀ w, S w → Oper.wpIn F n P oL { a0 with tmps := patch a0.tmps base vals } w (fun a' w' => Q .normal a' w') Q) : (Code.region id ops true).wpIn F n P Q a0 w := by
  refine wpIn_region_any hm (known_any hF hsz hoL hw hw2 hg hv hb hs hQ _ _ _ _ (by simp) ?_ (by simp) ⟨rfl, fun s => ?_⟩ hS)
  · rw [Array.getD_eq_getD_getElem?, Array.getElem?_replicate, if_pos (by omega)]; rfl
  · rw [if_neg]
    rintro ⟨_, h2⟩
    rw [Array.getD_eq_getD_getElem?, Array.getElem?_replicate] at h2
    split at h2 <;> cases h2
end
end Go.Proofs.Ytdmdebelcklfhaa.O2
