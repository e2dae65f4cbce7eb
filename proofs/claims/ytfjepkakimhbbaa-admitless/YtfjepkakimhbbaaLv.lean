/-
  Drawn regions in rounds and outside, with a last operation; ways to leave; counters.
-/
import Derived.Sort.QuietIn
import Derived.RangeFuncCalls
import Derived.Test.YtfjepkakimhbbaaProg
import Derived.WalkKit
import Derived.OrdersIn
import Derived.OrdersHeld
import Derived.Shelf.SlSortCmp.QuietGrown
import Derived.Test.YtfjepkakimhbbaaHpB
import Derived.Test.YtfjepkakimhbbaaRng
/-! A drawn region that only reads, walked inside a round of a range over a function: one walk of its text's order serves every order there too, as long as nothing in it is deferred. -/
namespace Go.Proofs.Ytfjepkakimhbbaa
open Go
set_option linter.unusedVariables false

section
variable {F : Fence} {n : Nat} {P : Program} {ops : Array Oper} {md : Region.Mode} {C : World → Prop}

/-- Nothing is deferred. -/
def NoDefer (ops : Array Oper) : Prop := ∀ (i : Nat) (o : Oper), ops[i]? = some o → ∀ c, o.op ≠ .defer c
def noDeferB (l : List Oper) : Bool := l.all fun o => match o.op with | .defer _ => false | _ => true
theorem noDefer_of {l : List Oper} (h : noDeferB l = true) : NoDefer l.toArray := by
  intro i o ho c e
  have hm : o ∈ l := by
    rw [List.getElem?_toArray] at ho
    exact List.mem_of_getElem? ho
  have := (List.all_eq_true.1 h) o hm
  rw [e] at this
  cases this

theorem oper_of_quiet {o : Oper} {a : Act} {K : Act → Prop} {K' : Act → World → Prop} {Q' : Exit → Act → World → Prop} {w : World} (l : Nat) (hnd : ∀ c, o.op ≠ .defer c) (hw : C w) (h : ∀ a w', C w' → K a → K' a w')
    (ha : o.askedIn F P a C) (hh : o.quietIn F n P a C K) : o.wpIn (F.inRound l) n P a w K' Q' := by
  obtain ⟨v, h1, h2⟩ := hh
  have h3 := h1 w hw
  unfold Oper.quietAtIn at h3
  unfold Oper.wpIn
  refine ⟨ha w hw, ?_⟩
  rw [Oper.semAt_eq _ _ _ hnd]
  generalize (execOp a.eval o).run P w = r at *
  cases r with
  | ok x w' =>
    cases x <;> simp only [Oper.quietUponIn] at h3 <;> simp only [Oper.uponIn]
    case value u =>
      obtain ⟨e1, e2⟩ := h3
      rw [e1, e2]
      exact h _ _ hw h2
    case skip =>
      obtain ⟨e1, e2⟩ := h3
      rw [e1, ← e2]
      exact h _ _ hw h2
    case enter f args =>
      obtain ⟨e1, hd, hc⟩ := h3
      rw [e1]
      exact ⟨hd, (CallsIn.inRound l hc).mono fun e w'' ⟨he, hw''⟩ => by subst he; exact h _ _ hw'' h2⟩
  | halt x w' => simp only [Oper.quietUponIn] at h3

theorem op_of_quiet {i : Nat} {a : Act} {K : Act → Prop} {K' : Act → World → Prop} {Q' : Exit → Act → World → Prop} {w : World} (l : Nat) (hnd : NoDefer ops) (hC : C w) (h : ∀ a w', C w' → K a → K' a w')
    (hh : qOpIn F n P ops C i K a) : wpOpIn (F.inRound l) n P ops Q' i K' a w := by
  unfold qOpIn at hh
  unfold wpOpIn
  split
  · rename_i ho; simp only [ho] at hh; exact h _ _ hC hh
  · rename_i o ho
    simp only [ho] at hh
    obtain ⟨ha, hh⟩ := hh
    split
    · rename_i hw; simp only [hw, if_true] at hh; exact oper_of_quiet l (hnd i o ho) hC h ha hh
    · rename_i hw; simp only [hw] at hh; exact ⟨ha w hC, h _ _ hC hh⟩

theorem any_of_quiet {Q : Act → Prop} {Q' : Exit → Act → World → Prop} (l : Nat) (hnd : NoDefer ops) (hQ : ∀ a w, C w → Q a → Q' .normal a w) : ∀ (fuel : Nat) (listed : Array Bool) (a : Act) (w : World), C w →
    wpAnyQIn F n P md ops C Q fuel listed a → wpAnyIn (F.inRound l) n P md ops Q' fuel listed a w
  | 0, _, _, _, hw, h => ⟨h.1, hQ _ _ hw h.2⟩
  | fuel + 1, _, _, _, hw, h => ⟨fun h0 => hQ _ _ hw (h.1 h0), fun i hi => op_of_quiet l hnd hw (fun a' w' hw' => any_of_quiet l hnd hQ fuel _ a' w' hw') (h.2 i hi)⟩

theorem region_quiet_round {id : Nat} {Q : Exit → Act → World → Prop} {a : Act} {w : World} (l : Nat) (hnd : NoDefer ops) (hm : P.follows .mixedOrders = true) (hB : Region.lexB .any ops = true) (hC : C { w with drawn := w.drawn + 1 })
    (h : wpQuietIn F n P ops C (fun a' => ∀ w', C w' → Q .normal a' w') ops.toList a) : (Code.region id ops true).wpIn (F.inRound l) n P Q a w := by
  simp only [Region.lexB, Bool.and_eq_true] at hB
  refine wpIn_region_any hm (any_of_quiet (Q := fun a' => ∀ w', C w' → Q .normal a' w') l hnd (fun _ w' hw' h => h w' hw') _ _ _ _ hC ?_)
  have := wpAnyQIn_lex (F := F) (n := n) (C := C) (md := .any) hB.1 ops.toList 0 (Array.replicate ops.size false) a (by simp) (by simpa using hB.2) h
  simpa using this

theorem region_quiet_round_lit {id : Nat} {Q : Exit → Act → World → Prop} {a : Act} {w : World} {os : List Oper} (l : Nat) (hnd : noDeferB os = true) (hm : P.follows .mixedOrders = true) (hB : Region.lexB .any os.toArray = true)
    (h : wpQuietIn F n P os.toArray (fun w' => ∃ n, w' = w.drewN n) (fun a' => ∀ w', (∃ n, w' = w.drewN n) → Q .normal a' w') os a) : (Code.region id os.toArray true).wpIn (F.inRound l) n P Q a w :=
  region_quiet_round (C := fun w' => ∃ n, w' = w.drewN n) l (noDefer_of hnd) hm hB ⟨1, rfl⟩ (by simpa using h)
end
end Go.Proofs.Ytfjepkakimhbbaa

/-! A region that draws its order, inside a fence: each of its operations but the last leaves a known value (or is not wanted) in every world that meets S; the last one waits for all others. -/
namespace Go.Proofs.Ytfjepkakimhbbaa.O2
open Go
set_option linter.unusedVariables false
section
variable {F : Fence} {n : Nat} {P : Program} {ops : Array Oper} {Q : Exit → Act → World → Prop} {S : World → Prop}

/-- What an operation sees: the places ahead of the region's own as they were, and the values of those that it waits for. -/
def Sees (a0 : Act) (base : Nat) (vals : List Value) (o : Oper) (a : Act) : Prop :=
  (∀ s, s < base → a.tmps[s]? = a0.tmps[s]?) ∧ ∀ e ∈ o.after, Region.binds .any e = true → a.tmps[base + e.on]? = vals[e.on]?

/-- One operation leaves its value. -/
def StepOk (F : Fence) (n : Nat) (P : Program) (ops : Array Oper) (Q : Exit → Act → World → Prop) (S : World → Prop) (a0 : Act) (base : Nat) (vals : List Value) (i : Nat) (o : Oper) : Prop :=
  (o.dst = some (base + i) ∧ o.after.all (fun e => decide (e.on < i)) = true) ∧
  ∀ a w v, vals[i]? = some v → S w → Sees a0 base vals o a → if Region.wanted o (yielded ops a.tmps) = true then ∀ K' : Act → World → Prop, (∀ w', S w' → K' (a.put o.dst v) w') → Oper.wpIn F n P o a w K' Q else v = undef

def AllSteps (F : Fence) (n : Nat) (P : Program) (ops : Array Oper) (Q : Exit → Act → World → Prop) (S : World → Prop) (a0 : Act) (base : Nat) (vals : List Value) : Nat → List Oper → Prop
  | _, [] => True
  | k, o :: l => StepOk F n P ops Q S a0 base vals k o ∧ AllSteps F n P ops Q S a0 base vals (k + 1) l

theorem AllSteps.at_ {a0 : Act} {base : Nat} {vals : List Value} : ∀ (l : List Oper) (k i : Nat) (o : Oper), AllSteps F n P ops Q S a0 base vals k l → l[i]? = some o → StepOk F n P ops Q S a0 base vals (k + i) o
  | [], _, _, _, _, h => by simp at h
  | x :: l, k, 0, o, hs, h => by
    simp at h
    subst h
    exact hs.1
  | x :: l, k, i + 1, o, hs, h => by
    have := AllSteps.at_ l (k + 1) i o hs.2 (by simpa using h)
    rw [show k + (i + 1) = k + 1 + i by omega]
    exact this

/-- The frame, with the region's values in their places. -/
def patch (t : Array Value) (base : Nat) (vals : List Value) : Array Value := (t.toList.take base ++ (vals ++ t.toList.drop (base + vals.length))).toArray
theorem patch_at (t : Array Value) (base : Nat) (vals : List Value) (hb : base + vals.length ≤ t.size) (s : Nat) :
    (patch t base vals)[s]? = if base ≤ s ∧ s - base < vals.length then vals[s - base]? else t[s]? := by
  have hlen : (t.toList.take base).length = base := by rw [List.length_take, Array.length_toList]; omega
  unfold patch
  rw [List.getElem?_toArray]
  by_cases h1 : s < base
  · rw [List.getElem?_append_left (by omega), if_neg (by omega), List.getElem?_take_of_lt h1, Array.getElem?_toList]
  · rw [List.getElem?_append_right (by omega), hlen]
    by_cases h2 : s - base < vals.length
    · rw [if_pos ⟨by omega, h2⟩, List.getElem?_append_left h2]
    · rw [if_neg (by omega), List.getElem?_append_right (by omega), List.getElem?_drop, Array.getElem?_toList]
      congr 1
      omega

/-- The frame behind those that have come up. -/
def Known (a0 : Act) (base : Nat) (vals : List Value) (listed : Array Bool) (a : Act) : Prop :=
  a.defers = a0.defers ∧ ∀ s, a.tmps[s]? = if base ≤ s ∧ listed.getD (s - base) false = true then vals[s - base]? else a0.tmps[s]?

/-- The last one waits for all others. -/
def waitsB (o : Oper) (m : Nat) : Bool := (List.range m).all fun i => o.after.any fun e => Region.binds .any e && e.on == i
/-- .. or for one that does, and so on. -/
def sinkB (init : Array Oper) (o : Oper) : Bool := (List.range init.size).all fun i => (o.after.any fun e => Region.binds .any e && e.on == i) || (List.range init.size).any fun j => decide (i < j) && (match init[j]? with | some oj => oj.after.any (fun e => Region.binds .any e && e.on == i) | none => false)
theorem sink_of {init : Array Oper} {o : Oper} (h : sinkB init o = true) (i : Nat) (hi : i < init.size) : (∃ e ∈ o.after, Region.binds .any e = true ∧ e.on = i) ∨ ∃ j oj, i < j ∧ init[j]? = some oj ∧ ∃ e ∈ oj.after, Region.binds .any e = true ∧ e.on = i := by
  have h1 := List.all_eq_true.1 h i (List.mem_range.2 hi)
  simp only [Bool.or_eq_true] at h1
  rcases h1 with h1 | h1
  · obtain ⟨e, he, hb⟩ := Array.any_eq_true'.1 h1
    simp only [Bool.and_eq_true, beq_iff_eq] at hb
    exact .inl ⟨e, he, hb.1, hb.2⟩
  · obtain ⟨j, hj, hb⟩ := List.any_eq_true.1 h1
    simp only [Bool.and_eq_true, decide_eq_true_eq] at hb
    obtain ⟨hij, hb⟩ := hb
    cases hj' : init[j]? with
    | none => rw [hj'] at hb; cases hb
    | some oj =>
      rw [hj'] at hb
      obtain ⟨e, he, hb⟩ := Array.any_eq_true'.1 hb
      simp only [Bool.and_eq_true, beq_iff_eq] at hb
      exact .inr ⟨j, oj, hij, hj', e, he, hb.1, hb.2⟩
/-- What has come up has nothing left to wait for. -/
def Closed (init : Array Oper) (listed : Array Bool) : Prop := ∀ k o, init[k]? = some o → listed.getD k false = true → ∀ e ∈ o.after, Region.binds .any e = true → listed.getD e.on false = true
theorem sink_all {init : Array Oper} {o : Oper} (h : sinkB init o = true) {listed : Array Bool} (hc : Closed init listed) (hd : ∀ e ∈ o.after, Region.binds .any e = true → listed.getD e.on false = true) : ∀ (d i : Nat), init.size - i = d → i < init.size → listed.getD i false = true := by
  intro d
  induction d using Nat.strongRecOn with
  | ind d ih =>
    intro i hid hi
    rcases sink_of h i hi with ⟨e, he, hb, rfl⟩ | ⟨j, oj, hij, hj, e, he, hb, rfl⟩
    · exact hd e he hb
    · have hjl : j < init.size := (Array.getElem?_eq_some_iff.1 hj).1
      exact hc j oj hj (ih (init.size - j) (by omega) j rfl hjl) e he hb
theorem Closed.set {init : Array Oper} {listed : Array Bool} (hc : Closed init listed) {i : Nat} (hi : i ∈ Region.ready .any init listed) : Closed init (listed.setIfInBounds i true) := by
  obtain ⟨_, oi, hoi, hdep⟩ := mem_ready.1 hi
  have up : ∀ j, listed.getD j false = true → (listed.setIfInBounds i true).getD j false = true := fun j hj => by
    rw [Array.getD_eq_getD_getElem?] at hj ⊢
    rw [Array.getElem?_setIfInBounds]
    by_cases e : i = j
    · subst e
      rcases Nat.lt_or_ge i listed.size with h | h
      · rw [if_pos rfl, if_pos h]; rfl
      · rw [Array.getElem?_eq_none h] at hj; cases hj
    · rw [if_neg e]; exact hj
  intro k o ho hk e he hb
  by_cases hik : i = k
  · subst hik
    rw [hoi] at ho
    cases ho
    exact up _ (hdep e he hb)
  · refine up _ (hc k o ho ?_ e he hb)
    rw [Array.getD_eq_getD_getElem?, Array.getElem?_setIfInBounds, if_neg hik, ← Array.getD_eq_getD_getElem?] at hk
    exact hk
theorem closed_none (init : Array Oper) (m : Nat) : Closed init (Array.replicate m false) := fun k o ho hk => by
  rw [Array.getD_eq_getD_getElem?, Array.getElem?_replicate] at hk
  split at hk <;> cases hk
theorem waits_of {o : Oper} {m : Nat} (h : waitsB o m = true) (i : Nat) (hi : i < m) : ∃ e ∈ o.after, Region.binds .any e = true ∧ e.on = i := by
  have h1 := List.all_eq_true.1 h i (List.mem_range.2 hi)
  obtain ⟨e, he, hb⟩ := Array.any_eq_true'.1 h1
  simp only [Bool.and_eq_true, beq_iff_eq] at hb
  exact ⟨e, he, hb.1, hb.2⟩

theorem done_any (listed : Array Bool) (hl : listed.size = ops.size) (hall : ∀ j, j < listed.size → listed.getD j false = true) (a : Act) (w : World) (hq : Q .normal a w) : ∀ fuel, wpAnyIn F n P .any ops Q fuel listed a w := by
  have hr : Region.ready .any ops listed = [] := by
    rw [List.eq_nil_iff_forall_not_mem]
    intro j hj
    obtain ⟨h0, o, ho, _⟩ := mem_ready.1 hj
    have hlt : j < listed.size := by rw [hl]; exact (Array.getElem?_eq_some_iff.1 ho).1
    have := hall j hlt
    rw [Array.getD_eq_getD_getElem?, Array.getElem?_eq_getElem hlt] at this h0
    simp only [Option.getD_some] at this h0
    rw [this] at h0
    cases h0
  intro fuel
  cases fuel with
  | zero => exact ⟨hr, hq⟩
  | succ fuel => exact ⟨fun _ => hq, fun i hi => by rw [hr] at hi; cases hi⟩

theorem known_any {a0 : Act} {base m : Nat} {vals : List Value} {oL : Oper} (hF : ∀ f, F.fn f) (hm : ops.size = m + 1) (hoL : ops[m]? = some oL) (hw : waitsB oL m = true) (hw2 : oL.after.all (fun e => decide (e.on < m)) = true) (hg : oL.guard = none) (hv : vals.length = m) (hb : base + vals.length ≤ a0.tmps.size)
    (hs : AllSteps F n P ops Q S a0 base vals 0 (ops.toList.take m)) (hQ : ∀ w, S w → Oper.wpIn F n P oL { a0 with tmps := patch a0.tmps base vals } w (fun a' w' => Q .normal a' w') Q) :
    ∀ (fuel : Nat) (listed : Array Bool) (a : Act) (w : World), listed.size = ops.size → listed.getD m true = false → listed.toList.count false ≤ fuel → Known a0 base vals listed a → S w → wpAnyIn F n P .any ops Q fuel listed a w := by
  have at_ : ∀ (j : Nat) (o : Oper), j < m → ops[j]? = some o → StepOk F n P ops Q S a0 base vals j o := fun j o hj ho => by
    have := AllSteps.at_ (ops.toList.take m) 0 j o hs (by rw [List.getElem?_take_of_lt hj, Array.getElem?_toList]; exact ho)
    rwa [Nat.zero_add] at this
  intro fuel
  induction fuel with
  | zero =>
    intro listed a w hl hmf hc hk hS
    exfalso
    rw [Nat.le_zero, List.count_eq_zero] at hc
    apply hc
    have hlt : m < listed.size := by omega
    rw [Array.getD_eq_getD_getElem?, Array.getElem?_eq_getElem hlt] at hmf
    simp only [Option.getD_some] at hmf
    rw [← hmf]
    exact Array.mem_toList_iff.2 (Array.getElem_mem hlt)
  | succ fuel ih =>
    intro listed a w hl hmf hc hk hS
    have hml : m < listed.size := by omega
    refine ⟨fun hr => ?_, fun i hi => ?_⟩
    · exfalso
      have hall : ∀ j, j < m → listed.getD j false = true := by
        intro j
        induction j using Nat.strongRecOn with
        | ind j ihj =>
          intro hj
          cases hb' : listed.getD j false with
          | true => rfl
          | false =>
            have hjo : j < ops.size := by omega
            have hst := at_ j ops[j] hj (Array.getElem?_eq_getElem hjo)
            have hmem : j ∈ Region.ready .any ops listed := by
              refine mem_ready.2 ⟨?_, ops[j], Array.getElem?_eq_getElem hjo, fun e he _ => ?_⟩
              · rw [Array.getD_eq_getD_getElem?, Array.getElem?_eq_getElem (show j < listed.size by omega)] at hb' ⊢
                exact hb'
              · have h2 := hst.1.2
                rw [Array.all_eq_true'] at h2
                have h3 := of_decide_eq_true (h2 e he)
                exact ihj e.on (by omega) (by omega)
            rw [hr] at hmem
            cases hmem
      have hp : ∀ e ∈ oL.after, Region.binds .any e = true → listed.getD e.on false = true := fun e he _ => by
        rw [Array.all_eq_true'] at hw2
        exact hall e.on (of_decide_eq_true (hw2 e he))
      have hmem : m ∈ Region.ready .any ops listed := mem_ready.2 ⟨hmf, oL, hoL, hp⟩
      rw [hr] at hmem
      cases hmem
    · obtain ⟨h0, o, ho, hdep⟩ := mem_ready.1 hi
      have hio : i < ops.size := (Array.getElem?_eq_some_iff.1 ho).1
      have hil : i < listed.size := by omega
      have hli : listed[i] = false := by
        rw [Array.getD_eq_getD_getElem?, Array.getElem?_eq_getElem hil] at h0
        exact h0
      by_cases him : i = m
      · subst him
        rw [hoL] at ho
        cases ho
        have hall : ∀ j, j < i → listed.getD j false = true := fun j hj => by
          obtain ⟨e, he, hbd, rfl⟩ := waits_of hw j hj
          exact hdep e he hbd
        have ea : a = { a0 with tmps := patch a0.tmps base vals } := by
          obtain ⟨t, d⟩ := a
          obtain ⟨k1, k2⟩ := hk
          have ht : t = patch a0.tmps base vals := by
            refine Array.ext_getElem? fun s => ?_
            have := k2 s
            simp only at this
            rw [this, patch_at _ _ _ hb]
            by_cases hcs : base ≤ s ∧ s - base < vals.length
            · rw [if_pos ⟨hcs.1, hall _ (by omega)⟩, if_pos hcs]
            · rw [if_neg hcs, if_neg]
              rintro ⟨c1, c2⟩
              have hge : i ≤ s - base := by omega
              rcases Nat.lt_or_ge (s - base) listed.size with hlt | hlt
              · have hei : s - base = i := by omega
                rw [hei, Array.getD_eq_getD_getElem?, Array.getElem?_eq_getElem hil, hli] at c2
                cases c2
              · rw [Array.getD_eq_getD_getElem?, Array.getElem?_eq_none hlt] at c2
                cases c2
          rw [ht]
          simp only at k1
          rw [k1]
        subst ea
        unfold wpOpIn
        rw [hoL]
        have hwant : Region.wanted oL (yielded ops (patch a0.tmps base vals)) = true := by unfold Region.wanted; rw [hg]
        simp only [hwant, if_true]
        refine Oper.wpIn_mono (fun a' w' hq => ?_) (hQ w hS)
        refine done_any _ (by simp [hl]) (fun j hj => ?_) a' w' hq fuel
        rw [Array.getD_eq_getD_getElem?, Array.getElem?_setIfInBounds]
        by_cases hji : i = j
        · rw [if_pos hji, if_pos hil]; rfl
        · rw [if_neg hji, ← Array.getD_eq_getD_getElem?]
          exact hall j (by simp at hj; omega)
      · have hilt : i < m := by omega
        obtain ⟨⟨hd, hlt⟩, hrun⟩ := at_ i o hilt ho
        obtain ⟨v, hv'⟩ : ∃ v, vals[i]? = some v := ⟨vals[i], List.getElem?_eq_getElem (by omega)⟩
        have hsees : Sees a0 base vals o a := by
          refine ⟨fun s hs' => ?_, fun e he hbd => ?_⟩
          · rw [hk.2 s, if_neg (by omega)]
          · have := hdep e he hbd
            rw [hk.2 (base + e.on), Nat.add_sub_cancel_left, if_pos ⟨by omega, this⟩]
        have hslot : base + i < a.tmps.size := by
          have := hk.2 (base + i)
          rw [if_neg (by rw [Nat.add_sub_cancel_left, Array.getD_eq_getD_getElem?, Array.getElem?_eq_getElem hil, hli]; simp), Array.getElem?_eq_getElem (show base + i < a0.tmps.size by omega)] at this
          rcases Nat.lt_or_ge (base + i) a.tmps.size with h | h
          · exact h
          · rw [Array.getElem?_eq_none h] at this; cases this
        have hnext : ∀ w', S w' → wpAnyIn F n P .any ops Q fuel (listed.setIfInBounds i true) (a.put o.dst v) w' := by
          intro w' hw'
          refine ih _ _ _ (by rw [Array.size_setIfInBounds]; exact hl) ?_ ?_ ?_ hw'
          · rw [Array.getD_eq_getD_getElem?, Array.getElem?_setIfInBounds, if_neg him, ← Array.getD_eq_getD_getElem?]; exact hmf
          · rw [Array.toList_setIfInBounds, List.count_set (by rw [Array.length_toList]; exact hil), Array.getElem_toList, hli]
            show listed.toList.count false - 1 + 0 ≤ fuel
            omega
          · refine ⟨by rw [hd]; exact hk.1, fun s => ?_⟩
            rw [hd]
            show (a.tmps.setIfInBounds (base + i) v)[s]? = _
            rw [Array.getElem?_setIfInBounds]
            by_cases hsi : base + i = s
            · subst hsi
              rw [if_pos rfl, if_pos hslot, Nat.add_sub_cancel_left, if_pos ⟨by omega, by rw [Array.getD_eq_getD_getElem?, Array.getElem?_setIfInBounds, if_pos rfl, if_pos hil]; rfl⟩, hv']
            · rw [if_neg hsi, hk.2 s]
              by_cases hbs : base ≤ s
              · have e1 : (listed.setIfInBounds i true).getD (s - base) false = listed.getD (s - base) false := by
                  rw [Array.getD_eq_getD_getElem?, Array.getElem?_setIfInBounds, if_neg (by omega), ← Array.getD_eq_getD_getElem?]
                rw [e1]
              · rw [if_neg (by omega), if_neg (by omega)]
        have hgo := hrun a w v hv' hS hsees
        unfold wpOpIn
        rw [ho]
        by_cases hwant : Region.wanted o (yielded ops a.tmps) = true
        · simp only [hwant, if_true] at hgo ⊢
          exact hgo _ hnext
        · simp only [hwant] at hgo ⊢
          have hgo : v = undef := hgo
          rw [hgo] at hnext
          exact ⟨fun f _ => hF f, hnext w hS⟩

/-- A region that draws: the value of every operation but the last is known, and the last one waits for all. -/
theorem region_last {id : Nat} {a0 : Act} {w : World} (m base : Nat) (vals : List Value) (oL : Oper) (S : World → Prop) (hF : ∀ f, F.fn f) (hm : P.follows .mixedOrders = true) (hsz : ops.size = m + 1) (hoL : ops[m]? = some oL) (hw : waitsB oL m = true) (hw2 : oL.after.all (fun e => decide (e.on < m)) = true) (hg : oL.guard = none) (hv : vals.length = m) (hb : base + vals.length ≤ a0.tmps.size)
    (hS : S w.drew) (hs : AllSteps F n P ops Q S a0 base vals 0 (ops.toList.take m)) (hQ : ∀ w, S w → Oper.wpIn F n P oL { a0 with tmps := patch a0.tmps base vals } w (fun a' w' => Q .normal a' w') Q) : (Code.region id ops true).wpIn F n P Q a0 w := by
  refine wpIn_region_any hm (known_any hF hsz hoL hw hw2 hg hv hb hs hQ _ _ _ _ (by simp) ?_ (by simp) ⟨rfl, fun s => ?_⟩ hS)
  · rw [Array.getD_eq_getD_getElem?, Array.getElem?_replicate, if_pos (by omega)]; rfl
  · rw [if_neg]
    rintro ⟨_, h2⟩
    rw [Array.getD_eq_getD_getElem?, Array.getElem?_replicate] at h2
    split at h2 <;> cases h2
end
end Go.Proofs.Ytfjepkakimhbbaa.O2

/-! A drawn region whose last operation waits for all others, inside a fence: the others are walked as if they were the region, the last one behind them. -/
namespace Go.Proofs.Ytfjepkakimhbbaa
open Go
set_option linter.unusedVariables false

section
variable {F : Fence} {n : Nat} {P : Program} {init : Array Oper} {oL : Oper} {Q : Exit → Act → World → Prop} {C : World → Prop}

/-- Behind the others: the last one. -/
def lastQ (F : Fence) (n : Nat) (P : Program) (oL : Oper) (Q : Exit → Act → World → Prop) : Exit → Act → World → Prop
  | .normal, a, w => Oper.wpIn F n P oL a w (fun a' w' => Q .normal a' w') Q
  | e, a, w => Q e a w

/-- Each waits for elder ones alone, and its guard is an elder one. -/
def elderB (init : Array Oper) : Bool := (List.range init.size).all fun i => match init[i]? with
  | some o => o.after.all (fun e => decide (e.on < i)) && (match o.guard with | some (j, _) => decide (j < init.size) | none => true)
  | none => true
theorem elder_of (h : elderB init = true) (i : Nat) (o : Oper) (ho : init[i]? = some o) : (∀ e ∈ o.after, e.on < i) ∧ ∀ j b, o.guard = some (j, b) → j < init.size := by
  have hi : i < init.size := (Array.getElem?_eq_some_iff.1 ho).1
  have h1 := List.all_eq_true.1 h i (List.mem_range.2 hi)
  simp only [ho, Bool.and_eq_true] at h1
  refine ⟨fun e he => ?_, fun j b hg => ?_⟩
  · have := h1.1
    rw [Array.all_eq_true'] at this
    exact of_decide_eq_true (this e he)
  · have := h1.2
    rw [hg] at this
    exact of_decide_eq_true this

theorem yielded_push (t : Array Value) {j : Nat} (hj : j < init.size) : yielded (init.push oL) t j = yielded init t j := by
  unfold yielded
  rw [Array.getElem?_push_lt hj, Array.getElem?_eq_getElem hj]
theorem wanted_push (h : elderB init = true) {i : Nat} {o : Oper} (ho : init[i]? = some o) (t : Array Value) : Region.wanted o (yielded (init.push oL) t) = Region.wanted o (yielded init t) := by
  unfold Region.wanted
  cases hg : o.guard with
  | none => rfl
  | some jb =>
    obtain ⟨j, b⟩ := jb
    simp only []
    rw [yielded_push t ((elder_of h i o ho).2 j b hg)]

theorem oper_lastQ {o : Oper} {a : Act} {w : World} {K K' : Act → World → Prop} (h : ∀ a w, K a w → K' a w) (hh : o.wpIn F n P a w K (lastQ F n P oL Q)) : o.wpIn F n P a w K' Q := by
  have h1 := Oper.wpIn_mono h hh
  unfold Oper.wpIn at *
  refine ⟨h1.1, ?_⟩
  have h2 := h1.2
  generalize (o.semAt F.round a.eval).run P w = r at *
  cases r with
  | ok x w' => cases x <;> exact h2
  | halt x w' => cases x <;> exact h2

theorem getD_push_lt {listed : Array Bool} {j : Nat} (d : Bool) (hj : j < listed.size) : (listed.push false).getD j d = listed.getD j d := by
  rw [Array.getD_eq_getD_getElem?, Array.getElem?_push_lt hj, Array.getD_eq_getD_getElem?, Array.getElem?_eq_getElem hj]

theorem ready_nil (h : elderB init = true) {listed : Array Bool} (hl : listed.size = init.size) (hr : Region.ready .any init listed = []) : ∀ j, j < init.size → listed.getD j false = true := by
  intro j
  induction j using Nat.strongRecOn with
  | ind j ihj =>
    intro hj
    cases hb' : listed.getD j false with
    | true => rfl
    | false =>
      have hmem : j ∈ Region.ready .any init listed := by
        refine mem_ready.2 ⟨?_, init[j], Array.getElem?_eq_getElem hj, fun e he _ => ?_⟩
        · rw [Array.getD_eq_getD_getElem?, Array.getElem?_eq_getElem (show j < listed.size by omega)] at hb' ⊢
          exact hb'
        · have := (elder_of h j _ (Array.getElem?_eq_getElem hj)).1 e he
          exact ihj e.on this (by omega)
      rw [hr] at hmem
      cases hmem
theorem nil_ready {listed : Array Bool} (hl : listed.size = init.size) (hall : ∀ j, j < init.size → listed.getD j false = true) : Region.ready .any init listed = [] := by
  rw [List.eq_nil_iff_forall_not_mem]
  intro j hj
  obtain ⟨h0, o, ho, _⟩ := mem_ready.1 hj
  have hlt : j < init.size := (Array.getElem?_eq_some_iff.1 ho).1
  have := hall j hlt
  rw [Array.getD_eq_getD_getElem?, Array.getElem?_eq_getElem (show j < listed.size by omega)] at this h0
  simp only [Option.getD_some] at this h0
  rw [this] at h0
  cases h0

theorem snoc_any (he : elderB init = true) (hw : O2.sinkB init oL = true) (hw2 : oL.after.all (fun e => decide (e.on < init.size)) = true) (hg : oL.guard = none) : ∀ (fuel : Nat) (listed : Array Bool) (a : Act) (w : World), listed.size = init.size → O2.Closed init listed →
    wpAnyIn F n P .any init (lastQ F n P oL Q) fuel listed a w → wpAnyIn F n P .any (init.push oL) Q (fuel + 1) (listed.push false) a w := by
  have hoL : (init.push oL)[init.size]? = some oL := by simp
  have lastly : ∀ (fuel : Nat) (listed : Array Bool) (a : Act) (w : World), listed.size = init.size → (∀ j, j < init.size → listed.getD j false = true) → lastQ F n P oL Q .normal a w →
      wpOpIn F n P (init.push oL) Q init.size (wpAnyIn F n P .any (init.push oL) Q fuel ((listed.push false).setIfInBounds init.size true)) a w := fun fuel listed a w hl hall hq => by
    unfold wpOpIn
    rw [hoL]
    have hwant : Region.wanted oL (yielded (init.push oL) a.tmps) = true := by unfold Region.wanted; rw [hg]
    simp only [hwant, if_true]
    refine Oper.wpIn_mono (fun a' w' hq' => ?_) hq
    refine O2.done_any _ (by simp [hl]) (fun j hj => ?_) a' w' hq' fuel
    rw [Array.getD_eq_getD_getElem?, Array.getElem?_setIfInBounds]
    by_cases hji : init.size = j
    · rw [if_pos hji, if_pos (by simp; omega)]; rfl
    · rw [if_neg hji, ← Array.getD_eq_getD_getElem?, getD_push_lt _ (by simp at hj; omega)]
      exact hall j (by simp at hj; omega)
  have lastReady : ∀ (listed : Array Bool), listed.size = init.size → (∀ j, j < init.size → listed.getD j false = true) → init.size ∈ Region.ready .any (init.push oL) (listed.push false) := fun listed hl hall => by
    refine mem_ready.2 ⟨?_, oL, hoL, fun e he' _ => ?_⟩
    · rw [Array.getD_eq_getD_getElem?, ← hl, Array.getElem?_push_size]; rfl
    · rw [Array.all_eq_true'] at hw2
      have := of_decide_eq_true (hw2 e he')
      rw [getD_push_lt _ (by omega)]
      exact hall _ this
  have elder : ∀ (listed : Array Bool) (i : Nat), listed.size = init.size → O2.Closed init listed → i ∈ Region.ready .any (init.push oL) (listed.push false) → i < init.size ∧ i ∈ Region.ready .any init listed ∨ i = init.size ∧ ∀ j, j < init.size → listed.getD j false = true := fun listed i hl hcl hi => by
    obtain ⟨h0, o, ho, hdep⟩ := mem_ready.1 hi
    have hio : i < init.size + 1 := by have := (Array.getElem?_eq_some_iff.1 ho).1; simpa using this
    by_cases him : i = init.size
    · subst him
      rw [hoL] at ho
      cases ho
      refine .inr ⟨rfl, fun j hj => O2.sink_all hw hcl (fun e he' hbd => ?_) _ j rfl hj⟩
      rw [Array.all_eq_true'] at hw2
      have h1 := of_decide_eq_true (hw2 e he')
      have := hdep e he' hbd
      rwa [getD_push_lt _ (by omega)] at this
    · have hlt : i < init.size := by omega
      rw [Array.getElem?_push_lt hlt] at ho
      have ho' : init[i]? = some o := by rw [Array.getElem?_eq_getElem hlt]; exact ho
      refine .inl ⟨hlt, mem_ready.2 ⟨by rwa [getD_push_lt _ (by omega)] at h0, o, ho', fun e he' hbd => ?_⟩⟩
      have h1 := (elder_of he i o ho').1 e he'
      have := hdep e he' hbd
      rwa [getD_push_lt _ (by omega)] at this
  intro fuel
  induction fuel with
  | zero =>
    intro listed a w hl hcl h
    have hall := ready_nil he hl h.1
    refine ⟨fun hr => ?_, fun i hi => ?_⟩
    · have := lastReady listed hl hall
      rw [hr] at this
      cases this
    · rcases elder listed i hl hcl hi with ⟨_, hi'⟩ | ⟨rfl, _⟩
      · rw [h.1] at hi'; cases hi'
      · exact lastly 0 listed a w hl hall h.2
  | succ fuel ih =>
    intro listed a w hl hcl h
    refine ⟨fun hr => ?_, fun i hi => ?_⟩
    · exfalso
      by_cases hr2 : Region.ready .any init listed = []
      · have := lastReady listed hl (ready_nil he hl hr2)
        rw [hr] at this
        cases this
      · obtain ⟨i, hi⟩ := List.exists_mem_of_ne_nil _ hr2
        obtain ⟨h0, o, ho, hdep⟩ := mem_ready.1 hi
        have hlt : i < init.size := (Array.getElem?_eq_some_iff.1 ho).1
        have : i ∈ Region.ready .any (init.push oL) (listed.push false) := by
          refine mem_ready.2 ⟨by rwa [getD_push_lt _ (by omega)], o, by rw [Array.getElem?_push_lt hlt, ← Array.getElem?_eq_getElem hlt]; exact ho, fun e he' hbd => ?_⟩
          have h1 := (elder_of he i o ho).1 e he'
          rw [getD_push_lt _ (by omega)]
          exact hdep e he' hbd
        rw [hr] at this
        cases this
    · rcases elder listed i hl hcl hi with ⟨hlt, hi'⟩ | ⟨rfl, hall⟩
      · have h2 := h.2 i hi'
        obtain ⟨_, o, ho, _⟩ := mem_ready.1 hi'
        have ho' : (init.push oL)[i]? = some o := by rw [Array.getElem?_push_lt hlt, ← Array.getElem?_eq_getElem hlt]; exact ho
        have e1 : (listed.push false).setIfInBounds i true = (listed.setIfInBounds i true).push false := by
          apply Array.ext'
          rw [Array.toList_setIfInBounds, Array.toList_push, Array.toList_push, Array.toList_setIfInBounds, List.set_append_left _ _ (by simpa using (show i < listed.size by omega))]
        unfold wpOpIn at h2 ⊢
        rw [ho] at h2
        rw [ho', e1]
        simp only [] at h2 ⊢
        rw [wanted_push he ho]
        by_cases hwant : Region.wanted o (yielded init a.tmps) = true
        · simp only [hwant, if_true] at h2 ⊢
          exact oper_lastQ (fun a' w' hk => ih _ a' w' (by simpa using hl) (hcl.set hi') hk) h2
        · simp only [hwant] at h2 ⊢
          exact ⟨h2.1, ih _ _ _ (by simpa using hl) (hcl.set hi') h2.2⟩
      · exact lastly (fuel + 1) listed a w hl hall (h.1 (nil_ready hl hall))

/-- The others walked in their text's order, in a class of worlds that they and their callees keep to; then the last one. -/
theorem region_quiet_last {id : Nat} {a : Act} {w : World} (hro : F.round = none) (hm : P.follows .mixedOrders = true) (he : elderB init = true) (hw : O2.sinkB init oL = true) (hw2 : oL.after.all (fun e => decide (e.on < init.size)) = true) (hg : oL.guard = none) (hB : Region.lexB .any init = true) (hC : C { w with drawn := w.drawn + 1 })
    (h : wpQuietIn F n P init C (fun a' => ∀ w', C w' → Oper.wpIn F n P oL a' w' (fun a2 w2 => Q .normal a2 w2) Q) init.toList a) : (Code.region id (init.push oL) true).wpIn F n P Q a w := by
  simp only [Region.lexB, Bool.and_eq_true] at hB
  refine wpIn_region_any hm ?_
  have h1 := wpAnyQIn_lex (F := F) (n := n) (C := C) (md := .any) hB.1 init.toList 0 (Array.replicate init.size false) a (by simp) (by simpa using hB.2) h
  have h2 := wpAnyIn_of_quiet (Q' := lastQ F n P oL Q) hro (fun a' w' hw' (h : ∀ w', C w' → Oper.wpIn F n P oL a' w' (fun a2 w2 => Q .normal a2 w2) Q) => h w' hw') _ _ _ _ hC h1
  have h3 := snoc_any he hw hw2 hg _ _ _ _ (by simp) (O2.closed_none init _) h2
  have e1 : (Array.replicate init.size false).push false = Array.replicate (init.push oL).size false := by simp [Array.replicate_succ]
  have e2 : init.toList.length + 1 = (init.push oL).size := by simp
  rw [e1, e2] at h3
  exact h3

theorem region_quiet_last_round {id : Nat} {a : Act} {w : World} (l : Nat) (hnd : NoDefer init) (hm : P.follows .mixedOrders = true) (he : elderB init = true) (hw : O2.sinkB init oL = true) (hw2 : oL.after.all (fun e => decide (e.on < init.size)) = true) (hg : oL.guard = none) (hB : Region.lexB .any init = true) (hC : C { w with drawn := w.drawn + 1 })
    (h : wpQuietIn F n P init C (fun a' => ∀ w', C w' → Oper.wpIn (F.inRound l) n P oL a' w' (fun a2 w2 => Q .normal a2 w2) Q) init.toList a) : (Code.region id (init.push oL) true).wpIn (F.inRound l) n P Q a w := by
  simp only [Region.lexB, Bool.and_eq_true] at hB
  refine wpIn_region_any hm ?_
  have h1 := wpAnyQIn_lex (F := F) (n := n) (C := C) (md := .any) hB.1 init.toList 0 (Array.replicate init.size false) a (by simp) (by simpa using hB.2) h
  have h2 := any_of_quiet (Q' := lastQ (F.inRound l) n P oL Q) l hnd (fun a' w' hw' (h : ∀ w', C w' → Oper.wpIn (F.inRound l) n P oL a' w' (fun a2 w2 => Q .normal a2 w2) Q) => h w' hw') _ _ _ _ hC h1
  have h3 := snoc_any he hw hw2 hg _ _ _ _ (by simp) (O2.closed_none init _) h2
  have e1 : (Array.replicate init.size false).push false = Array.replicate (init.push oL).size false := by simp [Array.replicate_succ]
  have e2 : init.toList.length + 1 = (init.push oL).size := by simp
  rw [e1, e2] at h3
  exact h3
end
end Go.Proofs.Ytfjepkakimhbbaa

/-! Drawn regions, in a round of a range over a function and outside: walked as plain ones are, with plain contracts; the last operation, if it waits for all others, behind them. -/
namespace Go.Proofs.Ytfjepkakimhbbaa
open Go Go.Sort
set_option linter.unusedVariables false

section
variable {n : Nat} {P : Program} {Q : Exit → Act → World → Prop} {C : World → Prop}

theorem quietAt_wide {o : Oper} {a : Act} {w : World} {v : Value} (h : o.quietAt P a C w v) : o.quietAtIn Fence.wide n P a C w v := by
  unfold Oper.quietAt at h
  unfold Oper.quietAtIn
  generalize (execOp a.eval o).run P w = r at *
  cases r with
  | ok x w' =>
    cases x <;> simp only [Oper.quietUpon] at h <;> simp only [Oper.quietUponIn]
    case value u => exact h
    case skip => exact h
    case enter f args => exact ⟨h.1, fun x => by simp [Fence.wide] at x, callsIn_wide.2 h.2⟩
  | halt x w' => simp only [Oper.quietUpon] at h

theorem quiet_wide {ops : Array Oper} {R : Act → Prop} : ∀ {l : List Oper} {a : Act}, wpQuiet P ops C R l a → wpQuietIn Fence.wide n P ops C R l a
  | [], _, h => h
  | o :: rest, a, h => by
    refine ⟨fun _ _ _ _ => trivial, ?_⟩
    unfold wpQuiet at h
    split
    · rename_i hw
      rw [if_pos hw] at h
      obtain ⟨v, h1, h2⟩ := h
      exact ⟨v, fun w hw => quietAt_wide (h1 w hw), quiet_wide h2⟩
    · rename_i hw
      rw [if_neg hw] at h
      exact quiet_wide h

/-- In a round: a region that reads, with quiet callees. -/
theorem round_quiet {id : Nat} {a : Act} {w : World} {os : List Oper} (l : Nat) (C : World → Prop) (hnd : noDeferB os = true) (hm : P.follows .mixedOrders = true) (hB : Region.lexB .any os.toArray = true) (hC : C { w with drawn := w.drawn + 1 })
    (h : wpQuiet P os.toArray C (fun a' => ∀ w', C w' → Q .normal a' w') os a) : (Code.region id os.toArray true).wpIn (Fence.wide.inRound l) n P Q a w :=
  region_quiet_round (C := C) l (noDefer_of hnd) hm hB hC (by simpa using quiet_wide h)

theorem take_push {os : List Oper} {m : Nat} {oL : Oper} (hos : os[m]? = some oL) (hlen : os.length = m + 1) : os.toArray = (os.take m).toArray.push oL := by
  apply Array.ext'
  rw [Array.toList_push]
  show os = os.take m ++ [oL]
  have h1 : os.take (m + 1) = os.take m ++ [oL] := by
    rw [List.take_add_one, hos]; rfl
  rw [← h1, List.take_of_length_le (by omega)]

def lastB (os : List Oper) (m : Nat) (oL : Oper) : Bool := elderB (os.take m).toArray && O2.sinkB (os.take m).toArray oL && oL.after.all (fun e => decide (e.on < m)) && oL.guard.isNone && Region.lexB .any (os.take m).toArray && noDeferB (os.take m)

theorem tail_of {F : Fence} {oL : Oper} (hg : oL.guard = none) {a : Act} {w : World} (h : wpListIn F n P #[oL] Q [oL] a w) : Oper.wpIn F n P oL a w (fun a2 w2 => Q .normal a2 w2) Q := by
  unfold wpListIn at h
  have hw : Region.wanted oL (yielded #[oL] a.tmps) = true := by unfold Region.wanted; rw [hg]
  rw [if_pos hw] at h
  exact Oper.wpIn_mono (fun a' w' hq => by unfold wpListIn at hq; exact hq) h

/-- A region whose last operation waits for all others, which read, with quiet callees. -/
theorem plain_last {id : Nat} {a : Act} {w : World} {os : List Oper} (m : Nat) (oL : Oper) (C : World → Prop) (hos : os[m]? = some oL) (hlen : os.length = m + 1) (hch : lastB os m oL = true) (hm : P.follows .mixedOrders = true) (hC : C { w with drawn := w.drawn + 1 })
    (h : wpQuiet P (os.take m).toArray C (fun a' => ∀ w', C w' → wpListIn Fence.wide 8 P #[oL] Q [oL] a' w') (os.take m) a) : (Code.region id os.toArray true).wp P Q a w := by
  simp only [lastB, Bool.and_eq_true, Option.isNone_iff_eq_none] at hch
  obtain ⟨⟨⟨⟨⟨h1, h2⟩, h3⟩, h4⟩, h5⟩, h6⟩ := hch
  have hsz : (os.take m).toArray.size = m := by simp; omega
  rw [take_push hos hlen]
  refine (wpIn_wide (n := 8)).1 (region_quiet_last (C := C) rfl hm h1 h2 (by rw [hsz]; exact h3) h4 h5 hC ?_)
  have hq := quiet_wide (n := 8) h
  have : ∀ (l : List Oper) (a : Act), wpQuietIn Fence.wide 8 P (os.take m).toArray C (fun a' => ∀ w', C w' → wpListIn Fence.wide 8 P #[oL] Q [oL] a' w') l a → wpQuietIn Fence.wide 8 P (os.take m).toArray C (fun a' => ∀ w', C w' → Oper.wpIn Fence.wide 8 P oL a' w' (fun a2 w2 => Q .normal a2 w2) Q) l a := by
    intro l
    induction l with
    | nil => intro a h w' hw'; exact tail_of h4 (h w' hw')
    | cons o r ih =>
      intro a h
      obtain ⟨ha, h⟩ := h
      refine ⟨ha, ?_⟩
      split
      · rename_i hw
        rw [if_pos hw] at h
        exact Oper.quietIn_mono ih h
      · rename_i hw
        rw [if_neg hw] at h
        exact ih _ h
  have := this _ _ hq
  simpa using this

/-- .. in a round. -/
theorem round_last {id : Nat} {a : Act} {w : World} {os : List Oper} (l m : Nat) (oL : Oper) (C : World → Prop) (hos : os[m]? = some oL) (hlen : os.length = m + 1) (hch : lastB os m oL = true) (hm : P.follows .mixedOrders = true) (hC : C { w with drawn := w.drawn + 1 })
    (h : wpQuiet P (os.take m).toArray C (fun a' => ∀ w', C w' → wpListIn (Fence.wide.inRound l) n P #[oL] Q [oL] a' w') (os.take m) a) : (Code.region id os.toArray true).wpIn (Fence.wide.inRound l) n P Q a w := by
  simp only [lastB, Bool.and_eq_true, Option.isNone_iff_eq_none] at hch
  obtain ⟨⟨⟨⟨⟨h1, h2⟩, h3⟩, h4⟩, h5⟩, h6⟩ := hch
  have hsz : (os.take m).toArray.size = m := by simp; omega
  rw [take_push hos hlen]
  refine region_quiet_last_round (C := C) l (noDefer_of h6) hm h1 h2 (by rw [hsz]; exact h3) h4 h5 hC ?_
  have hq := quiet_wide (n := n) h
  have : ∀ (k : List Oper) (a : Act), wpQuietIn Fence.wide n P (os.take m).toArray C (fun a' => ∀ w', C w' → wpListIn (Fence.wide.inRound l) n P #[oL] Q [oL] a' w') k a → wpQuietIn Fence.wide n P (os.take m).toArray C (fun a' => ∀ w', C w' → Oper.wpIn (Fence.wide.inRound l) n P oL a' w' (fun a2 w2 => Q .normal a2 w2) Q) k a := by
    intro k
    induction k with
    | nil => intro a h w' hw'; exact tail_of h4 (h w' hw')
    | cons o r ih =>
      intro a h
      obtain ⟨ha, h⟩ := h
      refine ⟨ha, ?_⟩
      split
      · rename_i hw
        rw [if_pos hw] at h
        exact Oper.quietIn_mono ih h
      · rename_i hw
        rw [if_neg hw] at h
        exact ih _ h
  have := this _ _ hq
  simpa using this
end

/-- w, some draws on, some blocks laid behind it: the class that growing callees keep to. -/
abbrev Growing (w : World) (w' : World) : Prop := ∃ p : GrownBy, w' = grow (w.drewN p.n) p.os
theorem growing_drew (w : World) : Growing w { w with drawn := w.drawn + 1 } := ⟨⟨1, #[]⟩, by rw [grow_empty]; rfl⟩
/-- A world in which all that there was lies as it lay. -/
structure Lies (w : World) where
  v : World
  h : Go.RowKit.Below w.heap.size w v
abbrev Lying (w : World) (w' : World) : Prop := ∃ q : Lies w, w' = q.v
theorem lying_drew (w : World) : Lying w { w with drawn := w.drawn + 1 } := ⟨⟨_, (Grew.refl w).drew.below⟩, rfl⟩
/-- w, some draws on. -/
abbrev Drawing (w : World) (w' : World) : Prop := ∃ n, w' = w.drewN n
theorem drawing_drew (w : World) : Drawing w { w with drawn := w.drawn + 1 } := ⟨1, rfl⟩
theorem Growing.grew {w w' : World} (h : Growing w w') : Grew w w' := by
  obtain ⟨p, rfl⟩ := h
  exact ⟨p.n, p.os, rfl⟩
end Go.Proofs.Ytfjepkakimhbbaa

/-! Ways to leave, and counters, in functions that range over a function. -/
namespace Go.Proofs.Ytfjepkakimhbbaa
open Go.RowKit Go.Sort Go.Shelf Go.Maps
set_option linter.unusedVariables false
set_option linter.unusedSimpArgs false

/-- A counter in a block of its own. -/
def NumAt (W : World) (b : Nat) (k : Int) : Prop := W.heap[b]? = some (.cells #[.int .i64 k] 3 (0, 0))
theorem NumAt.cell {W : World} {b : Nat} {k : Int} (h : NumAt W b k) : W.cell? ⟨b, 0, none⟩ = some (.int .i64 k) ∧ W.frozen? ⟨b, 0, none⟩ = false := by
  unfold NumAt at h
  exact ⟨by simp [World.cell?, h], by simp [World.frozen?, h]⟩
theorem NumAt.set {W : World} {b : Nat} {k : Int} (h : NumAt W b k) (k' : Int) : NumAt (W.setCell ⟨b, 0, none⟩ (.int .i64 k')) b k' := by
  unfold NumAt at *
  simp [World.setCell, Array.getElem?_modify, h]

/-- Between two rounds: the counter stands at k, all else is as it was. -/
def CntI (W4 : World) (b : Nat) (k : Nat) (W : World) : Prop := Kept (fun i => i = b) W4 W ∧ NumAt W b k
theorem cntI_own {W4 : World} {b : Nat} (hb : b < W4.heap.size) : OwnFrom W4.heap.size (CntI W4 b) := fun k A B row hs hg hr => by
  obtain ⟨h1, h2⟩ := hs
  refine ⟨h1.grown hg (fun k e => .inr (hr k e).1), ?_⟩
  unfold NumAt at *
  rw [hg.block b (Array.getElem?_eq_some_iff.1 h2).1 (fun e => by have := (hr b e.symm).1; omega)]
  exact h2
theorem CntI.next {W4 W : World} {b k : Nat} (h : CntI W4 b k W) : CntI W4 b (k + 1) (W.setCell ⟨b, 0, none⟩ (.int .i64 ((k : Int) + 1))) :=
  ⟨h.1.setCell (.inl rfl) _, by have := h.2.set ((k : Int) + 1); exact this⟩

theorem CntI.grew {W4 W W' : World} {b k : Nat} (h : CntI W4 b k W) (hb : b < W4.heap.size) (g : Grew W W') : CntI W4 b k W' :=
  ⟨h.1.trans (g.kept _), (g.block (Nat.lt_of_lt_of_le hb h.1.size)).trans h.2⟩
theorem Kept.from {S : Nat → Prop} {a b : World} (h : Kept S a b) (B : Nat) (hs : ∀ k, S k → k < B) : KeepsFrom B a b :=
  ⟨h.size, fun k o hk ho _ => (h.block k (Array.getElem?_eq_some_iff.1 ho).1 (fun s => by have := hs k s; omega)).trans ho⟩

theorem leave_one {P : Program} {fn : Func} {tmps : Array Value} {R : Ending → World → Prop} {n D : Nat} {W : World} (hD : W.heap[D]? = some (.deferred (some [])))
    (h : ∃ v, (results fn tmps).run P (W.putObj D (.deferred none)) = .ok v (W.putObj D (.deferred none)) ∧ R (.returned v) (W.putObj D (.deferred none))) : LeavesInM Fence.wide n P fn tmps R [{ target := .collected D, args := #[] }] .returning W :=
  ⟨by simp, .inl ⟨D, _, rfl, run_takeDeferred hD, h⟩⟩

end Go.Proofs.Ytfjepkakimhbbaa
