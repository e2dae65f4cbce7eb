/-
  Several texts as one.
-/
import Derived.Test.YtcipilggddpnpaaQx1
import Derived.Test.YtcipilggddpnpaaProg
import Derived.WalkKit
import Derived.Below
import Derived.Deep.QuietTactic
import Derived.BigQuiet
import Derived.Deep.RegionHeld3
import Derived.IntWalk
import Derived.Deep.Cut
/-
  timers.Queue: what it is in memory; Now, Worst, byTime, Next, Cancel.
-/
namespace Go.Proofs.Ytcipilggddpnpaa
open Go.RowKit Go.Sort Go.Shelf Go.Maps
set_option linter.unusedVariables false
set_option linter.unusedSimpArgs false

end Go.Proofs.Ytcipilggddpnpaa

/-
  A region that draws its order, whose operations read, or call what makes memory and leaves all that was as it was.
-/
namespace Go.Proofs.Ytcipilggddpnpaa
open Go.RowKit

/-- A world in which all that was lies as it lay. -/
structure LiesB (w : World) where
  v : World
  h : Below w.heap.size w v
abbrev LyingB (w : World) (w' : World) : Prop := ∃ q : LiesB w, w' = q.v
theorem lyingB_drew (w : World) : LyingB w { w with drawn := w.drawn + 1 } := ⟨⟨{ w with drawn := w.drawn + 1 }, ⟨rfl, rfl, rfl, Nat.le_refl _, fun _ _ => rfl⟩⟩, rfl⟩
theorem region_lies {P : Program} {id : Nat} {Q : Exit → Act → World → Prop} {a : Act} {w : World} {l : List Oper} (hm : P.follows .mixedOrders = true) (hB : Region.lexB .any l.toArray = true)
    (h : wpQuiet P l.toArray (LyingB w) (fun a' => ∀ w', LyingB w w' → Q .normal a' w') l a) : (Code.region id l.toArray true).wp P Q a w :=
  wp_region_quiet (C := LyingB w) hm hB (lyingB_drew w) (by simpa using h)
/-- A callee that leaves all as it lay, met in a world of the class. -/
theorem lies_call {P : Program} {f : FuncId} {args : Array Value} {w : World} {v : Value} (h : ∀ W, Calls P f args W fun e w' => e = .returned v ∧ Below W.heap.size W w') (q : LiesB w) : Calls P f args q.v fun e w' => e = .returned v ∧ LyingB w w' :=
  (h q.v).mono fun _ w' ⟨he, hb⟩ => ⟨he, ⟨w', q.h.trans (hb.mono q.h.size)⟩, rfl⟩
theorem mixedT : Try.prog.follows .mixedOrders = true := by kernel_rfl
end Go.Proofs.Ytcipilggddpnpaa

/-
  A drawn region in which a block is made that waits for nothing, and a store into it, next to reads and calls that make memory.
-/
namespace Go.Proofs.Ytcipilggddpnpaa
open Go Go.RowKit
set_option linter.unusedVariables false

section
variable {F : Fence} {n : Nat} {P : Program} {ops : Array Oper} {Q : Exit → Act → World → Prop}

/-- Where the end is known, a place that none of those to come writes is as it is. -/
theorem pin_slot {C : World → Prop} {aE : Act} {s : Nat} : ∀ (fuel : Nat) (listed : Array Bool) (a : Act), (∀ j o, ops[j]? = some o → listed.getD j true = false → o.dst ≠ some s) →
    wpAnyQIn F n P .any ops C (fun a' => a' = aE) fuel listed a → aE.tmps[s]? = a.tmps[s]?
  | 0, listed, a, _, h => by rw [h.2]
  | fuel + 1, listed, a, hs, h => by
    cases hr : Region.ready .any ops listed with
    | nil => rw [h.1 hr]
    | cons i l =>
      have hi : i ∈ Region.ready .any ops listed := by rw [hr]; exact List.mem_cons_self
      obtain ⟨h0, o, ho, hd⟩ := mem_ready.1 hi
      obtain ⟨v, _, hK⟩ := yieldsQuiet_of_qOpIn ho (h.2 i hi)
      have := pin_slot fuel (listed.setIfInBounds i true) (a.put o.dst v) (fun j oj hj hl => by
        by_cases hij : i = j
        · subst hij
          have hlt : i < listed.size ∨ listed.size ≤ i := Nat.lt_or_ge i listed.size
          rcases hlt with hlt | hlt
          · rw [Array.getD_eq_getD_getElem?, Array.getElem?_setIfInBounds, if_pos rfl, if_pos hlt] at hl
            cases hl
          · exact hs i oj hj h0
        · rw [getD_set_ne true hij] at hl
          exact hs j oj hj hl) hK
      rw [this]
      have hne := hs i o ho h0
      cases hd' : o.dst with
      | none => rfl
      | some d =>
        show (a.tmps.setIfInBounds d v)[s]? = _
        rw [Array.getElem?_setIfInBounds, if_neg (fun e => hne (by rw [hd', e]))]

/-- Two values in one place, and the place reads the same: the frames are the same. -/
theorem put_same {a : Act} {d : Nat} {v u : Value} (h : (a.put (some d) v).tmps[d]? = (a.put (some d) u).tmps[d]?) : a.put (some d) v = a.put (some d) u := by
  show ({ a with tmps := a.tmps.setIfInBounds d v } : Act) = { a with tmps := a.tmps.setIfInBounds d u }
  have h' : (a.tmps.setIfInBounds d v)[d]? = (a.tmps.setIfInBounds d u)[d]? := h
  rw [Array.getElem?_setIfInBounds, Array.getElem?_setIfInBounds, if_pos rfl, if_pos rfl] at h'
  by_cases hd : d < a.tmps.size
  · rw [if_pos hd, if_pos hd] at h'
    cases h'
    rfl
  · congr 1
    rw [Array.setIfInBounds_eq_of_size_le (by omega), Array.setIfInBounds_eq_of_size_le (by omega)]

def ptrN (b : Nat) : Value := .pointer (some ⟨b, 0, none⟩)

/-- The places are written once each. -/
def onceB (l : List Oper) : Bool := decide (l.filterMap (·.dst)).Nodup
theorem once_of {l : List Oper} (h : (l.filterMap (·.dst)).Nodup) : ∀ (i j : Nat) (o o' : Oper) (s : Nat), l[i]? = some o → l[j]? = some o' → o.dst = some s → o'.dst = some s → i = j := by
  induction l with
  | nil => intro i j o o' s h1; simp at h1
  | cons x l ih =>
    intro i j o o' s h1 h2 h3 h4
    have hx : ∀ (k : Nat) (y : Oper), l[k]? = some y → y.dst = some s → s ∈ l.filterMap (·.dst) := fun k y hk hy => List.mem_filterMap.2 ⟨y, List.mem_of_getElem? hk, hy⟩
    cases i with
    | zero =>
      cases j with
      | zero => rfl
      | succ j =>
        simp only [List.getElem?_cons_zero, Option.some.injEq] at h1
        simp only [List.getElem?_cons_succ] at h2
        subst h1
        rw [List.filterMap_cons_some h3] at h
        exact absurd (hx j o' h2 h4) (List.nodup_cons.1 h).1
    | succ i =>
      cases j with
      | zero =>
        simp only [List.getElem?_cons_zero, Option.some.injEq] at h2
        simp only [List.getElem?_cons_succ] at h1
        subst h2
        rw [List.filterMap_cons_some h4] at h
        exact absurd (hx i o h1 h3) (List.nodup_cons.1 h).1
      | succ j =>
        simp only [List.getElem?_cons_succ] at h1 h2
        have hn : (l.filterMap (·.dst)).Nodup := by
          cases hd : x.dst with
          | none => rwa [List.filterMap_cons_none hd] at h
          | some d => rw [List.filterMap_cons_some hd] at h; exact (List.nodup_cons.1 h).2
        rw [ih hn i j o o' s h1 h2 h3 h4]

/-- The block that is made is apart from all others. -/
def apartB (ops : Array Oper) (k : Nat) (oA : Oper) : Bool := (List.range ops.size).all fun j => j == k || (match ops[j]? with | some oj => oA.apart ops oj | none => true)
theorem apart_of {k : Nat} {oA : Oper} (h : apartB ops k oA = true) (j : Nat) (oj : Oper) (hj : ops[j]? = some oj) (hne : j ≠ k) : oA.apart ops oj = true := by
  have h1 := List.all_eq_true.1 h j (List.mem_range.2 (Array.getElem?_eq_some_iff.1 hj).1)
  simp only [Bool.or_eq_true, beq_iff_eq, hne, false_or] at h1
  rw [hj] at h1
  exact h1

theorem lies_alloc {W w : World} (h : LyingB W w) (o : Obj) : Below W.heap.size W (w.alloc o) := by
  obtain ⟨q, rfl⟩ := h
  exact q.h.alloc q.h.size o

/-- Something is ready as long as something is not listed. -/
theorem some_ready (hel : ∀ i o, ops[i]? = some o → ∀ e ∈ o.after, Region.binds .any e = true → e.on < i) {listed : Array Bool} (hl : listed.size = ops.size) {k : Nat} (hun : listed.getD k true = false) (hr : Region.ready .any ops listed = []) : False := by
  have all : ∀ j, j < listed.size → listed.getD j true = true := by
    intro j
    induction j using Nat.strongRecOn with
    | ind j ih =>
      intro hj
      cases hb : listed.getD j true with
      | true => rfl
      | false =>
        have hjo : j < ops.size := by omega
        have hmem : j ∈ Region.ready .any ops listed := mem_ready.2 ⟨hb, ops[j], Array.getElem?_eq_getElem hjo, fun e he hbd => by
          have hlt := hel j ops[j] (Array.getElem?_eq_getElem hjo) e he hbd
          have h1 := ih e.on hlt (by omega)
          rw [Array.getD_eq_getD_getElem?, Array.getElem?_eq_getElem (show e.on < listed.size by omega)] at h1 ⊢
          exact h1⟩
        rw [hr] at hmem
        cases hmem
  rcases Nat.lt_or_ge k listed.size with h | h
  · rw [all k h] at hun
    cases hun
  · rw [Array.getD_eq_getD_getElem?, Array.getElem?_eq_none h] at hun
    cases hun

theorem set_false {listed : Array Bool} {i : Nat} (h : (listed.setIfInBounds i true).getD i true = false) : False := by
  rcases Nat.lt_or_ge i listed.size with hlt | hlt
  · rw [Array.getD_eq_getD_getElem?, Array.getElem?_setIfInBounds, if_pos rfl, if_pos hlt] at h
    cases h
  · rw [Array.getD_eq_getD_getElem?, Array.getElem?_eq_none (by simpa using hlt)] at h
    cases h

/-- Behind the making of the block: reads and calls, and the store. -/
theorem store_any {W Wa : World} {kS sA sV : Nat} {oS : Oper} {aE : Act} {st : World → World} (hro : F.round = none) (hk : ops[kS]? = some oS) (hg : oS.guard = none)
    (hel : ∀ i o, ops[i]? = some o → ∀ e ∈ o.after, Region.binds .any e = true → e.on < i) (honce : ∀ (i j : Nat) (o o' : Oper) (s : Nat), ops[i]? = some o → ops[j]? = some o' → o.dst = some s → o'.dst = some s → i = j)
    (hsA : ∃ e ∈ oS.after, Region.binds .any e = true ∧ ∃ o, ops[e.on]? = some o ∧ o.dst = some sA) (hsV : ∃ e ∈ oS.after, Region.binds .any e = true ∧ ∃ o, ops[e.on]? = some o ∧ o.dst = some sV)
    (hWa : Below W.heap.size W Wa) (hst : ∀ w', Below Wa.heap.size Wa w' → Below W.heap.size W (st w'))
    (hS : ∀ a' w', Below Wa.heap.size Wa w' → a'.tmps[sA]? = aE.tmps[sA]? → a'.tmps[sV]? = aE.tmps[sV]? → ∀ K : Act → World → Prop, K a' (st w') → oS.wpIn F n P a' w' K Q)
    (hQ : ∀ w' w'', Below Wa.heap.size Wa w' → Below (st w').heap.size (st w') w'' → Q .normal aE w'') :
    ∀ (fuel : Nat) (listed : Array Bool) (a : Act) (w : World), listed.size = ops.size → listed.getD kS true = false → LyingB Wa w →
      (∀ W0, Below W.heap.size W W0 → wpAnyQIn F n P .any ops (LyingB W0) (fun a' => a' = aE) fuel (listed.setIfInBounds kS true) a) → wpAnyIn F n P .any ops Q (fuel + 1) listed a w := by
  have slot : ∀ (s fuel : Nat) (listed : Array Bool) (a : Act), (∃ e ∈ oS.after, Region.binds .any e = true ∧ ∃ o, ops[e.on]? = some o ∧ o.dst = some s) → kS ∈ Region.ready .any ops listed →
      wpAnyQIn F n P .any ops (LyingB Wa) (fun a' => a' = aE) fuel (listed.setIfInBounds kS true) a → a.tmps[s]? = aE.tmps[s]? := fun s fuel listed a hs hrd hq => by
    obtain ⟨e, he, hbd, o, ho, hod⟩ := hs
    obtain ⟨hu, oS', hoS', hdep⟩ := mem_ready.1 hrd
    rw [hk] at hoS'
    cases hoS'
    refine (pin_slot fuel _ a (fun j oj hj hl hjd => ?_) hq).symm
    have hje : j = e.on := honce j e.on oj o s hj ho hjd hod
    subst hje
    have h1 := hdep e he hbd
    by_cases hkj : kS = e.on
    · rw [← hkj] at hl
      exact set_false hl
    · rw [getD_set_ne true hkj] at hl
      rw [Array.getD_eq_getD_getElem?] at h1 hl
      cases hx : listed[e.on]? with
      | none => rw [hx] at hl; cases hl
      | some y => rw [hx] at hl h1; simp at hl h1; rw [hl] at h1; cases h1
  have atStore : ∀ (fuel : Nat) (listed : Array Bool) (a : Act) (w : World), kS ∈ Region.ready .any ops listed → LyingB Wa w →
      (∀ W0, Below W.heap.size W W0 → wpAnyQIn F n P .any ops (LyingB W0) (fun a' => a' = aE) fuel (listed.setIfInBounds kS true) a) →
      wpOpIn F n P ops Q kS (wpAnyIn F n P .any ops Q fuel (listed.setIfInBounds kS true)) a w := fun fuel listed a w hrd hw H => by
    obtain ⟨q, rfl⟩ := hw
    unfold wpOpIn
    rw [hk]
    have hwant : Region.wanted oS (yielded ops a.tmps) = true := by unfold Region.wanted; rw [hg]
    simp only [hwant, if_true]
    refine hS a q.v q.h (slot sA fuel listed a hsA hrd (H Wa hWa)) (slot sV fuel listed a hsV hrd (H Wa hWa)) _ ?_
    exact wpAnyIn_of_quiet hro (fun a' w' hw' he => by obtain ⟨q', rfl⟩ := hw'; rw [he]; exact hQ q.v q'.v q.h q'.h) fuel _ _ _ ⟨⟨st q.v, Below.refl _ _⟩, rfl⟩ (H (st q.v) (hst q.v q.h))
  intro fuel
  induction fuel with
  | zero =>
    intro listed a w hl hun hw H
    refine ⟨fun hr => (some_ready hel hl hun hr).elim, fun i hi => ?_⟩
    by_cases hik : i = kS
    · subst hik
      exact atStore 0 listed a w hi hw H
    · have := ready_mono hi hik
      rw [(H Wa hWa).1] at this
      cases this
  | succ fuel ih =>
    intro listed a w hl hun hw H
    refine ⟨fun hr => (some_ready hel hl hun hr).elim, fun i hi => ?_⟩
    by_cases hik : i = kS
    · subst hik
      exact atStore (fuel + 1) listed a w hi hw H
    · obtain ⟨hui, oi, hoi, hdep⟩ := mem_ready.1 hi
      obtain ⟨v, hy, hK⟩ := yieldsQuiet_of_qOpIn hoi ((H Wa hWa).2 i (ready_mono hi hik))
      refine wpOpIn_of_qOpIn hro hw (fun a' w' hw' hK' => ?_) (hy.qOpIn hoi (K := fun a' => a' = a.put oi.dst v) rfl)
      subst hK'
      refine ih (listed.setIfInBounds i true) (a.put oi.dst v) w' (by rw [Array.size_setIfInBounds]; exact hl) (by rw [getD_set_ne true hik]; exact hun) hw' (fun W0 hW0 => ?_)
      obtain ⟨v2, _, hK2⟩ := yieldsQuiet_of_qOpIn hoi ((H W0 hW0).2 i (ready_mono hi hik))
      rw [Array.setIfInBounds_comm _ _ hik]
      have e : a.put oi.dst v2 = a.put oi.dst v := by
        cases hdi : oi.dst with
        | none => rfl
        | some d =>
          have hfar : ∀ j o, ops[j]? = some o → ((listed.setIfInBounds kS true).setIfInBounds i true).getD j true = false → o.dst ≠ some d := fun j o hj hl hod => by
            have : i = j := honce i j oi o d hoi hj hdi hod
            subst this
            exact set_false hl
          have p1 := pin_slot _ _ _ hfar hK
          have p2 := pin_slot _ _ _ hfar hK2
          rw [hdi] at p1 p2
          exact put_same (p2.symm.trans p1)
      rw [← e]
      exact hK2

/-- From the first: the block may be made whenever it comes up. -/
theorem alloc_any {W : World} {kA kS sA sV : Nat} {oA oS : Oper} {obj : Obj} {aE : Nat → Act} {st : Nat → World → World} (hro : F.round = none) (hsel : ∀ (j : Nat) (o : Oper) cs b, ops[j]? = some o → o.op ≠ .select cs b) (hne : kA ≠ kS)
    (hk : ops[kA]? = some oA) (hg : oA.guard = none) (haf : oA.after = #[]) (hd : oA.dst = some sA) (hkS : ops[kS]? = some oS) (hgS : oS.guard = none)
    (hap : ∀ j oj, ops[j]? = some oj → j ≠ kA → j ≠ kS → oA.apart ops oj = true) (hel : ∀ i o, ops[i]? = some o → ∀ e ∈ o.after, Region.binds .any e = true → e.on < i)
    (honce : ∀ (i j : Nat) (o o' : Oper) (s : Nat), ops[i]? = some o → ops[j]? = some o' → o.dst = some s → o'.dst = some s → i = j)
    (hsA : ∃ e ∈ oS.after, Region.binds .any e = true ∧ e.on = kA) (hsV : ∃ e ∈ oS.after, Region.binds .any e = true ∧ ∃ o, ops[e.on]? = some o ∧ o.dst = some sV)
    (hA : ∀ (a : Act) (w : World) (K : Act → World → Prop), K (a.put (some sA) (ptrN w.heap.size)) (w.alloc obj) → oA.wpIn F n P a w K Q)
    (hE : ∀ b, aE b = (aE 0).put (some sA) (ptrN b))
    (hst : ∀ w1 w', Below W.heap.size W w1 → Below (w1.alloc obj).heap.size (w1.alloc obj) w' → Below W.heap.size W (st w1.heap.size w'))
    (hS : ∀ w1 a' w', Below W.heap.size W w1 → Below (w1.alloc obj).heap.size (w1.alloc obj) w' → a'.tmps[sA]? = (aE w1.heap.size).tmps[sA]? → a'.tmps[sV]? = (aE w1.heap.size).tmps[sV]? → ∀ K : Act → World → Prop, K a' (st w1.heap.size w') → oS.wpIn F n P a' w' K Q)
    (hQ : ∀ w1 w' w'', Below W.heap.size W w1 → Below (w1.alloc obj).heap.size (w1.alloc obj) w' → Below (st w1.heap.size w').heap.size (st w1.heap.size w') w'' → Q .normal (aE w1.heap.size) w'') :
    ∀ (fuel : Nat) (listed : Array Bool) (a : Act) (w : World), listed.size = ops.size → listed.getD kA true = false → listed.getD kS true = false → LyingB W w →
      (∀ W0 b, Below W.heap.size W W0 → wpAnyQIn F n P .any ops (LyingB W0) (fun a' => a' = aE b) fuel ((listed.setIfInBounds kA true).setIfInBounds kS true) (a.put (some sA) (ptrN b))) →
      wpAnyIn F n P .any ops Q (fuel + 1 + 1) listed a w := by
  have atAlloc : ∀ (fuel : Nat) (listed : Array Bool) (a : Act) (w : World), listed.size = ops.size → listed.getD kS true = false → LyingB W w →
      (∀ W0 b, Below W.heap.size W W0 → wpAnyQIn F n P .any ops (LyingB W0) (fun a' => a' = aE b) fuel ((listed.setIfInBounds kA true).setIfInBounds kS true) (a.put (some sA) (ptrN b))) →
      wpOpIn F n P ops Q kA (wpAnyIn F n P .any ops Q (fuel + 1) (listed.setIfInBounds kA true)) a w := fun fuel listed a w hl hunS hw H => by
    unfold wpOpIn
    rw [hk]
    have hwant : Region.wanted oA (yielded ops a.tmps) = true := by unfold Region.wanted; rw [hg]
    simp only [hwant, if_true]
    refine hA a w _ ?_
    have hwb : Below W.heap.size W w := by obtain ⟨q, rfl⟩ := hw; exact q.h
    exact store_any hro hkS hgS hel honce (by obtain ⟨e, he, hb, hon⟩ := hsA; exact ⟨e, he, hb, oA, by rw [hon]; exact hk, hd⟩) hsV (lies_alloc hw obj) (hst w · hwb) (fun a' w' hb' => hS w a' w' hwb hb') (fun w' w'' => hQ w w' w'' hwb) fuel (listed.setIfInBounds kA true) _ (w.alloc obj)
      (by rw [Array.size_setIfInBounds]; exact hl) (by rw [getD_set_ne true hne]; exact hunS) ⟨⟨w.alloc obj, Below.refl _ _⟩, rfl⟩ (fun W0 hW0 => H W0 w.heap.size hW0)
  have noStore : ∀ (listed : Array Bool), listed.getD kA true = false → kS ∈ Region.ready .any ops listed → False := fun listed hun hrd => by
    obtain ⟨_, o, ho, hdep⟩ := mem_ready.1 hrd
    rw [hkS] at ho
    cases ho
    obtain ⟨e, he, hb, hon⟩ := hsA
    have h1 := hdep e he hb
    rw [hon, Array.getD_eq_getD_getElem?] at h1
    rw [Array.getD_eq_getD_getElem?] at hun
    cases hx : listed[kA]? with
    | none => rw [hx] at h1; cases h1
    | some y => rw [hx] at hun h1; simp at hun h1; rw [hun] at h1; cases h1
  intro fuel
  induction fuel with
  | zero =>
    intro listed a w hl hun hunS hw H
    refine ⟨fun hr => (some_ready hel hl hun hr).elim, fun i hi => ?_⟩
    by_cases hik : i = kA
    · subst hik
      exact atAlloc 0 listed a w hl hunS hw H
    · by_cases hiS : i = kS
      · subst hiS
        exact (noStore listed hun hi).elim
      · have := ready_mono (ready_mono hi hik) hiS
        rw [(H W 0 (Below.refl _ _)).1] at this
        cases this
  | succ fuel ih =>
    intro listed a w hl hun hunS hw H
    refine ⟨fun hr => (some_ready hel hl hun hr).elim, fun i hi => ?_⟩
    by_cases hik : i = kA
    · subst hik
      exact atAlloc (fuel + 1) listed a w hl hunS hw H
    by_cases hiS : i = kS
    · subst hiS
      exact (noStore listed hun hi).elim
    · obtain ⟨hui, oi, hoi, hdep⟩ := mem_ready.1 hi
      obtain ⟨a1, a2, a3⟩ := Oper.apart_spec (hap i oi hoi hik hiS)
      rw [hd] at a1 a2
      obtain ⟨v, hy, hK⟩ := yieldsQuiet_of_qOpIn hoi ((H W 0 (Below.refl _ _)).2 i (ready_mono (ready_mono hi hik) hiS))
      have hsi : ∀ cs b, oi.op ≠ .select cs b := fun cs b => hsel i oi cs b hoi
      have hy' : YieldsQuiet F n P ops (LyingB W) oi v a := hy.of_same (execOp_put oi hsi a (some sA) _ a1).symm (wanted_put oi a (some sA) _ a1).symm (fun w => (about_put oi w a (some sA) _ a1).symm)
      refine wpOpIn_of_qOpIn hro hw (fun a' w' hw' hK' => ?_) (hy'.qOpIn hoi (K := fun a' => a' = a.put oi.dst v) rfl)
      subst hK'
      refine ih (listed.setIfInBounds i true) (a.put oi.dst v) w' (by rw [Array.size_setIfInBounds]; exact hl) (by rw [getD_set_ne true hik]; exact hun) (by rw [getD_set_ne true hiS]; exact hunS) hw' (fun W0 b hW0 => ?_)
      obtain ⟨v2, _, hK2⟩ := yieldsQuiet_of_qOpIn hoi ((H W0 b hW0).2 i (ready_mono (ready_mono hi hik) hiS))
      rw [Array.setIfInBounds_comm _ _ hik, Array.setIfInBounds_comm _ _ hiS]
      have e : (a.put (some sA) (ptrN b)).put oi.dst v2 = (a.put oi.dst v).put (some sA) (ptrN b) := by
        rw [← Act.put_comm a (ptrN b) v a2]
        cases hdi : oi.dst with
        | none => rfl
        | some d =>
          have hfar : ∀ j o, ops[j]? = some o → (((listed.setIfInBounds kA true).setIfInBounds kS true).setIfInBounds i true).getD j true = false → o.dst ≠ some d := fun j o hj hl hod => by
            have : i = j := honce i j oi o d hoi hj hdi hod
            subst this
            exact set_false hl
          have p1 := pin_slot _ _ _ hfar hK
          have p2 := pin_slot _ _ _ hfar hK2
          rw [hdi] at p1 p2
          have hds : sA ≠ d := fun e => a2 sA rfl (by rw [hdi, e])
          have hs1 : ∀ (x : Act) (u : Value), (x.put (some sA) u).tmps[d]? = x.tmps[d]? := fun x u => by
            show (x.tmps.setIfInBounds sA u)[d]? = _
            rw [Array.getElem?_setIfInBounds, if_neg hds]
          have q0 : (aE b).tmps[d]? = (aE 0).tmps[d]? := by rw [hE b]; exact hs1 _ _
          have q1 : ((a.put (some sA) (ptrN b)).put (some d) v).tmps[d]? = ((a.put (some sA) (ptrN 0)).put (some d) v).tmps[d]? := by
            show ((a.tmps.setIfInBounds sA (ptrN b)).setIfInBounds d v)[d]? = ((a.tmps.setIfInBounds sA (ptrN 0)).setIfInBounds d v)[d]?
            simp [Array.getElem?_setIfInBounds]
          exact put_same (p2.symm.trans (q0.trans (p1.trans q1.symm)))
      rw [← e]
      exact hK2

/-- The walk in the text's order, over the places named. -/
def lexIdxB (ops : Array Oper) : List Nat → Array Bool → Bool
  | [], listed => (Region.ready .any ops listed).isEmpty
  | i :: r, listed => (Region.ready .any ops listed).contains i && Region.free .any ops listed i && lexIdxB ops r (listed.setIfInBounds i true)
theorem lex_idx {C : World → Prop} {R : Act → Prop} (hs : Region.noSelect ops = true) : ∀ (idx : List Nat) (listed : Array Bool) (a : Act), (∀ i ∈ idx, i < ops.size) →
    lexIdxB ops idx listed = true → wpQuietIn F n P ops C R (idx.filterMap (fun i => ops[i]?)) a → wpAnyQIn F n P .any ops C R idx.length listed a
  | [], listed, a, _, hB, h => ⟨by simpa [lexIdxB] using hB, h⟩
  | i :: idx, listed, a, hi, hB, h => by
    have hlt : i < ops.size := hi i List.mem_cons_self
    have h0 : ops[i]? = some ops[i] := Array.getElem?_eq_getElem hlt
    simp only [lexIdxB, Bool.and_eq_true] at hB
    obtain ⟨⟨hr, hf⟩, hB'⟩ := hB
    rw [List.filterMap_cons_some (f := fun i => ops[i]?) h0] at h
    have hst : qOpIn F n P ops C i (wpQuietIn F n P ops C R (idx.filterMap (fun i => ops[i]?))) a := by unfold qOpIn; simp only [h0]; exact h
    obtain ⟨v, hy, hK⟩ := yieldsQuiet_of_qOpIn h0 hst
    exact wpAnyQIn_first h0 (Region.noSelect_spec hs) idx.length listed a (Region.free_spec h0 hf) (by simpa using hr) hy (lex_idx hs idx _ _ (fun j hj => hi j (List.mem_cons_of_mem _ hj)) hB' hK)

def elderAnyB (l : List Oper) : Bool := l.zipIdx.all fun (o, i) => o.after.all fun e => !Region.binds .any e || decide (e.on < i)
theorem elderAny_of {l : List Oper} (h : elderAnyB l = true) (i : Nat) (o : Oper) (ho : l[i]? = some o) (e : Edge) (he : e ∈ o.after) (hb : Region.binds .any e = true) : e.on < i := by
  have h1 := List.all_eq_true.1 h (o, i) (List.mem_iff_getElem?.2 ⟨i, by simp [ho]⟩)
  have h2 := Array.all_eq_true'.1 h1 e he
  simpa [hb] using h2
def waitB (o : Oper) (k : Nat) : Bool := o.after.any fun e => Region.binds .any e && e.on == k
theorem wait_of {o : Oper} {k : Nat} (h : waitB o k = true) : ∃ e ∈ o.after, Region.binds .any e = true ∧ e.on = k := by
  obtain ⟨e, he, hb⟩ := Array.any_eq_true'.1 h
  simp only [Bool.and_eq_true, beq_iff_eq] at hb
  exact ⟨e, he, hb.1, hb.2⟩
def apart2B (l : List Oper) (kA kS : Nat) (oA : Oper) : Bool := l.zipIdx.all fun (o, j) => j == kA || j == kS || oA.apart l.toArray o
theorem apart2_of {l : List Oper} {kA kS : Nat} {oA : Oper} (h : apart2B l kA kS oA = true) (j : Nat) (o : Oper) (ho : l[j]? = some o) (h1 : j ≠ kA) (h2 : j ≠ kS) : oA.apart l.toArray o = true := by
  have := List.all_eq_true.1 h (o, j) (List.mem_iff_getElem?.2 ⟨j, by simp [ho]⟩)
  simpa [h1, h2] using this

/-- The values of a block, laid one behind the other. -/
def storeN (b : Nat) : Nat → List Value → World → World
  | _, [], w => w
  | o, v :: vs, w => storeN b (o + 1) vs (w.setCell ⟨b, o, none⟩ v)
theorem storeN_below {B b : Nat} {w : World} (hB : B ≤ b) : ∀ (vs : List Value) (o : Nat) (w' : World), Below B w w' → Below B w (storeN b o vs w')
  | [], _, _, h => h
  | v :: vs, o, w', h => storeN_below hB vs (o + 1) _ (h.setCell hB v)

def allocB (os : List Oper) (kA kS kV sA sV : Nat) (idx : List Nat) (oA oS oV : Oper) : Bool :=
  (Region.noSelect os.toArray && lexIdxB os.toArray idx (((Array.replicate os.length false).setIfInBounds kA true).setIfInBounds kS true) && onceB os && apart2B os kA kS oA && elderAnyB os) &&
  (oA.guard.isNone && (oA.after.size == 0) && (oA.dst == some sA) && oS.guard.isNone && waitB oS kA && waitB oS kV && (oV.dst == some sV) && decide (kA ≠ kS) && decide (idx.length + 2 = os.length) && idx.all (fun i => decide (i < os.length)))

/-- A region of reads and calls that make memory, a block that is made whenever it comes up, and a store into it. -/
theorem region_alloc {id : Nat} {a : Act} {w : World} {os : List Oper} (kA kS kV sA sV : Nat) (idx : List Nat) (oA oS oV : Oper) (obj : Obj) (vs : List Value) (hoA : os[kA]? = some oA) (hoS : os[kS]? = some oS) (hoV : os[kV]? = some oV) (hch : allocB os kA kS kV sA sV idx oA oS oV = true) (hm : P.follows .mixedOrders = true)
    (hA : ∀ (Q : Exit → Act → World → Prop) (a : Act) (w : World) (K : Act → World → Prop), K (a.put (some sA) (ptrN w.heap.size)) (w.alloc obj) → oA.wpIn Fence.wide 8 P a w K Q)
    (h : ∃ aE : Nat → Act, (∀ W0 b, Below w.heap.size w W0 → wpQuiet P os.toArray (LyingB W0) (fun a' => a' = aE b) (idx.filterMap (fun i => os[i]?)) (a.put (some sA) (ptrN b))) ∧ (∀ b, aE b = (aE 0).put (some sA) (ptrN b)) ∧
      (∀ (Q : Exit → Act → World → Prop) w1 a' w', Below w.heap.size w w1 → Below (w1.alloc obj).heap.size (w1.alloc obj) w' → a'.tmps[sA]? = (aE w1.heap.size).tmps[sA]? → a'.tmps[sV]? = (aE w1.heap.size).tmps[sV]? → ∀ K : Act → World → Prop, K a' (storeN w1.heap.size 0 vs w') → oS.wpIn Fence.wide 8 P a' w' K Q) ∧
      ∀ w1 w' w'', Below w.heap.size w w1 → Below (w1.alloc obj).heap.size (w1.alloc obj) w' → Below (storeN w1.heap.size 0 vs w').heap.size (storeN w1.heap.size 0 vs w') w'' → Q .normal (aE w1.heap.size) w'') : (Code.region id os.toArray true).wp P Q a w := by
  obtain ⟨aE, hD, hE, hS, hT⟩ := h
  simp only [allocB, Bool.and_eq_true, Option.isNone_iff_eq_none, beq_iff_eq, decide_eq_true_eq] at hch
  obtain ⟨⟨⟨⟨⟨s1, s2⟩, s3⟩, s4⟩, s5⟩, ⟨⟨⟨⟨⟨⟨⟨⟨⟨t1, t2⟩, t3⟩, t4⟩, t5⟩, t6⟩, t7⟩, t8⟩, t9⟩, t10⟩⟩ := hch
  have t2' : oA.after = #[] := Array.eq_empty_of_size_eq_zero t2
  refine (wpIn_wide (n := 8)).1 ?_
  refine wpIn_region_any hm ?_
  have hidx : ∀ i ∈ idx, i < os.toArray.size := fun i hi => by simpa using List.all_eq_true.1 t10 i hi
  have k2 := alloc_any (F := Fence.wide) (n := 8) (P := P) (ops := os.toArray) (Q := Q) (W := w) (kA := kA) (kS := kS) (sA := sA) (sV := sV) (oA := oA) (oS := oS) (obj := obj) (aE := aE) (st := fun b w' => storeN b 0 vs w') rfl (Region.noSelect_spec s1) t8
    (by simpa using hoA) t1 t2' t3 (by simpa using hoS) t4 (fun j oj hj => apart2_of s4 j oj (by simpa using hj)) (fun i o ho => elderAny_of s5 i o (by simpa using ho))
    (by have := once_of (of_decide_eq_true s3); intro i j o o' s; rw [List.getElem?_toArray, List.getElem?_toArray]; exact this i j o o' s)
    (wait_of t5) (by obtain ⟨e, he, hb, hon⟩ := wait_of t6; exact ⟨e, he, hb, oV, by rw [hon]; simpa using hoV, t7⟩) (hA Q) hE
    (fun w1 w' h1 h2 => storeN_below h1.size vs 0 w' ((h1.alloc h1.size obj).trans (h2.mono (by have := h1.size; simp; omega))))
    (hS Q) hT idx.length (Array.replicate os.toArray.size false) a { w with drawn := w.drawn + 1 } (by simp)
    (by rw [Array.getD_eq_getD_getElem?, Array.getElem?_replicate, if_pos (by simpa using (List.getElem?_eq_some_iff.1 hoA).1)]; rfl)
    (by rw [Array.getD_eq_getD_getElem?, Array.getElem?_replicate, if_pos (by simpa using (List.getElem?_eq_some_iff.1 hoS).1)]; rfl) (lyingB_drew w)
    (fun W0 b hW0 => by
      have hq := quiet_wide (n := 8) (hD W0 b hW0)
      have hl : os.toArray.size = os.length := by simp
      rw [hl]
      refine lex_idx (F := Fence.wide) (n := 8) s1 idx _ _ hidx s2 ?_
      simpa using hq)
  rw [show idx.length + 1 + 1 = os.toArray.size by simp; omega] at k2
  exact k2
end
end Go.Proofs.Ytcipilggddpnpaa

/-
  timers.Queue: set.
-/
namespace Go.Proofs.Ytcipilggddpnpaa
open Go.RowKit Go.Shelf Go.Maps
set_option linter.unusedVariables false
set_option linter.unusedSimpArgs false

/-- A key in a block of its own, known whole. -/
def B2 (W : World) (b : Nat) (x y : Int) : Prop := W.heap[b]? = some (.cells #[.int .i64 x, .int .i64 y] 37 (0, 0))
theorem B2.lt {W : World} {b : Nat} {x y : Int} (h : B2 W b x y) : b < W.heap.size := (Array.getElem?_eq_some_iff.1 h).1
theorem B2.cells {W : World} {b : Nat} {x y : Int} (h : B2 W b x y) : W.cell? ⟨b, 0, none⟩ = some (.int .i64 x) ∧ W.cell? ⟨b, 1, none⟩ = some (.int .i64 y) := by
  unfold B2 at h
  refine ⟨?_, ?_⟩ <;> simp [World.cell?, h]
theorem B2.thaw {W : World} {b : Nat} {x y : Int} (h : B2 W b x y) : W.frozen? ⟨b, 0, none⟩ = false ∧ W.frozen? ⟨b, 1, none⟩ = false := by
  unfold B2 at h
  refine ⟨?_, ?_⟩ <;> simp [World.frozen?, h]
theorem B2.next {W W' : World} {b : Nat} {x y : Int} (h : B2 W b x y) (hb : Below W.heap.size W W') : B2 W' b x y := (hb.block b h.lt).trans h
theorem B2.start (w : World) (x y : Int) : B2 (w.alloc (.cells #[.int .i64 x, .int .i64 y] 37)) w.heap.size x y := by
  unfold B2
  show (w.heap.push _)[w.heap.size]? = _
  simp
theorem B2.alloc {W : World} {b : Nat} {x y : Int} (h : B2 W b x y) (o : Obj) : B2 (W.alloc o) b x y := h.next ((Below.refl _ _).alloc (Nat.le_refl _) _)
theorem B2.set {W : World} {b : Nat} {x y : Int} (h : B2 W b x y) (x' y' : Int) : B2 ((W.setCell ⟨b, 0, none⟩ (.int .i64 x')).setCell ⟨b, 1, none⟩ (.int .i64 y')) b x' y' := by
  unfold B2 at h ⊢
  simp [World.setCell, Array.getElem?_modify, h]
theorem B2.far {W : World} {b c : Nat} {x y : Int} (h : B2 W b x y) (hc : b ≠ c) (o : Nat) (v : Value) : B2 (W.setCell ⟨c, o, none⟩ v) b x y := by
  unfold B2 at h ⊢
  rw [Below.heap_setCell _ _ _ _ hc]
  exact h
theorem B2.kept {W W' : World} {b : Nat} {x y : Int} {S : Nat → Prop} (h : B2 W b x y) (k : Kept S W W') (hs : ¬ S b) : B2 W' b x y := (k.block b h.lt hs).trans h
theorem kept_lies {S : Nat → Prop} {W W' : World} (h : Below W.heap.size W W') : Kept S W W' := ⟨h.os, h.tape, h.output, h.size, fun k hk _ => h.block k hk⟩
theorem LeftQ.lies {B : Nat} {w w' : World} {q : QB} {L : List Ent} (h : Qs B w q L) (b : Below w.heap.size w w') : LeftQ B w w' q q L :=
  ⟨h.kept (kept_lies (S := fun _ => False) b) (fun _ _ x => x), ⟨rfl, rfl⟩, kept_lies b, fun _ x => .inl x⟩
theorem below_da (V : World) (o : Obj) : Below V.heap.size V (V.drew.alloc o) := (show Below V.heap.size V V.drew from ⟨rfl, rfl, rfl, Nat.le_refl _, fun _ _ => rfl⟩).alloc (Nat.le_refl _) o
theorem b2_da (V : World) (x y : Int) : B2 (V.drew.alloc (.cells #[.int .i64 x, .int .i64 y] 37)) V.heap.size x y := B2.start V.drew x y
theorem keep1' {W W' : World} {p : Addr} {v : Value} (h : W.cell? p = some v) (hb : Below W.heap.size W W') : W'.cell? p = some v := by
  rcases Nat.lt_or_ge p.block W.heap.size with hlt | hge
  · rw [hb.cell hlt]; exact h
  · simp [World.cell?, Array.getElem?_eq_none hge] at h
theorem keep3 {W W' : World} {p1 p2 p3 : Addr} {v1 v2 v3 : Value} (h : W.cell? p1 = some v1 ∧ W.cell? p2 = some v2 ∧ W.cell? p3 = some v3) (hb : Below W.heap.size W W') : W'.cell? p1 = some v1 ∧ W'.cell? p2 = some v2 ∧ W'.cell? p3 = some v3 :=
  ⟨keep1' h.1 hb, keep1' h.2.1 hb, keep1' h.2.2 hb⟩
end Go.Proofs.Ytcipilggddpnpaa

/-
  timers.Queue: set as one contract; Arm.
-/
namespace Go.Proofs.Ytcipilggddpnpaa
open Go.RowKit Go.Shelf Go.Maps
set_option linter.unusedVariables false
set_option linter.unusedSimpArgs false

/-- What is armed behind an Arm that is taken. -/
def armL (L : List Ent) (x : Ent) : List Ent := x :: L.filter (fun y => y.1 != x.1)
/-- There is room for it, or it is armed. -/
def Room (m : Int) (L : List Ent) (id : Int) : Prop := (∃ y ∈ L, y.1 = id) ∨ (L.length : Int) < m

theorem filter_all {L : List Ent} {id : Int} (h : ∀ y ∈ L, y.1 ≠ id) : L.filter (fun y => y.1 != id) = L := List.filter_eq_self.2 fun y hy => by simpa using h y hy
theorem any_no {L : List Ent} {id : Int} (h : ∀ y ∈ L, y.1 ≠ id) : L.any (fun y => y.1 == id) = false := by
  rw [List.any_eq_false]
  intro y hy
  simpa using h y hy

theorem armL_diff {L : List Ent} {x : Ent} (hd : L.Pairwise (fun x y => x.1 ≠ y.1)) : (armL L x).Pairwise (fun x y => x.1 ≠ y.1) :=
  List.pairwise_cons.2 ⟨fun y hy => by have := (List.mem_filter.1 hy).2; simp at this; exact fun e => this e.symm, hd.filter _⟩
end Go.Proofs.Ytcipilggddpnpaa

/-
  timers.Queue: fire: what it keeps in memory, round by round.
-/
namespace Go.Proofs.Ytcipilggddpnpaa
open Go.RowKit Go.Shelf Go.Maps
set_option linter.unusedVariables false
set_option linter.unusedSimpArgs false

/-- The cells of timers that came to be due. -/
def flatF (now : Int) : List Ent → List Value
  | [] => []
  | x :: r => .int .i64 x.1 :: .int .i64 x.2 :: .int .i64 (now - x.2) :: flatF now r
theorem flatF_append (now : Int) : ∀ (a b : List Ent), flatF now (a ++ b) = flatF now a ++ flatF now b
  | [], _ => rfl
  | x :: a, b => by rw [List.cons_append, flatF, flatF, flatF_append now a b]; rfl
theorem len_flatF (now : Int) : ∀ R : List Ent, (flatF now R).length = R.length * 3
  | [] => rfl
  | x :: r => by rw [flatF, List.length_cons, List.length_cons, List.length_cons, len_flatF now r, List.length_cons]; omega
end Go.Proofs.Ytcipilggddpnpaa

/-
  timers.Queue: fire.
-/
namespace Go.Proofs.Ytcipilggddpnpaa
open Go.RowKit Go.Shelf Go.Maps
set_option linter.unusedVariables false
set_option linter.unusedSimpArgs false

theorem timeE_may5 {t : Int} (h : timeE t = 0) : 0 ≤ t ∧ t < 1099511627776 := by
  by_cases hh : t < 0 ∨ 1099511627776 ≤ t
  · exact absurd h (timeE_ne hh)
  · omega
/-- What was taken away, in order, and what is left. -/
structure DueI (now o : Int) (L D Lc : List Ent) (o' : Int) : Prop where
  perm : L.Perm (D ++ Lc)
  sorted : Sorted D
  ahead : ∀ x ∈ D, ∀ y ∈ Lc, ah x y = true
  early : ∀ x ∈ D, x.2 ≤ now
  worst : o' = D.foldl (fun m x => max m (now - x.2)) o
theorem DueI.start (now o : Int) (L : List Ent) : DueI now o L [] L o := ⟨List.Perm.refl _, List.Pairwise.nil, (fun x hx => by cases hx), (fun x hx => by cases hx), rfl⟩
theorem nodup_of_diff {L : List Ent} (hd : L.Pairwise (fun x y => x.1 ≠ y.1)) : L.Nodup := hd.imp (fun h e => h (by rw [e]))
theorem DueI.step {now o : Int} {L D Lc : List Ent} {o' i1 a1 : Int} (h : DueI now o L D Lc o') (hd : Lc.Pairwise (fun x y => x.1 ≠ y.1)) (hf : IsFirst Lc (i1, a1)) (ha : a1 ≤ now) : DueI now o L (D ++ [(i1, a1)]) (Lc.erase (i1, a1)) (max o' (now - a1)) := by
  refine ⟨?_, ?_, ?_, ?_, ?_⟩
  · have p1 : Lc.Perm ((i1, a1) :: Lc.erase (i1, a1)) := List.perm_cons_erase hf.1
    rw [List.append_assoc]
    exact h.perm.trans (p1.append_left D)
  · exact List.pairwise_append.2 ⟨h.sorted, List.pairwise_singleton _ _, fun x hx y hy => by
      obtain rfl := List.mem_singleton.1 hy
      exact h.ahead x hx _ hf.1⟩
  · intro x hx y hy
    have hy' := List.mem_of_mem_erase hy
    rcases List.mem_append.1 hx with hx | hx
    · exact h.ahead x hx y hy'
    · obtain rfl := List.mem_singleton.1 hx
      exact hf.2 y hy' (fun e => (List.Nodup.not_mem_erase (nodup_of_diff hd)) (e ▸ hy))
  · intro x hx
    rcases List.mem_append.1 hx with hx | hx
    · exact h.early x hx
    · obtain rfl := List.mem_singleton.1 hx
      exact ha
  · rw [List.foldl_append, ← h.worst]
    rfl

theorem has_first : ∀ {L : List Ent}, L ≠ [] → L.Pairwise (fun x y => x.1 ≠ y.1) → ∃ x, IsFirst L x
  | [], h, _ => absurd rfl h
  | [x], _, _ => ⟨x, List.mem_singleton.2 rfl, fun y hy hne => absurd (List.mem_singleton.1 hy) hne⟩
  | x :: z :: r, _, hd => by
    obtain ⟨hx, hr⟩ := List.pairwise_cons.1 hd
    obtain ⟨y, hy, hm⟩ := has_first (L := z :: r) (by simp) hr
    rcases ah_total (hx y hy) with e | e
    · refine ⟨x, List.mem_cons_self, fun u hu hne => ?_⟩
      rcases List.mem_cons.1 hu with rfl | hu
      · exact absurd rfl hne
      · by_cases huy : u = y
        · subst huy; exact e
        · have e2 := hm u hu huy
          rw [ah_eq] at e e2 ⊢
          simp only [decide_eq_true_eq] at e e2 ⊢
          omega
    · refine ⟨y, List.mem_cons_of_mem _ hy, fun u hu hne => ?_⟩
      rcases List.mem_cons.1 hu with rfl | hu
      · exact e
      · exact hm u hu hne

/-- What First tells of them. -/
def Fst (L : List Ent) (a1 i1 e1 : Int) : Prop := (e1 = 0 ∧ IsFirst L (i1, a1)) ∨ (e1 = 14 ∧ L = [])
theorem qfirst_gen {B : Nat} {W : World} {q : QB} {L : List Ent} (h : Qs B W q L) (hd : L.Pairwise (fun x y => x.1 ≠ y.1)) :
    ∃ a1 i1 e1, Fst L a1 i1 e1 ∧ Calls Try.prog 28 #[.pointer (some ⟨q.qb, 0, none⟩)] W fun E w' => E = .returned (.tuple #[.agg #[.int .i64 a1, .int .i64 i1], .int .i64 e1]) ∧ Grew W w' := by
  by_cases hL : L = []
  · subst hL
    exact ⟨0, 0, 14, .inr ⟨rfl, rfl⟩, qfirst_nil h⟩
  · obtain ⟨x, hx⟩ := has_first hL hd
    exact ⟨x.2, x.1, 0, .inl ⟨rfl, hx⟩, qfirst_any h x hx⟩

end Go.Proofs.Ytcipilggddpnpaa

/-
  timers.Queue: Due.
-/
namespace Go.Proofs.Ytcipilggddpnpaa
open Go.RowKit Go.Shelf Go.Maps
set_option linter.unusedVariables false
set_option linter.unusedSimpArgs false

end Go.Proofs.Ytcipilggddpnpaa

/-
  The chapter's example of timers: the law's awake.
-/
namespace Go.Proofs.Ytcipilggddpnpaa
open Go.RowKit Go.Shelf Go.Maps
set_option linter.unusedVariables false
set_option linter.unusedSimpArgs false

def exTm : List Ent := [(2, 4), (1, 10), (3, 10)]
theorem ex_sorted5 : Sorted exTm := by
  unfold Sorted exTm
  simp [ah_eq]
theorem ex_due {D Lc : List Ent} {o' : Int} (h : DueI 12 0 exTm D Lc o') (hl : ∀ y ∈ Lc, 12 < y.2) : D = exTm ∧ o' = 8 := by
  have hnil : Lc = [] := by
    cases Lc with
    | nil => rfl
    | cons y r =>
      exfalso
      have hy := hl y List.mem_cons_self
      have hm : y ∈ exTm := h.perm.mem_iff.2 (List.mem_append_right _ List.mem_cons_self)
      unfold exTm at hm
      simp only [List.mem_cons, List.not_mem_nil, or_false] at hm
      rcases hm with rfl | rfl | rfl <;> simp at hy
  subst hnil
  have hp := h.perm
  rw [List.append_nil] at hp
  have e : D = exTm := sorted_eq hp.symm h.sorted ex_sorted5
  refine ⟨e, ?_⟩
  rw [h.worst, e]
  decide

end Go.Proofs.Ytcipilggddpnpaa
