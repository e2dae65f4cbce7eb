/-
  Binary heaps as plain lists: what rise and sink keep, and what they bring about. No program here.
-/
import Derived.Sort.Statements
namespace Go.Proofs.Ytcipilggddpnpaa.Hp
open Go.Sort
set_option linter.unusedVariables false
set_option linter.unusedSimpArgs false
variable {α : Type}

/-- lt is a strict weak order, as far as it is asked. -/
structure Weak (lt : α → α → Bool) : Prop where
  asym : ∀ x y, lt x y = true → lt y x = false
  ntr : ∀ x y z, lt x y = false → lt y z = false → lt x z = false

theorem Weak.irr {lt : α → α → Bool} (h : Weak lt) (x : α) : lt x x = false := by
  cases e : lt x x
  · rfl
  · have := h.asym x x e; rw [e] at this; cases this
theorem Weak.tr {lt : α → α → Bool} (h : Weak lt) {x y z : α} (h1 : lt x y = true) (h2 : lt y z = true) : lt x z = true := by
  cases e : lt x z
  · have := h.ntr x z y e (h.asym y z h2)
    rw [h1] at this; cases this
  · rfl
/-- not (x ahead of y), z ahead of y: not (x ahead of z). -/
theorem Weak.left {lt : α → α → Bool} (h : Weak lt) {x y z : α} (h1 : lt x y = false) (h2 : lt z y = true) : lt x z = false := by
  cases e : lt x z
  · rfl
  · rw [h.tr e h2] at h1; cases h1
theorem Weak.swo {lt : α → α → Bool} (h : Weak lt) : SWO lt := ⟨h.irr, fun _ _ _ => h.tr, h.ntr⟩

def pr (i : Nat) : Nat := (i - 1) / 2
def swf (e : Nat → α) (a b : Nat) : Nat → α := fun j => if j = b then e a else if j = a then e b else e j

section
variable (lt : α → α → Bool)
def Heapy (e : Nat → α) (n : Nat) : Prop := ∀ i, 0 < i → i < n → lt (e i) (e (pr i)) = false

/-- All stand well but for p, and what is below it. -/
structure Rises (e : Nat → α) (n p : Nat) (Z : Prop) : Prop where
  rest : ∀ i, 0 < i → i < n → i ≠ p → pr i ≠ p → lt (e i) (e (pr i)) = false
  over : ∀ c, 0 < c → c < n → pr c = p → 0 < p → lt (e c) (e (pr p)) = false
  under : Z → ∀ c, 0 < c → c < n → pr c = p → lt (e c) (e p) = false

/-- All stand well but for what is below p. -/
structure Sinks (e : Nat → α) (n p : Nat) : Prop where
  rest : ∀ i, 0 < i → i < n → pr i ≠ p → lt (e i) (e (pr i)) = false
  over : ∀ c, 0 < c → c < n → pr c = p → 0 < p → lt (e c) (e (pr p)) = false
end
variable {lt : α → α → Bool}

theorem pr_lt {p : Nat} (h : 0 < p) : pr p < p := by unfold pr; omega
theorem pr_eq {c p : Nat} (h : 0 < c) : pr c = p ↔ c = 2 * p + 1 ∨ c = 2 * p + 2 := by unfold pr; omega

theorem Rises.stop {e : Nat → α} {n p : Nat} {Z : Prop} (h : Rises lt e n p Z) (hs : p = 0 ∨ lt (e p) (e (pr p)) = false) : Sinks lt e n p := by
  refine ⟨fun i h0 hn hp => ?_, h.over⟩
  by_cases e1 : i = p
  · subst e1
    rcases hs with hs | hs
    · omega
    · exact hs
  · exact h.rest i h0 hn e1 hp
theorem Rises.done {e : Nat → α} {n p : Nat} (h : Rises lt e n p True) (hs : p = 0 ∨ lt (e p) (e (pr p)) = false) : Heapy lt e n := by
  intro i h0 hn
  by_cases e1 : pr i = p
  · rw [e1]; exact h.under trivial i h0 hn e1
  · exact (h.stop hs).rest i h0 hn e1

theorem Rises.step (hW : Weak lt) {e : Nat → α} {n p : Nat} {Z : Prop} (h : Rises lt e n p Z) (hp : 0 < p) (hpn : p < n) (ha : lt (e p) (e (pr p)) = true) : Rises lt (swf e p (pr p)) n (pr p) Z := by
  obtain ⟨q, hq⟩ : ∃ q, pr p = q := ⟨_, rfl⟩
  rw [hq] at ha ⊢
  have hqp : q < p := by rw [← hq]; exact pr_lt hp
  have f1 : swf e p q q = e p := by unfold swf; rw [if_pos rfl]
  have f2 : swf e p q p = e q := by unfold swf; rw [if_neg (by omega), if_pos rfl]
  have f3 : ∀ j, j ≠ p → j ≠ q → swf e p q j = e j := fun j h1 h2 => by unfold swf; rw [if_neg h2, if_neg h1]
  -- a sibling, or p itself, against e p
  have sib : ∀ c, 0 < c → c < n → pr c = q → c ≠ p → lt (e c) (e q) = false := fun c h0 hn hc hne => by
    have := h.rest c h0 hn hne (by omega)
    rwa [hc] at this
  refine ⟨fun i h0 hn h1 h2 => ?_, fun c h0 hn hc hq0 => ?_, fun _ c h0 hn hc => ?_⟩
  · by_cases i1 : i = p
    · subst i1; exact absurd hq h2
    · rw [f3 i i1 h1]
      by_cases i2 : pr i = p
      · rw [i2, f2]
        have := h.over i h0 hn i2 hp
        rw [hq] at this; exact this
      · rw [f3 _ i2 h2]
        exact h.rest i h0 hn i1 i2
  · have hqq : lt (e q) (e (pr q)) = false := h.rest q hq0 (by omega) (by omega) (by have := pr_lt hq0; omega)
    have g : swf e p q (pr q) = e (pr q) := f3 _ (by have := pr_lt hq0; omega) (by have := pr_lt hq0; omega)
    rw [g]
    by_cases c1 : c = p
    · subst c1; rw [f2]; exact hqq
    · rw [f3 c c1 (by have := pr_lt h0; omega)]
      exact hW.ntr _ _ _ (sib c h0 hn hc c1) hqq
  · rw [f1]
    by_cases c1 : c = p
    · subst c1; rw [f2]; exact hW.asym _ _ ha
    · rw [f3 c c1 (by have := pr_lt h0; omega)]
      exact hW.left (sib c h0 hn hc c1) ha

theorem Sinks.done {e : Nat → α} {n p : Nat} (h : Sinks lt e n p) (hc : ∀ c, 0 < c → c < n → pr c = p → lt (e c) (e p) = false) : Heapy lt e n := by
  intro i h0 hn
  by_cases e1 : pr i = p
  · rw [e1]; exact hc i h0 hn e1
  · exact h.rest i h0 hn e1

theorem Sinks.step (hW : Weak lt) {e : Nat → α} {n p c : Nat} (h : Sinks lt e n p) (hc0 : 0 < c) (hcn : c < n) (hcp : pr c = p) (ha : lt (e c) (e p) = true) (hl : ∀ s, 0 < s → s < n → pr s = p → lt (e s) (e c) = false) : Sinks lt (swf e p c) n c := by
  have hpc : p < c := by rw [← hcp]; exact pr_lt hc0
  have f1 : swf e p c c = e p := by unfold swf; rw [if_pos rfl]
  have f2 : swf e p c p = e c := by unfold swf; rw [if_neg (by omega), if_pos rfl]
  have f3 : ∀ j, j ≠ p → j ≠ c → swf e p c j = e j := fun j h1 h2 => by unfold swf; rw [if_neg h2, if_neg h1]
  refine ⟨fun i h0 hn h1 => ?_, fun d h0 hn hd _ => ?_⟩
  · by_cases i1 : i = c
    · subst i1; rw [hcp, f1, f2]; exact hW.asym _ _ ha
    · by_cases i2 : i = p
      · subst i2
        rw [f2, f3 _ (by have := pr_lt h0; omega) h1]
        exact h.over c hc0 hcn hcp h0
      · rw [f3 i i2 i1]
        by_cases i3 : pr i = p
        · rw [i3, f2]; exact hl i h0 hn i3
        · rw [f3 _ i3 h1]; exact h.rest i h0 hn i3
  · rw [hcp, f2]
    have : c < d := by rw [← hd]; exact pr_lt h0
    rw [f3 d (by omega) (by omega)]
    have := h.rest d h0 hn (by omega)
    rwa [hd] at this

/-- The first one is the least. -/
theorem Heapy.least (hW : Weak lt) {e : Nat → α} {n : Nat} (h : Heapy lt e n) : ∀ i, i < n → lt (e i) (e 0) = false := by
  intro i
  induction i using Nat.strongRecOn with
  | ind i ih =>
    intro hn
    by_cases h0 : i = 0
    · subst h0; exact hW.irr _
    · have hp := pr_lt (p := i) (by omega)
      exact hW.ntr _ _ _ (h i (by omega) hn) (ih (pr i) hp (by omega))

theorem Heapy.rises {e : Nat → α} {n : Nat} (h : Heapy lt e n) : Rises lt e (n + 1) n True := by
  refine ⟨fun i h0 hn h1 _ => h i h0 (by omega), fun c h0 hn hc hp => ?_, fun _ c h0 hn hc => ?_⟩
  · have := pr_lt h0; omega
  · have := pr_lt h0; omega

/-- One entry is turned: all stand well but for it and what is below it. -/
theorem Heapy.turned (hW : Weak lt) {e e' : Nat → α} {n p : Nat} (h : Heapy lt e n) (hp : p < n) (he : ∀ j, j ≠ p → e' j = e j) (Z : Prop) (hZ : ¬ Z) : Rises lt e' n p Z := by
  refine ⟨fun i h0 hn h1 h2 => ?_, fun c h0 hn hc hp0 => ?_, fun z => absurd z hZ⟩
  · rw [he i h1, he _ h2]; exact h i h0 hn
  · have h1 := pr_lt h0
    have h2 := pr_lt hp0
    rw [he c (by omega), he (pr p) (by omega)]
    have h3 := h c h0 hn
    rw [hc] at h3
    exact hW.ntr _ _ _ h3 (h p hp0 (by omega))

theorem Heapy.cut {e : Nat → α} {n m : Nat} (h : Heapy lt e n) (hm : m ≤ n) : Heapy lt e m := fun i h0 hn => h i h0 (by omega)
theorem Heapy.congr {e e' : Nat → α} {n : Nat} (h : Heapy lt e n) (he : ∀ i, i < n → e' i = e i) : Heapy lt e' n := fun i h0 hn => by
  rw [he i hn, he (pr i) (by have := pr_lt h0; omega)]; exact h i h0 hn
theorem Rises.congr {e e' : Nat → α} {n p : Nat} {Z : Prop} (h : Rises lt e n p Z) (hpn : p < n) (he : ∀ i, i < n → e' i = e i) : Rises lt e' n p Z := by
  refine ⟨fun i h0 hn h1 h2 => ?_, fun c h0 hn hc hp => ?_, fun z c h0 hn hc => ?_⟩
  · rw [he i hn, he (pr i) (by have := pr_lt h0; omega)]; exact h.rest i h0 hn h1 h2
  · rw [he c hn, he (pr p) (by have := pr_lt hp; omega)]; exact h.over c h0 hn hc hp
  · rw [he c hn, he p hpn]; exact h.under z c h0 hn hc
theorem Sinks.congr {e e' : Nat → α} {n p : Nat} (h : Sinks lt e n p) (hpn : p < n) (he : ∀ i, i < n → e' i = e i) : Sinks lt e' n p := by
  refine ⟨fun i h0 hn h2 => ?_, fun c h0 hn hc hp => ?_⟩
  · rw [he i hn, he (pr i) (by have := pr_lt h0; omega)]; exact h.rest i h0 hn h2
  · rw [he c hn, he (pr p) (by have := pr_lt hp; omega)]; exact h.over c h0 hn hc hp
end Go.Proofs.Ytcipilggddpnpaa.Hp
