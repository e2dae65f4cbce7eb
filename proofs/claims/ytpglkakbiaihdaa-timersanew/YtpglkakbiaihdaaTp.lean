/-
  Two queues of timers side by side: what a call of one leaves of the other (for TimersAnew, TimersCopies, TimersNext).
-/
import Derived.Test.YtpglkakbiaihdaaTx1
namespace Go.Proofs.Ytpglkakbiaihdaa
open Go.RowKit Go.Shelf Go.Maps
set_option linter.unusedVariables false
set_option linter.unusedSimpArgs false

/-- Timers at ta and at tb, without a common block. -/
structure Duo (w W : World) (ta : Nat) (qa : QB) (ma na oa : Int) (La : List Ent) (tb : Nat) (qb : QB) (mb nb ob : Int) (Lb : List Ent) : Prop where
  a : Ts w.heap.size W ta qa ma na oa La
  b : Ts w.heap.size W tb qb mb nb ob Lb
  ab : ∀ k, qa.own k ∨ k = ta → ¬ (qb.own k ∨ k = tb)
  low : Below w.heap.size w W
theorem Duo.symm {w W : World} {ta : Nat} {qa : QB} {ma na oa : Int} {La : List Ent} {tb : Nat} {qb : QB} {mb nb ob : Int} {Lb : List Ent} (h : Duo w W ta qa ma na oa La tb qb mb nb ob Lb) : Duo w W tb qb mb nb ob Lb ta qa ma na oa La :=
  ⟨h.b, h.a, fun k hb ha => h.ab k ha hb, h.low⟩
theorem Duo.lies {w W W' : World} {ta : Nat} {qa : QB} {ma na oa : Int} {La : List Ent} {tb : Nat} {qb : QB} {mb nb ob : Int} {Lb : List Ent} (h : Duo w W ta qa ma na oa La tb qb mb nb ob Lb) (b : Below W.heap.size W W') : Duo w W' ta qa ma na oa La tb qb mb nb ob Lb :=
  ⟨h.a.lies b, h.b.lies b, h.ab, h.low.trans (b.mono h.low.size)⟩
theorem Duo.ltB {w W : World} {ta : Nat} {qa : QB} {ma na oa : Int} {La : List Ent} {tb : Nat} {qb : QB} {mb nb ob : Int} {Lb : List Ent} (h : Duo w W ta qa ma na oa La tb qb mb nb ob Lb) : ∀ k, qb.own k ∨ k = tb → k < W.heap.size := fun k hk => by
  rcases hk with hk | rfl
  · exact h.b.queue.lt k hk
  · exact h.b.lt
/-- Behind a call of the first one's queue. -/
theorem Duo.turn {w W W' : World} {ta : Nat} {qa qa' : QB} {ma na oa : Int} {La La' : List Ent} {tb : Nat} {qb : QB} {mb nb ob : Int} {Lb : List Ent} (h : Duo w W ta qa ma na oa La tb qb mb nb ob Lb) (l : LeftQ w.heap.size W W' qa qa' La') (hd : La'.Pairwise (fun x y => x.1 ≠ y.1)) (hg : ∀ x ∈ La', (0 ≤ x.1 ∧ timeE x.2 = 0) ∧ Is64 x.1 ∧ Is64 x.2) :
    Duo w W' ta qa' ma na oa La' tb qb mb nb ob Lb := by
  refine ⟨h.a.left l hd hg, h.b.kept l.kept (fun k hk ht => h.ab k (.inl (.inl ht)) hk), fun k hk hb => ?_, h.low.trans (l.below h.a.queue h.low.size)⟩
  rcases hk with hk | rfl
  · rcases l.owns k hk with e | e
    · exact h.ab k (.inl e) hb
    · have := h.ltB k hb
      omega
  · exact h.ab k (.inr rfl) hb
/-- .. an Arm that is taken. -/
theorem Duo.arm {w W W' : World} {ta : Nat} {qa qa' : QB} {ma na oa : Int} {La : List Ent} {tb : Nat} {qb : QB} {mb nb ob : Int} {Lb : List Ent} {id at_ : Int} (h : Duo w W ta qa ma na oa La tb qb mb nb ob Lb) (l : LeftQ w.heap.size W W' qa qa' (armL La (id, at_))) (hid : 0 ≤ id) (hat : timeE at_ = 0) (hx : Is64 id ∧ Is64 at_) :
    Duo w W' ta qa' ma na oa (armL La (id, at_)) tb qb mb nb ob Lb :=
  h.turn l (armL_diff h.a.diff) (h.a.arm l hid hat hx).good
/-- .. a Cancel of one that is armed. -/
theorem Duo.cancel {w W W' : World} {ta : Nat} {qa : QB} {ma na oa : Int} {La : List Ent} {tb : Nat} {qb : QB} {mb nb ob : Int} {Lb : List Ent} (h : Duo w W ta qa ma na oa La tb qb mb nb ob Lb) (x : Ent) (l : LeftQ w.heap.size W W' qa qa (La.erase x)) : Duo w W' ta qa ma na oa (La.erase x) tb qb mb nb ob Lb :=
  h.turn l (h.a.diff.sublist List.erase_sublist) (fun y hy => h.a.good y (List.mem_of_mem_erase hy))
/-- .. a Due. -/
theorem Duo.due {w W W' : World} {ta : Nat} {qa : QB} {ma na na' oa oa' : Int} {La La' : List Ent} {tb : Nat} {qb : QB} {mb nb ob : Int} {Lb : List Ent} (h : Duo w W ta qa ma na oa La tb qb mb nb ob Lb) (t : Ts w.heap.size W' ta qa ma na' oa' La') (k : Kept (fun k => qa.turns k ∨ k = ta) W W') : Duo w W' ta qa ma na' oa' La' tb qb mb nb ob Lb :=
  ⟨t, h.b.kept k (fun b hb e => by
    rcases e with e | e
    · exact h.ab b (.inl (.inl e)) hb
    · exact h.ab b (.inr e) hb), h.ab, h.low.trans (k.below h.low.size (fun b hb => by
    rcases hb with hb | rfl
    · exact h.a.queue.from b (.inl hb)
    · exact h.a.base))⟩
/-- Two new ones. -/
theorem duo_new {w w1 w2 : World} {ta tb : Nat} {qa qb : QB} {m : Int} (ha : Ts w.heap.size w1 ta qa m 0 0 []) (ga : Below w.heap.size w w1) (hb : Ts w.heap.size w2 tb qb m 0 0 []) (gb : Grew w1 w2) (ob : w1.heap.size ≤ tb) (oq : ∀ k, qb.own k → w1.heap.size ≤ k) : Duo w w2 ta qa m 0 0 [] tb qb m 0 0 [] := by
  refine ⟨ha.grew gb, hb, fun k hk hk2 => ?_, ga.trans (gb.below.mono ga.size)⟩
  have h1 : k < w1.heap.size := by
    rcases hk with hk | rfl
    · exact ha.queue.lt k hk
    · exact ha.lt
  rcases hk2 with hk2 | rfl
  · have := oq k hk2
    omega
  · omega

/-- What two steps of the clock take away is what one step takes away, in the same order. -/
theorem due_twice {t1 t2 o o1 o2 p2 : Int} {L D1 L1 D2 L2 D L3 : List Ent} (ht : t1 ≤ t2) (h1 : DueI t1 o L D1 L1 o1) (l1 : ∀ y ∈ L1, t1 < y.2) (h2 : DueI t2 o1 L1 D2 L2 o2) (l2 : ∀ y ∈ L2, t2 < y.2) (h3 : DueI t2 o L D L3 p2) (l3 : ∀ y ∈ L3, t2 < y.2) : D1 ++ D2 = D := by
  have s : Sorted (D1 ++ D2) := List.pairwise_append.2 ⟨h1.sorted, h2.sorted, fun x hx y hy => h1.ahead x hx y (h2.perm.mem_iff.2 (List.mem_append_left _ hy))⟩
  have p : L.Perm ((D1 ++ D2) ++ L2) := by
    rw [List.append_assoc]
    exact h1.perm.trans (h2.perm.append_left D1)
  have f1 : (L.filter (fun x => decide (x.2 ≤ t2))).Perm (D1 ++ D2) := by
    have q := p.filter (fun x => decide (x.2 ≤ t2))
    rw [List.filter_append] at q
    have e1 : (D1 ++ D2).filter (fun x => decide (x.2 ≤ t2)) = D1 ++ D2 := List.filter_eq_self.2 fun x hx => by
      rcases List.mem_append.1 hx with hx | hx
      · have := h1.early x hx
        exact decide_eq_true (by omega)
      · exact decide_eq_true (h2.early x hx)
    have e2 : L2.filter (fun x => decide (x.2 ≤ t2)) = [] := List.filter_eq_nil_iff.2 fun x hx => by
      have := l2 x hx
      simp
      omega
    rw [e1, e2, List.append_nil] at q
    exact q
  have f2 : (L.filter (fun x => decide (x.2 ≤ t2))).Perm D := by
    have q := h3.perm.filter (fun x => decide (x.2 ≤ t2))
    rw [List.filter_append] at q
    have e1 : D.filter (fun x => decide (x.2 ≤ t2)) = D := List.filter_eq_self.2 fun x hx => decide_eq_true (h3.early x hx)
    have e2 : L3.filter (fun x => decide (x.2 ≤ t2)) = [] := List.filter_eq_nil_iff.2 fun x hx => by
      have := l3 x hx
      simp
      omega
    rw [e1, e2, List.append_nil] at q
    exact q
  exact sorted_eq (f1.symm.trans f2) s h3.sorted
end Go.Proofs.Ytpglkakbiaihdaa
