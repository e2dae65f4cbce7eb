/-
  admit's law: what the document's sums and bounds are to one another.
-/
import Derived.Test.YtfjepkakimhbbaaAi
namespace Go.Proofs.Ytfjepkakimhbbaa
open Go.RowKit Go.Sort Go.Shelf Go.Maps
set_option linter.unusedVariables false
set_option linter.unusedSimpArgs false

theorem divQ_anti {a b c c' : Nat} (hc : 0 < c) (h : c ≤ c') : divQ a b c' true ≤ divQ a b c true := by
  have h1 := (divQ_up (a := a) (b := b) hc).1
  have h2 := (divQ_up (a := a) (b := b) (Nat.lt_of_lt_of_le hc h)).2
  rcases Nat.lt_or_ge (divQ a b c true) (divQ a b c' true) with hlt | hge
  · have h3 : (divQ a b c true + 1) * c' ≤ divQ a b c' true * c' := Nat.mul_le_mul_right _ hlt
    have h4 : divQ a b c true * c ≤ divQ a b c true * c' := Nat.mul_le_mul_left _ h
    rw [Nat.add_mul, Nat.one_mul] at h3
    omega
  · exact hge
theorem up_use {p : Pa} (hp : okB p = true) : upA false p ≤ upA true p := by
  have hm := okB_may hp
  rw [upA_eq false hp, upA_eq true hp]
  have := divQ_anti (a := p.1.toNat) (b := 1048576) (c := p.2.1.toNat) (c' := p.2.2.toNat) (by omega) (by omega)
  show ((divQ p.1.toNat 1048576 p.2.2.toNat true : Nat) : Int) ≤ ((divQ p.1.toNat 1048576 p.2.1.toNat true : Nat) : Int)
  omega
theorem sum_use : ∀ {L : List Pa}, allB L = true → sumU false L ≤ sumU true L
  | [], _ => Int.le_refl _
  | p :: L, h => by
    rw [allB_cons, Bool.and_eq_true] at h
    rw [sumU_cons, sumU_cons]
    have := up_use h.1
    have := sum_use h.2
    omega
/-- Less of the budget asks for no more. -/
theorem up_less (h : Bool) {q q' d t : Int} (hp : okB (q, d, t) = true) (h1 : 1 ≤ q') (h2 : q' ≤ q) : okB (q', d, t) = true ∧ upA h (q', d, t) ≤ upA h (q, d, t) := by
  have hm := okB_may hp
  dsimp only at hm
  have ho : okB (q', d, t) = true := okB_of ⟨h1, by show q' ≤ d; omega, hm.2.2.1, hm.2.2.2⟩
  refine ⟨ho, ?_⟩
  rw [upA_eq h hp, upA_eq h ho]
  obtain ⟨x, hx, hx1⟩ : ∃ x, (if h = true then d else t) = x ∧ 1 ≤ x := ⟨_, rfl, by split <;> omega⟩
  dsimp only
  rw [hx]
  have := divQ_mono (a := q'.toNat) (b := 1048576) (c := x.toNat) (a' := q.toNat) (b' := 1048576) (by omega) (Nat.mul_le_mul_right _ (by omega))
  omega

theorem bound_anti (h : Bool) {c k m m' : Int} (hr : ruleE c k = 0) (hm : m ≤ m') : boundN h c k m' ≤ boundN h c k m := by
  obtain ⟨_, k0, k1⟩ := ruleE_may hr
  cases h with
  | true =>
    have e : (k - 1) * m ≤ (k - 1) * m' := Int.mul_le_mul_of_nonneg_left hm (by omega)
    show k * 1048576 - (k - 1) * m' ≤ k * 1048576 - (k - 1) * m
    generalize (k - 1) * m = x at *
    generalize (k - 1) * m' = y at *
    omega
  | false => exact Int.le_refl _
theorem test_mono {h : Bool} {c k : Int} {L M : List Pa} (ht : testE h c k L = 0) (hM : allB M = true) (hs : sumU h M ≤ sumU h L) (hm : maxU h M ≤ maxU h L) : testE h c k M = 0 := by
  obtain ⟨hr, hL, hb⟩ := testE_ok ht
  have := bound_anti h hr hm
  exact testE_of hr hM (by omega)
theorem test_nil (h : Bool) {c k : Int} (hr : ruleE c k = 0) : testE h c k [] = 0 := by
  refine testE_of hr rfl ?_
  rw [sumU_nil, maxU_nil]
  exact (boundN_in h hr (by omega) (by omega)).1
theorem sumU_one (h : Bool) (p : Pa) : sumU h [p] = upA h p := by rw [sumU_cons, sumU_nil, Int.add_zero]
theorem maxU_one {h : Bool} {p : Pa} (hp : okB p = true) : maxU h [p] = upA h p := by
  have := (ask_ok (h := h) hp).2
  rw [maxU_cons, maxU_nil]
  omega
theorem allB_one {p : Pa} (hp : okB p = true) : allB [p] = true := by rw [allB_cons, hp]; rfl
/-- One server passes each Hard rule. -/
theorem test_one {k : Int} {p : Pa} (k0 : 1 ≤ k) (k1 : k ≤ 16) (hp : okB p = true) : testE true 0 k [p] = 0 := by
  have hr : ruleE 0 k = 0 := if_neg (by omega)
  obtain ⟨_, u0, u1⟩ := ask_ok (h := true) hp
  refine testE_of hr (allB_one hp) ?_
  rw [sumU_one, maxU_one hp]
  generalize upA true p = u at *
  show u ≤ k * 1048576 - (k - 1) * u
  have e1 : k * u ≤ k * 1048576 := Int.mul_le_mul_of_nonneg_left u1 (by omega)
  have e2 : (k - 1) * u = k * u - u := by rw [Int.sub_mul, Int.one_mul]
  rw [e2]
  omega
/-- What passes a Hard rule passes one that is not, with Cap One. -/
theorem test_soft {k : Int} {L : List Pa} (k0 : 1 ≤ k) (k1 : k ≤ 16) (ht : testE true 0 k L = 0) :
    allB L = true ∧ sumU false L ≤ sumU true L ∧ maxU true L ≤ 1048576 ∧ sumU true L ≤ k * 1048576 ∧ testE false 1048576 k L = 0 := by
  obtain ⟨hr, hL, hb⟩ := testE_ok ht
  obtain ⟨_, ⟨m0, m1⟩, _⟩ := uIn true hL
  have hs := sum_use hL
  have e0 : 0 ≤ (k - 1) * maxU true L := Int.mul_nonneg (by omega) m0
  have e1 : sumU true L ≤ k * 1048576 - (k - 1) * maxU true L := hb
  have e2 : sumU true L ≤ k * 1048576 := by
    generalize (k - 1) * maxU true L = x at *
    omega
  refine ⟨hL, hs, m1, e2, testE_of (if_neg (by omega)) hL ?_⟩
  show sumU false L ≤ 1048576 * k
  rw [Int.mul_comm]
  omega

theorem sumU_app (h : Bool) (L M : List Pa) : sumU h (L ++ M) = sumU h L + sumU h M := by simp [sumU]
theorem maxU_app (h : Bool) {L M : List Pa} (hL : allB L = true) (hM : allB M = true) : maxU h (L ++ M) = max (maxU h L) (maxU h M) := by
  induction L with
  | nil =>
    have := (uIn h hM).2.1
    rw [List.nil_append, maxU_nil]
    omega
  | cons p L ih =>
    rw [allB_cons, Bool.and_eq_true] at hL
    rw [List.cons_append, maxU_cons, maxU_cons, ih hL.2]
    omega
/-- Without one of them. -/
theorem test_rest {h : Bool} {c k : Int} {L : List Pa} (ht : testE h c k L = 0) {i : Nat} (hi : i < L.length) : testE h c k (L.take i ++ L.drop (i + 1)) = 0 := by
  obtain ⟨hr, hL, hb⟩ := testE_ok ht
  have e : L = L.take i ++ (L.getD i p0 :: L.drop (i + 1)) := by
    rw [List.getD_eq_getElem?_getD, List.getElem?_eq_getElem hi]
    show L = L.take i ++ (L[i] :: L.drop (i + 1))
    rw [← List.drop_eq_getElem_cons hi, List.take_append_drop]
  obtain ⟨p, hp⟩ : ∃ p, L.getD i p0 = p := ⟨_, rfl⟩
  rw [hp] at e
  generalize L.take i = A at *
  generalize L.drop (i + 1) = D at *
  subst e
  rw [allB_app, allB_cons, Bool.and_eq_true, Bool.and_eq_true] at hL
  have hu := (ask_ok (h := h) hL.2.1).2
  refine test_mono ht (by rw [allB_app, hL.1, hL.2.2]; rfl) ?_ ?_
  · rw [sumU_app, sumU_app, sumU_cons]; omega
  · rw [maxU_app h hL.1 hL.2.2, maxU_app h hL.1 (by rw [allB_cons, hL.2.1, hL.2.2]; rfl), maxU_cons]; omega
/-- In any order. -/
theorem test_rev {h : Bool} {c k : Int} {L : List Pa} (ht : testE h c k L = 0) : testE h c k L.reverse = 0 := by
  obtain ⟨hr, hL, hb⟩ := testE_ok ht
  have hR : ∀ M : List Pa, allB M = true → allB M.reverse = true ∧ sumU h M.reverse = sumU h M ∧ maxU h M.reverse = maxU h M := by
    intro M
    induction M with
    | nil => exact fun _ => ⟨rfl, rfl, rfl⟩
    | cons p M ih =>
      intro hM
      rw [allB_cons, Bool.and_eq_true] at hM
      obtain ⟨h1, h2, h3⟩ := ih hM.2
      rw [List.reverse_cons, allB_snoc, sumU_snoc, maxU_snoc, h1, h2, h3, hM.1, sumU_cons, maxU_cons]
      exact ⟨rfl, by omega, by omega⟩
  obtain ⟨h1, h2, h3⟩ := hR L hL
  exact test_mono ht h1 (by omega) (by omega)
/-- With one more worker. -/
theorem test_more {h : Bool} {c k : Int} {L : List Pa} (ht : testE h c k L = 0) : testE h c (min 16 (k + 1)) L = 0 := by
  obtain ⟨hr, hL, hb⟩ := testE_ok ht
  obtain ⟨⟨c0, c1⟩, k0, k1⟩ := ruleE_may hr
  obtain ⟨_, ⟨m0, m1⟩, _⟩ := uIn h hL
  have hr' : ruleE c (min 16 (k + 1)) = 0 := if_neg (by omega)
  refine testE_of hr' hL ?_
  rcases Int.lt_or_le k 16 with hk | hk
  · rw [show min 16 (k + 1) = k + 1 by omega]
    generalize maxU h L = m at *
    cases h with
    | true =>
      have e0 : sumU true L ≤ k * 1048576 - (k - 1) * m := hb
      show sumU true L ≤ (k + 1) * 1048576 - (k + 1 - 1) * m
      have e1 : (k + 1 - 1) * m = (k - 1) * m + m := by
        rw [show k + 1 - 1 = (k - 1) + 1 by omega, Int.add_mul, Int.one_mul]
      rw [e1]
      generalize (k - 1) * m = x at *
      omega
    | false =>
      have e0 : sumU false L ≤ c * k := hb
      show sumU false L ≤ c * (k + 1)
      rw [Int.mul_add, Int.mul_one]
      omega
  · rw [show min 16 (k + 1) = k by omega]
    exact hb
/-- One of them with less budget. -/
theorem test_set {h : Bool} {c k : Int} {L : List Pa} (ht : testE h c k L = 0) {i : Nat} (hi : i < L.length) {p : Pa} (hp : okB p = true) (hu : upA h p ≤ upA h (L.getD i p0)) : testE h c k (L.set i p) = 0 := by
  obtain ⟨hr, hL, hb⟩ := testE_ok ht
  have e : L = L.take i ++ (L.getD i p0 :: L.drop (i + 1)) := by
    rw [List.getD_eq_getElem?_getD, List.getElem?_eq_getElem hi]
    show L = L.take i ++ (L[i] :: L.drop (i + 1))
    rw [← List.drop_eq_getElem_cons hi, List.take_append_drop]
  have es : L.set i p = L.take i ++ (p :: L.drop (i + 1)) := List.set_eq_take_append_cons_drop.trans (if_pos hi)
  rw [es]
  obtain ⟨q, hq⟩ : ∃ q, L.getD i p0 = q := ⟨_, rfl⟩
  rw [hq] at e hu
  clear es hq
  generalize L.take i = A at *
  generalize L.drop (i + 1) = D at *
  subst e
  rw [allB_app, allB_cons, Bool.and_eq_true, Bool.and_eq_true] at hL
  refine test_mono ht (by rw [allB_app, allB_cons, hL.1, hL.2.2, hp]; rfl) ?_ ?_
  · rw [sumU_app, sumU_app, sumU_cons, sumU_cons]; omega
  · rw [maxU_app h hL.1 (by rw [allB_cons, hp, hL.2.2]; rfl), maxU_app h hL.1 (by rw [allB_cons, hL.2.1, hL.2.2]; rfl), maxU_cons, maxU_cons]; omega

/-- One more server of p. -/
theorem test_snoc {h : Bool} {c k : Int} {L : List Pa} (ht : testE h c k L = 0) {p : Pa} (hp : okB p = true) : testE h c k (L ++ [p]) = if fitN h c k (sumU h L) (maxU h L) (upA h p) = true then 0 else 17 := by
  obtain ⟨hr, hL, hb⟩ := testE_ok ht
  unfold testE fitN
  rw [if_pos hr, if_pos (by rw [allB_snoc, hL, hp]; rfl), sumU_snoc, maxU_snoc]
  by_cases h1 : sumU h L + upA h p ≤ boundN h c k (max (maxU h L) (upA h p))
  · rw [if_neg (by omega), if_pos (decide_eq_true h1)]
  · rw [if_pos (by omega), if_neg (by rw [decide_eq_false h1]; simp)]
theorem sumU_rep (h : Bool) (p : Pa) (j : Nat) : sumU h (List.replicate j p) = (j : Int) * upA h p := by
  induction j with
  | zero => simp [sumU]
  | succ j ih =>
    rw [List.replicate_succ, sumU_cons, ih]
    rw [show ((j + 1 : Nat) : Int) = (j : Int) + 1 by omega, Int.add_mul, Int.one_mul]
    omega
theorem maxU_rep {h : Bool} {p : Pa} (hp : okB p = true) (j : Nat) : maxU h (List.replicate (j + 1) p) = upA h p := by
  induction j with
  | zero => exact maxU_one hp
  | succ j ih => rw [List.replicate_succ, maxU_cons, ih]; omega
theorem allB_rep {p : Pa} (hp : okB p = true) (j : Nat) : allB (List.replicate j p) = true := by
  induction j with
  | zero => rfl
  | succ j ih => rw [List.replicate_succ, allB_cons, hp, ih]; rfl
/-- So many more servers of p. -/
theorem test_rep {h : Bool} {c k : Int} {L : List Pa} (ht : testE h c k L = 0) {p : Pa} (hp : okB p = true) (j : Nat) :
    testE h c k (L ++ List.replicate (j + 1) p) = if sumU h L + ((j : Int) + 1) * upA h p ≤ boundN h c k (max (maxU h L) (upA h p)) then 0 else 17 := by
  obtain ⟨hr, hL, hb⟩ := testE_ok ht
  unfold testE
  rw [if_pos hr, if_pos (by rw [allB_app, hL, allB_rep hp]; rfl), sumU_app, maxU_app h hL (allB_rep hp _), maxU_rep hp, sumU_rep, show ((j + 1 : Nat) : Int) = (j : Int) + 1 by omega]
  by_cases h1 : sumU h L + ((j : Int) + 1) * upA h p ≤ boundN h c k (max (maxU h L) (upA h p))
  · rw [if_neg (by omega), if_pos h1]
  · rw [if_pos (by omega), if_neg h1]

/-- A server passes just if it asks for no more than there is room for; and so many of a kind. -/
theorem beside_is {h : Bool} {c k : Int} {L : List Pa} (ht : testE h c k L = 0) {p : Pa} (hp : okB p = true) :
    (testE h c k (L ++ [p]) = 0 ↔ upA h p ≤ roomN h c k (sumU h L) (maxU h L)) ∧ (0 < copN h c k L p ↔ upA h p ≤ roomN h c k (sumU h L) (maxU h L)) := by
  obtain ⟨hr, hL, hb⟩ := testE_ok ht
  obtain ⟨_, u0, u1⟩ := ask_ok (h := h) hp
  obtain ⟨⟨r0, r1⟩, r2, r3⟩ := room_is (h := h) hr (sumU h L) (maxU h L)
  have hfit : fitN h c k (sumU h L) (maxU h L) (upA h p) = true ↔ upA h p ≤ roomN h c k (sumU h L) (maxU h L) := by
    constructor
    · intro hf
      rcases Int.lt_or_le (roomN h c k (sumU h L) (maxU h L)) (upA h p) with x | x
      · rw [r3 _ x u1] at hf
        cases hf
      · exact x
    · exact fun x => r2 _ u0 x
  constructor
  · rw [test_snoc ht hp, ← hfit]
    split
    · next e => exact ⟨fun _ => e, fun _ => rfl⟩
    · next e => exact ⟨(fun x => by cases x), fun x => absurd x e⟩
  · rw [← hfit]
    obtain ⟨q1, q2, q3⟩ := copU_is 64 (s := sumU h L) (u := upA h p) (b := boundN h c k (max (maxU h L) (upA h p))) (by omega)
    unfold copN fitN
    rw [decide_eq_true_iff]
    constructor
    · intro x
      have := q2 0 (by omega)
      simpa using this
    · intro x
      rcases Nat.eq_zero_or_pos (copU 64 (sumU h L) (upA h p) (boundN h c k (max (maxU h L) (upA h p)))) with e | e
      · exact absurd (by simpa using x) (q3 0 (by omega) (by omega))
      · omega
/-- Behind it there is less room. -/
theorem room_less {h : Bool} {c k : Int} {L : List Pa} (ht : testE h c k L = 0) {p : Pa} (hp : okB p = true) (hu : upA h p ≤ roomN h c k (sumU h L) (maxU h L)) :
    testE h c k (L ++ [p]) = 0 ∧ roomN h c k (sumU h (L ++ [p])) (maxU h (L ++ [p])) ≤ roomN h c k (sumU h L) (maxU h L) ∧
      (h = false → roomN h c k (sumU h L) (maxU h L) < 1048576 → roomN h c k (sumU h (L ++ [p])) (maxU h (L ++ [p])) = roomN h c k (sumU h L) (maxU h L) - upA h p) := by
  have ht2 := (beside_is ht hp).1.2 hu
  obtain ⟨hr, hL, hb⟩ := testE_ok ht
  obtain ⟨_, hL2, hb2⟩ := testE_ok ht2
  obtain ⟨_, u0, u1⟩ := ask_ok (h := h) hp
  rw [sumU_snoc, maxU_snoc] at hb2 ⊢
  obtain ⟨⟨r0, r1⟩, r2, r3⟩ := room_is (h := h) hr (sumU h L) (maxU h L)
  obtain ⟨⟨q0, q1⟩, q2, q3⟩ := room_is (h := h) hr (sumU h L + upA h p) (max (maxU h L) (upA h p))
  generalize roomN h c k (sumU h L) (maxU h L) = n at *
  generalize roomN h c k (sumU h L + upA h p) (max (maxU h L) (upA h p)) = n2 at *
  have hle : n2 ≤ n := by
    rcases Int.lt_or_le n n2 with x | x
    · have f2 := of_decide_eq_true (q2 n2 (by omega) (Int.le_refl _))
      have f1 := of_decide_eq_false (r3 n2 x q1)
      have := bound_anti h hr (m := max (maxU h L) n2) (m' := max (max (maxU h L) (upA h p)) n2) (by omega)
      omega
    · exact x
  refine ⟨ht2, hle, fun hf hn => ?_⟩
  subst hf
  have hB : ∀ m, boundN false c k m = c * k := fun _ => rfl
  have f1 := of_decide_eq_false (r3 (n + 1) (by omega) (by omega))
  have f2 := of_decide_eq_false (q3 (n2 + 1) (by omega) (by omega))
  rw [hB] at f1 f2 hb hb2
  have f3 : sumU false L + n ≤ c * k := by
    rcases Int.lt_or_le n 1 with x | x
    · omega
    · have := of_decide_eq_true (r2 n x (Int.le_refl _))
      rwa [hB] at this
  have f4 : sumU false L + upA false p + n2 ≤ c * k := by
    rcases Int.lt_or_le n2 1 with x | x
    · omega
    · have := of_decide_eq_true (q2 n2 x (Int.le_refl _))
      rwa [hB] at this
  omega
end Go.Proofs.Ytfjepkakimhbbaa
