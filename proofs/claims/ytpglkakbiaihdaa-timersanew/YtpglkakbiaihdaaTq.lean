/-
  TimersAnew: of a timer that is armed again the last time counts; Arm and Cancel as one contract each; the rows of two steps of the clock.
-/
import Derived.Test.YtpglkakbiaihdaaTp
import Derived.Test.YtpglkakbiaihdaaTo
namespace Go.Proofs.Ytpglkakbiaihdaa
open Go.RowKit Go.Shelf Go.Maps
set_option linter.unusedVariables false
set_option linter.unusedSimpArgs false

/-- What an Arm answers, where there is room. -/
def armE (x : Ent) : Int := if x.1 < 0 then 1 else timeE x.2
/-- What is armed behind it. -/
def armS (L : List Ent) (x : Ent) : List Ent := if armE x = 0 then armL L x else L
theorem armE_ok {x : Ent} (h : armE x = 0) : 0 ≤ x.1 ∧ timeE x.2 = 0 := by
  unfold armE at h
  by_cases hn : x.1 < 0
  · rw [if_pos hn] at h; omega
  · rw [if_neg hn] at h
    exact ⟨by omega, h⟩
theorem armS_length (L : List Ent) (x : Ent) : (armS L x).length ≤ L.length + 1 := by
  unfold armS
  split
  · unfold armL
    have := List.length_filter_le (fun y : Ent => y.1 != x.1) L
    rw [List.length_cons]
    omega
  · omega
theorem tarm_gen {B : Nat} {w : World} {tb : Nat} {q : QB} {m n o : Int} {L : List Ent} (h : Ts B w tb q m n o L) (hB : B ≤ w.heap.size) (x : Ent) (hx : Is64 x.1 ∧ Is64 x.2) (hr : L.length + 1 < 1099511627776) (hroom : (L.length : Int) < m) :
    Calls Try.prog 44 #[.pointer (some ⟨tb, 0, none⟩), .int .i64 x.1, .int .i64 x.2] w fun E w' => E = .returned (.int .i64 (armE x)) ∧ ∃ q', LeftQ B w w' q q' (armS L x) := by
  by_cases hn : x.1 < 0
  · have e : armE x = 1 := if_pos hn
    have s : armS L x = L := if_neg (by rw [e]; decide)
    rw [e, s]
    exact (tarm_neg x.1 x.2 hn).mono fun E w' ⟨he, hw⟩ => ⟨he, q, hw ▸ LeftQ.lies h.queue (Below.refl _ _)⟩
  · have e : armE x = timeE x.2 := if_neg hn
    by_cases ht : timeE x.2 = 0
    · have s : armS L x = armL L x := if_pos (by rw [e]; exact ht)
      rw [e, s, ht]
      exact tarm_ok h hB x.1 x.2 (by omega) ht hx hr (.inr hroom)
    · have s : armS L x = L := if_neg (by rw [e]; exact ht)
      rw [e, s]
      exact (tarm_bad x.1 x.2 (by omega) ht).mono fun E w' ⟨he, hw⟩ => ⟨he, q, hw ▸ LeftQ.lies h.queue (Below.refl _ _)⟩
theorem Duo.armed {w W W' : World} {ta : Nat} {qa qa' : QB} {ma na oa : Int} {La : List Ent} {tb : Nat} {qb : QB} {mb nb ob : Int} {Lb : List Ent} {x : Ent} (h : Duo w W ta qa ma na oa La tb qb mb nb ob Lb) (l : LeftQ w.heap.size W W' qa qa' (armS La x)) (hx : Is64 x.1 ∧ Is64 x.2) :
    Duo w W' ta qa' ma na oa (armS La x) tb qb mb nb ob Lb := by
  by_cases e : armE x = 0
  · have s : armS La x = armL La x := if_pos e
    rw [s] at l ⊢
    exact h.arm l (armE_ok e).1 (armE_ok e).2 hx
  · have s : armS La x = La := if_neg e
    rw [s] at l ⊢
    exact h.turn l h.a.diff h.a.good
/-- Cancel, whether it is armed or not. -/
theorem tcancel_gen {B : Nat} {w : World} {tb : Nat} {q : QB} {m n o : Int} {L : List Ent} (h : Ts B w tb q m n o L) (id : Int) (hid : Is64 id) :
    ∃ r, Calls Try.prog 45 #[.pointer (some ⟨tb, 0, none⟩), .int .i64 id] w fun E w' => E = .returned (.int .i64 r) ∧ LeftQ B w w' q q (L.filter (fun y => y.1 != id)) := by
  by_cases hex : ∃ y ∈ L, y.1 = id
  · obtain ⟨y, hy, rfl⟩ := hex
    exact ⟨0, (tcancel_there h y hy).mono fun E w' ⟨he, l⟩ => ⟨he, l.perm (erase_filter h.diff hy)⟩⟩
  · have hn : ∀ y ∈ L, y.1 ≠ id := fun y hy e => hex ⟨y, hy, e⟩
    rw [filter_all hn]
    exact ⟨14, (tcancel_none h id hid hn).mono fun E w' ⟨he, g⟩ => ⟨he, LeftQ.grew h.queue g⟩⟩
theorem Duo.cut {w W W' : World} {ta : Nat} {qa : QB} {ma na oa : Int} {La : List Ent} {tb : Nat} {qb : QB} {mb nb ob : Int} {Lb : List Ent} {id : Int} (h : Duo w W ta qa ma na oa La tb qb mb nb ob Lb) (l : LeftQ w.heap.size W W' qa qa (La.filter (fun y => y.1 != id))) : Duo w W' ta qa ma na oa (La.filter (fun y => y.1 != id)) tb qb mb nb ob Lb :=
  h.turn l (h.a.diff.filter _) (fun y hy => h.a.good y (List.mem_filter.1 hy).1)

/-- The last time at which a timer was armed. -/
def lastAt (ks : List Ent) (id : Int) : Int := ks.foldl (fun a k => if k.1 = id ∧ 0 ≤ k.2 ∧ k.2 < 1099511627776 then k.2 else a) (-1)
theorem lastAt_snoc (ks : List Ent) (k : Ent) (id : Int) : lastAt (ks ++ [k]) id = if k.1 = id ∧ 0 ≤ k.2 ∧ k.2 < 1099511627776 then k.2 else lastAt ks id := by
  unfold lastAt
  rw [List.foldl_append]
  rfl
theorem take_snoc {ks : List Ent} {i : Nat} (h : i < ks.length) : ks.take (i + 1) = ks.take i ++ [ks.getD i (0, 0)] := by
  rw [List.take_add_one, List.getD_eq_getElem?_getD, List.getElem?_eq_getElem h]; rfl
/-- Who is armed is so at its last time. -/
def LastK (ks L : List Ent) : Prop := ∀ x ∈ L, lastAt ks x.1 = x.2
theorem LastK.arm {ks L : List Ent} (h : LastK ks L) (h0 : ∀ x ∈ L, 0 ≤ x.1) (k : Ent) : LastK (ks ++ [k]) (armS L k) := by
  intro x hx
  rw [lastAt_snoc]
  by_cases e : armE k = 0
  · have s : armS L k = armL L k := if_pos e
    rw [s] at hx
    rcases List.mem_cons.1 hx with rfl | hm
    · have := timeE_may5 (armE_ok e).2
      rw [if_pos ⟨rfl, this⟩]
    · obtain ⟨hm, hne⟩ := List.mem_filter.1 hm
      have hne : x.1 ≠ k.1 := by simpa using hne
      rw [if_neg (fun hh => hne hh.1.symm)]
      exact h x hm
  · have s : armS L k = L := if_neg e
    rw [s] at hx
    rw [if_neg]
    · exact h x hx
    · rintro ⟨h1, h2, h3⟩
      apply e
      have := h0 x hx
      unfold armE
      rw [if_neg (by omega)]
      exact timeE_ok h2 h3

/-- Of the rows of two steps of the clock. -/
theorem flat_two (t1 t2 : Int) (ht : t1 ≤ t2) (D1 D2 : List Ent) (k : Nat) (hk : k < (D1 ++ D2).length) :
    (flatF t1 D1 ++ flatF t2 D2)[k * 3]? = some (.int .i64 ((D1 ++ D2).getD k (0, 0)).1) ∧ (flatF t1 D1 ++ flatF t2 D2)[k * 3 + 1]? = some (.int .i64 ((D1 ++ D2).getD k (0, 0)).2) ∧ ∃ z, (flatF t1 D1 ++ flatF t2 D2)[k * 3 + 2]? = some (.int .i64 z) ∧ z ≤ t2 - ((D1 ++ D2).getD k (0, 0)).2 := by
  by_cases h : k < D1.length
  · obtain ⟨f0, f1, f2⟩ := flatF_at t1 D1 k h
    have e : (D1 ++ D2).getD k (0, 0) = D1.getD k (0, 0) := by
      rw [List.getD_eq_getElem?_getD, List.getD_eq_getElem?_getD, List.getElem?_append_left h]
    have hl := len_flatF t1 D1
    rw [e, List.getElem?_append_left (by omega), List.getElem?_append_left (by omega), List.getElem?_append_left (by omega)]
    exact ⟨f0, f1, _, f2, by omega⟩
  · rw [List.length_append] at hk
    obtain ⟨f0, f1, f2⟩ := flatF_at t2 D2 (k - D1.length) (by omega)
    have e : (D1 ++ D2).getD k (0, 0) = D2.getD (k - D1.length) (0, 0) := by
      rw [List.getD_eq_getElem?_getD, List.getD_eq_getElem?_getD, List.getElem?_append_right (by omega)]
    have hl := len_flatF t1 D1
    rw [e, List.getElem?_append_right (by omega), List.getElem?_append_right (by omega), List.getElem?_append_right (by omega), hl, (by omega : k * 3 - D1.length * 3 = (k - D1.length) * 3), (by omega : k * 3 + 1 - D1.length * 3 = (k - D1.length) * 3 + 1), (by omega : k * 3 + 2 - D1.length * 3 = (k - D1.length) * 3 + 2)]
    exact ⟨f0, f1, _, f2, Int.le_refl _⟩
end Go.Proofs.Ytpglkakbiaihdaa
