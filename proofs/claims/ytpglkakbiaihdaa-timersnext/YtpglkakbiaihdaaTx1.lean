/-
  Several texts as one.
-/
import Derived.Test.YtpglkakbiaihdaaQx1
import Derived.Test.YtpglkakbiaihdaaProg
import Derived.WalkKit
import Derived.Below
import Derived.Deep.QuietTactic
import Derived.BigQuiet
import Derived.Deep.RegionHeld3
import Derived.IntWalk
import Derived.Deep.Cut
/-
  timers.Queue: what it is in memory; Now, Worst, byTime, Next, Cancel.
-/
namespace Go.Proofs.Ytpglkakbiaihdaa
open Go.RowKit Go.Sort Go.Shelf Go.Maps
set_option linter.unusedVariables false
set_option linter.unusedSimpArgs false

/-- Timers at tb over the queue q: room, clock, how late the latest one was; L: what is armed (number, time). -/
structure Ts (B : Nat) (W : World) (tb : Nat) (q : QB) (most now worst : Int) (L : List Ent) : Prop where
  obj : W.heap[tb]? = some (.cells #[.pointer (some ⟨q.qb, 0, none⟩), .int .i64 most, .int .i64 now, .int .i64 worst] 123 (0, 0))
  queue : Qs B W q L
  apart : ¬ q.own tb
  base : B ≤ tb
  diff : L.Pairwise (fun x y => x.1 ≠ y.1)
  good : ∀ x ∈ L, (0 ≤ x.1 ∧ timeE x.2 = 0) ∧ Is64 x.1 ∧ Is64 x.2

theorem Ts.lt {B : Nat} {W : World} {tb : Nat} {q : QB} {m n o : Int} {L : List Ent} (h : Ts B W tb q m n o L) : tb < W.heap.size := (Array.getElem?_eq_some_iff.1 h.obj).1
theorem Ts.cells {B : Nat} {W : World} {tb : Nat} {q : QB} {m n o : Int} {L : List Ent} (h : Ts B W tb q m n o L) : W.cell? ⟨tb, 0, none⟩ = some (.pointer (some ⟨q.qb, 0, none⟩)) ∧ W.cell? ⟨tb, 1, none⟩ = some (.int .i64 m) ∧ W.cell? ⟨tb, 2, none⟩ = some (.int .i64 n) ∧ W.cell? ⟨tb, 3, none⟩ = some (.int .i64 o) := by
  refine ⟨?_, ?_, ?_, ?_⟩ <;> simp [World.cell?, h.obj]
theorem Ts.kept {B : Nat} {W W' : World} {tb : Nat} {q : QB} {m n o : Int} {L : List Ent} {S : Nat → Prop} (h : Ts B W tb q m n o L) (k : Kept S W W') (hs : ∀ b, q.own b ∨ b = tb → ¬ S b) : Ts B W' tb q m n o L :=
  ⟨(k.block tb h.lt (hs tb (.inr rfl))).trans h.obj, h.queue.kept k (fun b hb => hs b (.inl hb)), h.apart, h.base, h.diff, h.good⟩
theorem Ts.grew {B : Nat} {W W' : World} {tb : Nat} {q : QB} {m n o : Int} {L : List Ent} (h : Ts B W tb q m n o L) (g : Grew W W') : Ts B W' tb q m n o L := h.kept (g.kept (fun _ => False)) (fun _ _ x => x)
/-- Behind a call of its queue. -/
theorem Ts.left {B : Nat} {W W' : World} {tb : Nat} {q q' : QB} {m n o : Int} {L L' : List Ent} (h : Ts B W tb q m n o L) (l : LeftQ B W W' q q' L') (hd : L'.Pairwise (fun x y => x.1 ≠ y.1)) (hg : ∀ x ∈ L', (0 ≤ x.1 ∧ timeE x.2 = 0) ∧ Is64 x.1 ∧ Is64 x.2) : Ts B W' tb q' m n o L' := by
  have hlt := h.lt
  refine ⟨?_, l.queue, ?_, h.base, hd, hg⟩
  · rw [l.here.1]
    exact (l.kept.block tb hlt (fun ht => h.apart (.inl ht))).trans h.obj
  · rintro (ht | e | e)
    · rcases l.moved _ ht with x | x
      · exact h.apart (.inl x)
      · omega
    · exact h.apart (.inr (.inl (e.trans l.here.1)))
    · exact h.apart (.inr (.inr (e.trans l.here.2)))

set_option maxHeartbeats 400000 in
theorem tnow_any {B : Nat} {W : World} {tb : Nat} {q : QB} {m n o : Int} {L : List Ent} (h : Ts B W tb q m n o L) : Calls Try.prog 47 #[.pointer (some ⟨tb, 0, none⟩)] W fun e w' => e = .returned (.int .i64 n) ∧ W = w' := by
  obtain ⟨c0, c1, c2, c3⟩ := h.cells
  clear h
  go_enter Try.func47, Try.ntmps47
  go_wp2
  go_ret
  exact ⟨rfl, rfl⟩
set_option maxHeartbeats 400000 in
theorem tworst_any {B : Nat} {W : World} {tb : Nat} {q : QB} {m n o : Int} {L : List Ent} (h : Ts B W tb q m n o L) : Calls Try.prog 78 #[.pointer (some ⟨tb, 0, none⟩)] W fun e w' => e = .returned (.int .i64 o) ∧ W = w' := by
  obtain ⟨c0, c1, c2, c3⟩ := h.cells
  clear h
  go_enter Try.func78, Try.ntmps78
  go_wp2
  go_ret
  exact ⟨rfl, rfl⟩
set_option maxHeartbeats 400000 in
theorem byTime_any {B : Nat} {W : World} {tb : Nat} {q : QB} {m n o : Int} {L : List Ent} (h : Ts B W tb q m n o L) : Calls Try.prog 83 #[.pointer (some ⟨tb, 0, none⟩)] W fun e w' => e = .returned (.pointer (some ⟨q.qb, 0, none⟩)) ∧ W = w' := by
  obtain ⟨c0, c1, c2, c3⟩ := h.cells
  clear h
  go_enter Try.func83, Try.ntmps83
  go_wp2
  go_ret
  exact ⟨rfl, rfl⟩

set_option maxHeartbeats 1000000 in
set_option maxRecDepth 20000 in
/-- Next, whatever First answers. -/
theorem tnext_core {B : Nat} {w : World} {tb : Nat} {q : QB} {m n o : Int} {L : List Ent} (h : Ts B w tb q m n o L) (a b e : Int)
    (hc : Calls Try.prog 32 #[.pointer (some ⟨q.qb, 0, none⟩)] w fun E w' => E = .returned (.tuple #[.agg #[.int .i64 a, .int .i64 b], .int .i64 e]) ∧ Grew w w') :
    Calls Try.prog 49 #[.pointer (some ⟨tb, 0, none⟩)] w fun E w' => E = .returned (.tuple #[.int .i64 a, .int .i64 e]) ∧ Grew w w' := by
  have C1 := Lib.hid (byTime_any h)
  have C2 := Lib.hid hc
  clear h hc
  go_enter Try.func49, Try.ntmps49
  go_wp2_with (first | (go_at_call 83; (with_reducible refine C1.out.mono ?_); rintro E w1 ⟨rfl, hw1⟩; subst hw1) | (go_at_call 32; (with_reducible refine C2.out.mono ?_); rintro E w2 ⟨rfl, g2⟩; have G2 := Lib.hid g2; clear g2))
  refine bodyPost_ret (v := .tuple #[.int .i64 a, .int .i64 e]) (by simp [results, Try.f49, go_sem]) rfl ⟨rfl, ?_⟩
  exact G2.out.alloc _
theorem tnext_nil {B : Nat} {w : World} {tb : Nat} {q : QB} {m n o : Int} (h : Ts B w tb q m n o []) :
    Calls Try.prog 49 #[.pointer (some ⟨tb, 0, none⟩)] w fun E w' => E = .returned (.tuple #[.int .i64 0, .int .i64 14]) ∧ Grew w w' := tnext_core h 0 0 14 (qfirst_nil h.queue)
theorem tnext_any {B : Nat} {w : World} {tb : Nat} {q : QB} {m n o : Int} {L : List Ent} (h : Ts B w tb q m n o L) (x : Ent) (hx : IsFirst L x) :
    Calls Try.prog 49 #[.pointer (some ⟨tb, 0, none⟩)] w fun E w' => E = .returned (.tuple #[.int .i64 x.2, .int .i64 0]) ∧ Grew w w' := tnext_core h x.2 x.1 0 (qfirst_any h.queue x hx)

set_option maxHeartbeats 1000000 in
set_option maxRecDepth 20000 in
theorem tcancel_none {B : Nat} {w : World} {tb : Nat} {q : QB} {m n o : Int} {L : List Ent} (h : Ts B w tb q m n o L) (id : Int) (hid : Is64 id) (hn : ∀ x ∈ L, x.1 ≠ id) :
    Calls Try.prog 45 #[.pointer (some ⟨tb, 0, none⟩), .int .i64 id] w fun E w' => E = .returned (.int .i64 14) ∧ Grew w w' := by
  have C1 := Lib.hid (byTime_any h)
  have C2 := Lib.hid (qdrop_none h.queue id hid hn)
  clear h hn hid
  go_enter Try.func45, Try.ntmps45
  go_wp2_with (first | (go_at_call 83; (with_reducible refine C1.out.mono ?_); rintro E w1 ⟨rfl, hw1⟩; subst hw1) | (go_at_call 66; (with_reducible refine C2.out.mono ?_); rintro E w2 ⟨rfl, g2⟩; have G2 := Lib.hid g2; clear g2))
  go_ret
  exact ⟨rfl, G2.out.alloc _⟩
set_option maxHeartbeats 1000000 in
set_option maxRecDepth 20000 in
theorem tcancel_there {B : Nat} {w : World} {tb : Nat} {q : QB} {m n o : Int} {L : List Ent} (h : Ts B w tb q m n o L) (x : Ent) (hx : x ∈ L) :
    Calls Try.prog 45 #[.pointer (some ⟨tb, 0, none⟩), .int .i64 x.1] w fun E w' => E = .returned (.int .i64 0) ∧ LeftQ B w w' q q (L.erase x) := by
  have C1 := Lib.hid (byTime_any h)
  have C2 := Lib.hid (qdrop_there h.queue x hx)
  clear h hx
  generalize x.1 = id at *
  generalize x.2 = t at *
  generalize L.erase x = L2 at *
  go_enter Try.func45, Try.ntmps45
  go_wp2_with (first | (go_at_call 83; (with_reducible refine C1.out.mono ?_); rintro E w1 ⟨rfl, hw1⟩; subst hw1) | (go_at_call 66; (with_reducible refine C2.out.mono ?_); rintro E w2 ⟨rfl, g2⟩; have G2 := Lib.hid g2; clear g2))
  go_ret
  exact ⟨rfl, G2.out.step ((Grew.refl _).alloc _)⟩

set_option maxHeartbeats 1000000 in
theorem tnew_bad (w : World) (m : Int) (hm : m < 1 ∨ 1024 < m) :
    Calls Try.prog 36 #[.int .i64 m] w fun E w' => E = .returned (.tuple #[.pointer none, .int .i64 1]) ∧ w = w' := by
  by_cases h1 : m < 1
  · have t1 : decide (m < 1) = true := decide_eq_true h1
    clear hm h1
    go_enter Try.func36, Try.ntmps36
    go_wp2
    refine bodyPost_ret (v := .tuple #[.pointer none, .int .i64 1]) (by simp [results, Try.f36, go_sem]) rfl ⟨rfl, rfl⟩
  · have t1 : decide (m < 1) = false := decide_eq_false h1
    have t2 : decide (m > 1024) = true := decide_eq_true (by omega)
    clear hm h1
    go_enter Try.func36, Try.ntmps36
    go_wp2
    refine bodyPost_ret (v := .tuple #[.pointer none, .int .i64 1]) (by simp [results, Try.f36, go_sem]) rfl ⟨rfl, rfl⟩
set_option maxHeartbeats 1000000 in
theorem tnew_any (B : Nat) (w : World) (hB : B ≤ w.heap.size) (m : Int) (h1 : 1 ≤ m) (h2 : m ≤ 1024) :
    Calls Try.prog 36 #[.int .i64 m] w fun E w' => ∃ (tb : Nat) (q : QB), E = .returned (.tuple #[.pointer (some ⟨tb, 0, none⟩), .int .i64 0]) ∧ Ts B w' tb q m 0 0 [] ∧ Grew w w' ∧ w.heap.size ≤ tb ∧ ∀ k, q.own k → w.heap.size ≤ k := by
  have t1 : decide (m < 1) = false := decide_eq_false (by omega)
  have t2 : decide (m > 1024) = false := decide_eq_false (by omega)
  have C1 := Lib.hid (qnew_any B w hB)
  have HB := Lib.hid hB
  clear hB
  go_enter Try.func36, Try.ntmps36
  go_wp2_with fail
  refine C1.out.mono ?_
  rintro E w1 ⟨q, rfl, h3, g3, o3⟩
  have H3 : Hid (Qs B w1 q [] ∧ Grew w w1 ∧ ∀ k, q.own k → w.heap.size ≤ k) := ⟨h3, g3, o3⟩
  clear h3 g3 o3
  have E1 := Lib.hid (heap_alloc_new w1 (.cells #[.pointer (some ⟨q.qb, 0, none⟩), .int .i64 m, .int .i64 0, .int .i64 0] 123))
  go_wp2
  refine bodyPost_ret (v := .tuple #[.pointer (some ⟨w1.heap.size, 0, none⟩), .int .i64 0]) (by simp [results, Try.f36, go_sem]) rfl ?_
  obtain ⟨h3, g3, o3⟩ := H3.out
  have hB := HB.out
  have s1 := g3.size
  have g4 : Grew w1 (w1.alloc (.cells #[.pointer (some ⟨q.qb, 0, none⟩), .int .i64 m, .int .i64 0, .int .i64 0] 123)) := (Grew.refl w1).alloc _
  refine ⟨w1.heap.size, q, rfl, ⟨E1.out, h3.grew g4, fun ho => Nat.lt_irrefl _ (h3.lt _ ho), by omega, List.Pairwise.nil, fun x hx => (by cases hx)⟩, g3.trans g4, s1, o3⟩
end Go.Proofs.Ytpglkakbiaihdaa

/-
  A region that draws its order, whose operations read, or call what makes memory and leaves all that was as it was.
-/
namespace Go.Proofs.Ytpglkakbiaihdaa
open Go.RowKit

/-- A world in which all that was lies as it lay. -/
structure LiesB (w : World) where
  v : World
  h : Below w.heap.size w v
abbrev LyingB (w : World) (w' : World) : Prop := ∃ q : LiesB w, w' = q.v
theorem lyingB_drew (w : World) : LyingB w { w with drawn := w.drawn + 1 } := ⟨⟨{ w with drawn := w.drawn + 1 }, ⟨rfl, rfl, rfl, Nat.le_refl _, fun _ _ => rfl⟩⟩, rfl⟩
theorem region_lies {P : Program} {id : Nat} {Q : Exit → Act → World → Prop} {a : Act} {w : World} {l : List Oper} (hm : P.follows .mixedOrders = true) (hB : Region.lexB .any l.toArray = true)
    (h : wpQuiet P l.toArray (LyingB w) (fun a' => ∀ w', LyingB w w' → Q .normal a' w') l a) : (Code.region id l.toArray true).wp P Q a w :=
  wp_region_quiet (C := LyingB w) hm hB (lyingB_drew w) (by simpa using h)
/-- A callee that leaves all as it lay, met in a world of the class. -/
theorem lies_call {P : Program} {f : FuncId} {args : Array Value} {w : World} {v : Value} (h : ∀ W, Calls P f args W fun e w' => e = .returned v ∧ Below W.heap.size W w') (q : LiesB w) : Calls P f args q.v fun e w' => e = .returned v ∧ LyingB w w' :=
  (h q.v).mono fun _ w' ⟨he, hb⟩ => ⟨he, ⟨w', q.h.trans (hb.mono q.h.size)⟩, rfl⟩
theorem mixedT : Try.prog.follows .mixedOrders = true := by kernel_rfl
end Go.Proofs.Ytpglkakbiaihdaa

/-
  A drawn region in which a block is made that waits for nothing, and a store into it, next to reads and calls that make memory.
-/
namespace Go.Proofs.Ytpglkakbiaihdaa
open Go Go.RowKit
set_option linter.unusedVariables false

section
variable {F : Fence} {n : Nat} {P : Program} {ops : Array Oper} {Q : Exit → Act → World → Prop}

/-- Where the end is known, a place that none of those to come writes is as it is. -/
theorem pin_slot {C : World → Prop} {aE : Act} {s : Nat} : ∀ (fuel : Nat) (listed : Array Bool) (a : Act), (∀ j o, ops[j]? = some o → listed.getD j true = false → o.dst ≠ some s) →
    wpAnyQIn F n P .any ops C (fun a' => a' = aE) fuel listed a → aE.tmps[s]? = a.tmps[s]?
  | 0, listed, a, _, h => by rw [h.2]
  | fuel + 1, listed, a, hs, h => by
    cases hr : Region.ready .any ops listed with
    | nil => rw [h.1 hr]
    | cons i l =>
      have hi : i ∈ Region.ready .any ops listed := by rw [hr]; exact List.mem_cons_self
      obtain ⟨h0, o, ho, hd⟩ := mem_ready.1 hi
      obtain ⟨v, _, hK⟩ := yieldsQuiet_of_qOpIn ho (h.2 i hi)
      have := pin_slot fuel (listed.setIfInBounds i true) (a.put o.dst v) (fun j oj hj hl => by
        by_cases hij : i = j
        · subst hij
          have hlt : i < listed.size ∨ listed.size ≤ i := Nat.lt_or_ge i listed.size
          rcases hlt with hlt | hlt
          · rw [Array.getD_eq_getD_getElem?, Array.getElem?_setIfInBounds, if_pos rfl, if_pos hlt] at hl
            cases hl
          · exact hs i oj hj h0
        · rw [getD_set_ne true hij] at hl
          exact hs j oj hj hl) hK
      rw [this]
      have hne := hs i o ho h0
      cases hd' : o.dst with
      | none => rfl
      | some d =>
        show (a.tmps.setIfInBounds d v)[s]? = _
        rw [Array.getElem?_setIfInBounds, if_neg (fun e => hne (by rw [hd', e]))]

/-- Two values in one place, and the place reads the same: the frames are the same. -/
theorem put_same {a : Act} {d : Nat} {v u : Value} (h : (a.put (some d) v).tmps[d]? = (a.put (some d) u).tmps[d]?) : a.put (some d) v = a.put (some d) u := by
  show ({ a with tmps := a.tmps.setIfInBounds d v } : Act) = { a with tmps := a.tmps.setIfInBounds d u }
  have h' : (a.tmps.setIfInBounds d v)[d]? = (a.tmps.setIfInBounds d u)[d]? := h
  rw [Array.getElem?_setIfInBounds, Array.getElem?_setIfInBounds, if_pos rfl, if_pos rfl] at h'
  by_cases hd : d < a.tmps.size
  · rw [if_pos hd, if_pos hd] at h'
    cases h'
    rfl
  · congr 1
    rw [Array.setIfInBounds_eq_of_size_le (by omega), Array.setIfInBounds_eq_of_size_le (by omega)]

def ptrN (b : Nat) : Value := .pointer (some ⟨b, 0, none⟩)

/-- The places are written once each. -/
def onceB (l : List Oper) : Bool := decide (l.filterMap (·.dst)).Nodup
theorem once_of {l : List Oper} (h : (l.filterMap (·.dst)).Nodup) : ∀ (i j : Nat) (o o' : Oper) (s : Nat), l[i]? = some o → l[j]? = some o' → o.dst = some s → o'.dst = some s → i = j := by
  induction l with
  | nil => intro i j o o' s h1; simp at h1
  | cons x l ih =>
    intro i j o o' s h1 h2 h3 h4
    have hx : ∀ (k : Nat) (y : Oper), l[k]? = some y → y.dst = some s → s ∈ l.filterMap (·.dst) := fun k y hk hy => List.mem_filterMap.2 ⟨y, List.mem_of_getElem? hk, hy⟩
    cases i with
    | zero =>
      cases j with
      | zero => rfl
      | succ j =>
        simp only [List.getElem?_cons_zero, Option.some.injEq] at h1
        simp only [List.getElem?_cons_succ] at h2
        subst h1
        rw [List.filterMap_cons_some h3] at h
        exact absurd (hx j o' h2 h4) (List.nodup_cons.1 h).1
    | succ i =>
      cases j with
      | zero =>
        simp only [List.getElem?_cons_zero, Option.some.injEq] at h2
        simp only [List.getElem?_cons_succ] at h1
        subst h2
        rw [List.filterMap_cons_some h4] at h
        exact absurd (hx i o h1 h3) (List.nodup_cons.1 h).1
      | succ j =>
        simp only [List.getElem?_cons_succ] at h1 h2
        have hn : (l.filterMap (·.dst)).Nodup := by
          cases hd : x.dst with
          | none => rwa [List.filterMap_cons_none hd] at h
          | some d => rw [List.filterMap_cons_some hd] at h; exact (List.nodup_cons.1 h).2
        rw [ih hn i j o o' s h1 h2 h3 h4]

/-- The block that is made is apart from all others. -/
def apartB (ops : Array Oper) (k : Nat) (oA : Oper) : Bool := (List.range ops.size).all fun j => j == k || (match ops[j]? with | some oj => oA.apart ops oj | none => true)
theorem apart_of {k : Nat} {oA : Oper} (h : apartB ops k oA = true) (j : Nat) (oj : Oper) (hj : ops[j]? = some oj) (hne : j ≠ k) : oA.apart ops oj = true := by
  have h1 := List.all_eq_true.1 h j (List.mem_range.2 (Array.getElem?_eq_some_iff.1 hj).1)
  simp only [Bool.or_eq_true, beq_iff_eq, hne, false_or] at h1
  rw [hj] at h1
  exact h1

theorem lies_alloc {W w : World} (h : LyingB W w) (o : Obj) : Below W.heap.size W (w.alloc o) := by
  obtain ⟨q, rfl⟩ := h
  exact q.h.alloc q.h.size o

/-- Something is ready as long as something is not listed. -/
theorem some_ready (hel : ∀ i o, ops[i]? = some o → ∀ e ∈ o.after, Region.binds .any e = true → e.on < i) {listed : Array Bool} (hl : listed.size = ops.size) {k : Nat} (hun : listed.getD k true = false) (hr : Region.ready .any ops listed = []) : False := by
  have all : ∀ j, j < listed.size → listed.getD j true = true := by
    intro j
    induction j using Nat.strongRecOn with
    | ind j ih =>
      intro hj
      cases hb : listed.getD j true with
      | true => rfl
      | false =>
        have hjo : j < ops.size := by omega
        have hmem : j ∈ Region.ready .any ops listed := mem_ready.2 ⟨hb, ops[j], Array.getElem?_eq_getElem hjo, fun e he hbd => by
          have hlt := hel j ops[j] (Array.getElem?_eq_getElem hjo) e he hbd
          have h1 := ih e.on hlt (by omega)
          rw [Array.getD_eq_getD_getElem?, Array.getElem?_eq_getElem (show e.on < listed.size by omega)] at h1 ⊢
          exact h1⟩
        rw [hr] at hmem
        cases hmem
  rcases Nat.lt_or_ge k listed.size with h | h
  · rw [all k h] at hun
    cases hun
  · rw [Array.getD_eq_getD_getElem?, Array.getElem?_eq_none h] at hun
    cases hun

theorem set_false {listed : Array Bool} {i : Nat} (h : (listed.setIfInBounds i true).getD i true = false) : False := by
  rcases Nat.lt_or_ge i listed.size with hlt | hlt
  · rw [Array.getD_eq_getD_getElem?, Array.getElem?_setIfInBounds, if_pos rfl, if_pos hlt] at h
    cases h
  · rw [Array.getD_eq_getD_getElem?, Array.getElem?_eq_none (by simpa using hlt)] at h
    cases h

/-- Behind the making of the block: reads and calls, and the store. -/
theorem store_any {W Wa : World} {kS sA sV : Nat} {oS : Oper} {aE : Act} {st : World → World} (hro : F.round = none) (hk : ops[kS]? = some oS) (hg : oS.guard = none)
    (hel : ∀ i o, ops[i]? = some o → ∀ e ∈ o.after, Region.binds .any e = true → e.on < i) (honce : ∀ (i j : Nat) (o o' : Oper) (s : Nat), ops[i]? = some o → ops[j]? = some o' → o.dst = some s → o'.dst = some s → i = j)
    (hsA : ∃ e ∈ oS.after, Region.binds .any e = true ∧ ∃ o, ops[e.on]? = some o ∧ o.dst = some sA) (hsV : ∃ e ∈ oS.after, Region.binds .any e = true ∧ ∃ o, ops[e.on]? = some o ∧ o.dst = some sV)
    (hWa : Below W.heap.size W Wa) (hst : ∀ w', Below Wa.heap.size Wa w' → Below W.heap.size W (st w'))
    (hS : ∀ a' w', Below Wa.heap.size Wa w' → a'.tmps[sA]? = aE.tmps[sA]? → a'.tmps[sV]? = aE.tmps[sV]? → ∀ K : Act → World → Prop, K a' (st w') → oS.wpIn F n P a' w' K Q)
    (hQ : ∀ w' w'', Below Wa.heap.size Wa w' → Below (st w').heap.size (st w') w'' → Q .normal aE w'') :
    ∀ (fuel : Nat) (listed : Array Bool) (a : Act) (w : World), listed.size = ops.size → listed.getD kS true = false → LyingB Wa w →
      (∀ W0, Below W.heap.size W W0 → wpAnyQIn F n P .any ops (LyingB W0) (fun a' => a' = aE) fuel (listed.setIfInBounds kS true) a) → wpAnyIn F n P .any ops Q (fuel + 1) listed a w := by
  have slot : ∀ (s fuel : Nat) (listed : Array Bool) (a : Act), (∃ e ∈ oS.after, Region.binds .any e = true ∧ ∃ o, ops[e.on]? = some o ∧ o.dst = some s) → kS ∈ Region.ready .any ops listed →
      wpAnyQIn F n P .any ops (LyingB Wa) (fun a' => a' = aE) fuel (listed.setIfInBounds kS true) a → a.tmps[s]? = aE.tmps[s]? := fun s fuel listed a hs hrd hq => by
    obtain ⟨e, he, hbd, o, ho, hod⟩ := hs
    obtain ⟨hu, oS', hoS', hdep⟩ := mem_ready.1 hrd
    rw [hk] at hoS'
    cases hoS'
    refine (pin_slot fuel _ a (fun j oj hj hl hjd => ?_) hq).symm
    have hje : j = e.on := honce j e.on oj o s hj ho hjd hod
    subst hje
    have h1 := hdep e he hbd
    by_cases hkj : kS = e.on
    · rw [← hkj] at hl
      exact set_false hl
    · rw [getD_set_ne true hkj] at hl
      rw [Array.getD_eq_getD_getElem?] at h1 hl
      cases hx : listed[e.on]? with
      | none => rw [hx] at hl; cases hl
      | some y => rw [hx] at hl h1; simp at hl h1; rw [hl] at h1; cases h1
  have atStore : ∀ (fuel : Nat) (listed : Array Bool) (a : Act) (w : World), kS ∈ Region.ready .any ops listed → LyingB Wa w →
      (∀ W0, Below W.heap.size W W0 → wpAnyQIn F n P .any ops (LyingB W0) (fun a' => a' = aE) fuel (listed.setIfInBounds kS true) a) →
      wpOpIn F n P ops Q kS (wpAnyIn F n P .any ops Q fuel (listed.setIfInBounds kS true)) a w := fun fuel listed a w hrd hw H => by
    obtain ⟨q, rfl⟩ := hw
    unfold wpOpIn
    rw [hk]
    have hwant : Region.wanted oS (yielded ops a.tmps) = true := by unfold Region.wanted; rw [hg]
    simp only [hwant, if_true]
    refine hS a q.v q.h (slot sA fuel listed a hsA hrd (H Wa hWa)) (slot sV fuel listed a hsV hrd (H Wa hWa)) _ ?_
    exact wpAnyIn_of_quiet hro (fun a' w' hw' he => by obtain ⟨q', rfl⟩ := hw'; rw [he]; exact hQ q.v q'.v q.h q'.h) fuel _ _ _ ⟨⟨st q.v, Below.refl _ _⟩, rfl⟩ (H (st q.v) (hst q.v q.h))
  intro fuel
  induction fuel with
  | zero =>
    intro listed a w hl hun hw H
    refine ⟨fun hr => (some_ready hel hl hun hr).elim, fun i hi => ?_⟩
    by_cases hik : i = kS
    · subst hik
      exact atStore 0 listed a w hi hw H
    · have := ready_mono hi hik
      rw [(H Wa hWa).1] at this
      cases this
  | succ fuel ih =>
    intro listed a w hl hun hw H
    refine ⟨fun hr => (some_ready hel hl hun hr).elim, fun i hi => ?_⟩
    by_cases hik : i = kS
    · subst hik
      exact atStore (fuel + 1) listed a w hi hw H
    · obtain ⟨hui, oi, hoi, hdep⟩ := mem_ready.1 hi
      obtain ⟨v, hy, hK⟩ := yieldsQuiet_of_qOpIn hoi ((H Wa hWa).2 i (ready_mono hi hik))
      refine wpOpIn_of_qOpIn hro hw (fun a' w' hw' hK' => ?_) (hy.qOpIn hoi (K := fun a' => a' = a.put oi.dst v) rfl)
      subst hK'
      refine ih (listed.setIfInBounds i true) (a.put oi.dst v) w' (by rw [Array.size_setIfInBounds]; exact hl) (by rw [getD_set_ne true hik]; exact hun) hw' (fun W0 hW0 => ?_)
      obtain ⟨v2, _, hK2⟩ := yieldsQuiet_of_qOpIn hoi ((H W0 hW0).2 i (ready_mono hi hik))
      rw [Array.setIfInBounds_comm _ _ hik]
      have e : a.put oi.dst v2 = a.put oi.dst v := by
        cases hdi : oi.dst with
        | none => rfl
        | some d =>
          have hfar : ∀ j o, ops[j]? = some o → ((listed.setIfInBounds kS true).setIfInBounds i true).getD j true = false → o.dst ≠ some d := fun j o hj hl hod => by
            have : i = j := honce i j oi o d hoi hj hdi hod
            subst this
            exact set_false hl
          have p1 := pin_slot _ _ _ hfar hK
          have p2 := pin_slot _ _ _ hfar hK2
          rw [hdi] at p1 p2
          exact put_same (p2.symm.trans p1)
      rw [← e]
      exact hK2

/-- From the first: the block may be made whenever it comes up. -/
theorem alloc_any {W : World} {kA kS sA sV : Nat} {oA oS : Oper} {obj : Obj} {aE : Nat → Act} {st : Nat → World → World} (hro : F.round = none) (hsel : ∀ (j : Nat) (o : Oper) cs b, ops[j]? = some o → o.op ≠ .select cs b) (hne : kA ≠ kS)
    (hk : ops[kA]? = some oA) (hg : oA.guard = none) (haf : oA.after = #[]) (hd : oA.dst = some sA) (hkS : ops[kS]? = some oS) (hgS : oS.guard = none)
    (hap : ∀ j oj, ops[j]? = some oj → j ≠ kA → j ≠ kS → oA.apart ops oj = true) (hel : ∀ i o, ops[i]? = some o → ∀ e ∈ o.after, Region.binds .any e = true → e.on < i)
    (honce : ∀ (i j : Nat) (o o' : Oper) (s : Nat), ops[i]? = some o → ops[j]? = some o' → o.dst = some s → o'.dst = some s → i = j)
    (hsA : ∃ e ∈ oS.after, Region.binds .any e = true ∧ e.on = kA) (hsV : ∃ e ∈ oS.after, Region.binds .any e = true ∧ ∃ o, ops[e.on]? = some o ∧ o.dst = some sV)
    (hA : ∀ (a : Act) (w : World) (K : Act → World → Prop), K (a.put (some sA) (ptrN w.heap.size)) (w.alloc obj) → oA.wpIn F n P a w K Q)
    (hE : ∀ b, aE b = (aE 0).put (some sA) (ptrN b))
    (hst : ∀ w1 w', Below W.heap.size W w1 → Below (w1.alloc obj).heap.size (w1.alloc obj) w' → Below W.heap.size W (st w1.heap.size w'))
    (hS : ∀ w1 a' w', Below W.heap.size W w1 → Below (w1.alloc obj).heap.size (w1.alloc obj) w' → a'.tmps[sA]? = (aE w1.heap.size).tmps[sA]? → a'.tmps[sV]? = (aE w1.heap.size).tmps[sV]? → ∀ K : Act → World → Prop, K a' (st w1.heap.size w') → oS.wpIn F n P a' w' K Q)
    (hQ : ∀ w1 w' w'', Below W.heap.size W w1 → Below (w1.alloc obj).heap.size (w1.alloc obj) w' → Below (st w1.heap.size w').heap.size (st w1.heap.size w') w'' → Q .normal (aE w1.heap.size) w'') :
    ∀ (fuel : Nat) (listed : Array Bool) (a : Act) (w : World), listed.size = ops.size → listed.getD kA true = false → listed.getD kS true = false → LyingB W w →
      (∀ W0 b, Below W.heap.size W W0 → wpAnyQIn F n P .any ops (LyingB W0) (fun a' => a' = aE b) fuel ((listed.setIfInBounds kA true).setIfInBounds kS true) (a.put (some sA) (ptrN b))) →
      wpAnyIn F n P .any ops Q (fuel + 1 + 1) listed a w := by
  have atAlloc : ∀ (fuel : Nat) (listed : Array Bool) (a : Act) (w : World), listed.size = ops.size → listed.getD kS true = false → LyingB W w →
      (∀ W0 b, Below W.heap.size W W0 → wpAnyQIn F n P .any ops (LyingB W0) (fun a' => a' = aE b) fuel ((listed.setIfInBounds kA true).setIfInBounds kS true) (a.put (some sA) (ptrN b))) →
      wpOpIn F n P ops Q kA (wpAnyIn F n P .any ops Q (fuel + 1) (listed.setIfInBounds kA true)) a w := fun fuel listed a w hl hunS hw H => by
    unfold wpOpIn
    rw [hk]
    have hwant : Region.wanted oA (yielded ops a.tmps) = true := by unfold Region.wanted; rw [hg]
    simp only [hwant, if_true]
    refine hA a w _ ?_
    have hwb : Below W.heap.size W w := by obtain ⟨q, rfl⟩ := hw; exact q.h
    exact store_any hro hkS hgS hel honce (by obtain ⟨e, he, hb, hon⟩ := hsA; exact ⟨e, he, hb, oA, by rw [hon]; exact hk, hd⟩) hsV (lies_alloc hw obj) (hst w · hwb) (fun a' w' hb' => hS w a' w' hwb hb') (fun w' w'' => hQ w w' w'' hwb) fuel (listed.setIfInBounds kA true) _ (w.alloc obj)
      (by rw [Array.size_setIfInBounds]; exact hl) (by rw [getD_set_ne true hne]; exact hunS) ⟨⟨w.alloc obj, Below.refl _ _⟩, rfl⟩ (fun W0 hW0 => H W0 w.heap.size hW0)
  have noStore : ∀ (listed : Array Bool), listed.getD kA true = false → kS ∈ Region.ready .any ops listed → False := fun listed hun hrd => by
    obtain ⟨_, o, ho, hdep⟩ := mem_ready.1 hrd
    rw [hkS] at ho
    cases ho
    obtain ⟨e, he, hb, hon⟩ := hsA
    have h1 := hdep e he hb
    rw [hon, Array.getD_eq_getD_getElem?] at h1
    rw [Array.getD_eq_getD_getElem?] at hun
    cases hx : listed[kA]? with
    | none => rw [hx] at h1; cases h1
    | some y => rw [hx] at hun h1; simp at hun h1; rw [hun] at h1; cases h1
  intro fuel
  induction fuel with
  | zero =>
    intro listed a w hl hun hunS hw H
    refine ⟨fun hr => (some_ready hel hl hun hr).elim, fun i hi => ?_⟩
    by_cases hik : i = kA
    · subst hik
      exact atAlloc 0 listed a w hl hunS hw H
    · by_cases hiS : i = kS
      · subst hiS
        exact (noStore listed hun hi).elim
      · have := ready_mono (ready_mono hi hik) hiS
        rw [(H W 0 (Below.refl _ _)).1] at this
        cases this
  | succ fuel ih =>
    intro listed a w hl hun hunS hw H
    refine ⟨fun hr => (some_ready hel hl hun hr).elim, fun i hi => ?_⟩
    by_cases hik : i = kA
    · subst hik
      exact atAlloc (fuel + 1) listed a w hl hunS hw H
    by_cases hiS : i = kS
    · subst hiS
      exact (noStore listed hun hi).elim
    · obtain ⟨hui, oi, hoi, hdep⟩ := mem_ready.1 hi
      obtain ⟨a1, a2, a3⟩ := Oper.apart_spec (hap i oi hoi hik hiS)
      rw [hd] at a1 a2
      obtain ⟨v, hy, hK⟩ := yieldsQuiet_of_qOpIn hoi ((H W 0 (Below.refl _ _)).2 i (ready_mono (ready_mono hi hik) hiS))
      have hsi : ∀ cs b, oi.op ≠ .select cs b := fun cs b => hsel i oi cs b hoi
      have hy' : YieldsQuiet F n P ops (LyingB W) oi v a := hy.of_same (execOp_put oi hsi a (some sA) _ a1).symm (wanted_put oi a (some sA) _ a1).symm (fun w => (about_put oi w a (some sA) _ a1).symm)
      refine wpOpIn_of_qOpIn hro hw (fun a' w' hw' hK' => ?_) (hy'.qOpIn hoi (K := fun a' => a' = a.put oi.dst v) rfl)
      subst hK'
      refine ih (listed.setIfInBounds i true) (a.put oi.dst v) w' (by rw [Array.size_setIfInBounds]; exact hl) (by rw [getD_set_ne true hik]; exact hun) (by rw [getD_set_ne true hiS]; exact hunS) hw' (fun W0 b hW0 => ?_)
      obtain ⟨v2, _, hK2⟩ := yieldsQuiet_of_qOpIn hoi ((H W0 b hW0).2 i (ready_mono (ready_mono hi hik) hiS))
      rw [Array.setIfInBounds_comm _ _ hik, Array.setIfInBounds_comm _ _ hiS]
      have e : (a.put (some sA) (ptrN b)).put oi.dst v2 = (a.put oi.dst v).put (some sA) (ptrN b) := by
        rw [← Act.put_comm a (ptrN b) v a2]
        cases hdi : oi.dst with
        | none => rfl
        | some d =>
          have hfar : ∀ j o, ops[j]? = some o → (((listed.setIfInBounds kA true).setIfInBounds kS true).setIfInBounds i true).getD j true = false → o.dst ≠ some d := fun j o hj hl hod => by
            have : i = j := honce i j oi o d hoi hj hdi hod
            subst this
            exact set_false hl
          have p1 := pin_slot _ _ _ hfar hK
          have p2 := pin_slot _ _ _ hfar hK2
          rw [hdi] at p1 p2
          have hds : sA ≠ d := fun e => a2 sA rfl (by rw [hdi, e])
          have hs1 : ∀ (x : Act) (u : Value), (x.put (some sA) u).tmps[d]? = x.tmps[d]? := fun x u => by
            show (x.tmps.setIfInBounds sA u)[d]? = _
            rw [Array.getElem?_setIfInBounds, if_neg hds]
          have q0 : (aE b).tmps[d]? = (aE 0).tmps[d]? := by rw [hE b]; exact hs1 _ _
          have q1 : ((a.put (some sA) (ptrN b)).put (some d) v).tmps[d]? = ((a.put (some sA) (ptrN 0)).put (some d) v).tmps[d]? := by
            show ((a.tmps.setIfInBounds sA (ptrN b)).setIfInBounds d v)[d]? = ((a.tmps.setIfInBounds sA (ptrN 0)).setIfInBounds d v)[d]?
            simp [Array.getElem?_setIfInBounds]
          exact put_same (p2.symm.trans (q0.trans (p1.trans q1.symm)))
      rw [← e]
      exact hK2

/-- The walk in the text's order, over the places named. -/
def lexIdxB (ops : Array Oper) : List Nat → Array Bool → Bool
  | [], listed => (Region.ready .any ops listed).isEmpty
  | i :: r, listed => (Region.ready .any ops listed).contains i && Region.free .any ops listed i && lexIdxB ops r (listed.setIfInBounds i true)
theorem lex_idx {C : World → Prop} {R : Act → Prop} (hs : Region.noSelect ops = true) : ∀ (idx : List Nat) (listed : Array Bool) (a : Act), (∀ i ∈ idx, i < ops.size) →
    lexIdxB ops idx listed = true → wpQuietIn F n P ops C R (idx.filterMap (fun i => ops[i]?)) a → wpAnyQIn F n P .any ops C R idx.length listed a
  | [], listed, a, _, hB, h => ⟨by simpa [lexIdxB] using hB, h⟩
  | i :: idx, listed, a, hi, hB, h => by
    have hlt : i < ops.size := hi i List.mem_cons_self
    have h0 : ops[i]? = some ops[i] := Array.getElem?_eq_getElem hlt
    simp only [lexIdxB, Bool.and_eq_true] at hB
    obtain ⟨⟨hr, hf⟩, hB'⟩ := hB
    rw [List.filterMap_cons_some (f := fun i => ops[i]?) h0] at h
    have hst : qOpIn F n P ops C i (wpQuietIn F n P ops C R (idx.filterMap (fun i => ops[i]?))) a := by unfold qOpIn; simp only [h0]; exact h
    obtain ⟨v, hy, hK⟩ := yieldsQuiet_of_qOpIn h0 hst
    exact wpAnyQIn_first h0 (Region.noSelect_spec hs) idx.length listed a (Region.free_spec h0 hf) (by simpa using hr) hy (lex_idx hs idx _ _ (fun j hj => hi j (List.mem_cons_of_mem _ hj)) hB' hK)

def elderAnyB (l : List Oper) : Bool := l.zipIdx.all fun (o, i) => o.after.all fun e => !Region.binds .any e || decide (e.on < i)
theorem elderAny_of {l : List Oper} (h : elderAnyB l = true) (i : Nat) (o : Oper) (ho : l[i]? = some o) (e : Edge) (he : e ∈ o.after) (hb : Region.binds .any e = true) : e.on < i := by
  have h1 := List.all_eq_true.1 h (o, i) (List.mem_iff_getElem?.2 ⟨i, by simp [ho]⟩)
  have h2 := Array.all_eq_true'.1 h1 e he
  simpa [hb] using h2
def waitB (o : Oper) (k : Nat) : Bool := o.after.any fun e => Region.binds .any e && e.on == k
theorem wait_of {o : Oper} {k : Nat} (h : waitB o k = true) : ∃ e ∈ o.after, Region.binds .any e = true ∧ e.on = k := by
  obtain ⟨e, he, hb⟩ := Array.any_eq_true'.1 h
  simp only [Bool.and_eq_true, beq_iff_eq] at hb
  exact ⟨e, he, hb.1, hb.2⟩
def apart2B (l : List Oper) (kA kS : Nat) (oA : Oper) : Bool := l.zipIdx.all fun (o, j) => j == kA || j == kS || oA.apart l.toArray o
theorem apart2_of {l : List Oper} {kA kS : Nat} {oA : Oper} (h : apart2B l kA kS oA = true) (j : Nat) (o : Oper) (ho : l[j]? = some o) (h1 : j ≠ kA) (h2 : j ≠ kS) : oA.apart l.toArray o = true := by
  have := List.all_eq_true.1 h (o, j) (List.mem_iff_getElem?.2 ⟨j, by simp [ho]⟩)
  simpa [h1, h2] using this

/-- The values of a block, laid one behind the other. -/
def storeN (b : Nat) : Nat → List Value → World → World
  | _, [], w => w
  | o, v :: vs, w => storeN b (o + 1) vs (w.setCell ⟨b, o, none⟩ v)
theorem storeN_below {B b : Nat} {w : World} (hB : B ≤ b) : ∀ (vs : List Value) (o : Nat) (w' : World), Below B w w' → Below B w (storeN b o vs w')
  | [], _, _, h => h
  | v :: vs, o, w', h => storeN_below hB vs (o + 1) _ (h.setCell hB v)

def allocB (os : List Oper) (kA kS kV sA sV : Nat) (idx : List Nat) (oA oS oV : Oper) : Bool :=
  (Region.noSelect os.toArray && lexIdxB os.toArray idx (((Array.replicate os.length false).setIfInBounds kA true).setIfInBounds kS true) && onceB os && apart2B os kA kS oA && elderAnyB os) &&
  (oA.guard.isNone && (oA.after.size == 0) && (oA.dst == some sA) && oS.guard.isNone && waitB oS kA && waitB oS kV && (oV.dst == some sV) && decide (kA ≠ kS) && decide (idx.length + 2 = os.length) && idx.all (fun i => decide (i < os.length)))

/-- A region of reads and calls that make memory, a block that is made whenever it comes up, and a store into it. -/
theorem region_alloc {id : Nat} {a : Act} {w : World} {os : List Oper} (kA kS kV sA sV : Nat) (idx : List Nat) (oA oS oV : Oper) (obj : Obj) (vs : List Value) (hoA : os[kA]? = some oA) (hoS : os[kS]? = some oS) (hoV : os[kV]? = some oV) (hch : allocB os kA kS kV sA sV idx oA oS oV = true) (hm : P.follows .mixedOrders = true)
    (hA : ∀ (Q : Exit → Act → World → Prop) (a : Act) (w : World) (K : Act → World → Prop), K (a.put (some sA) (ptrN w.heap.size)) (w.alloc obj) → oA.wpIn Fence.wide 8 P a w K Q)
    (h : ∃ aE : Nat → Act, (∀ W0 b, Below w.heap.size w W0 → wpQuiet P os.toArray (LyingB W0) (fun a' => a' = aE b) (idx.filterMap (fun i => os[i]?)) (a.put (some sA) (ptrN b))) ∧ (∀ b, aE b = (aE 0).put (some sA) (ptrN b)) ∧
      (∀ (Q : Exit → Act → World → Prop) w1 a' w', Below w.heap.size w w1 → Below (w1.alloc obj).heap.size (w1.alloc obj) w' → a'.tmps[sA]? = (aE w1.heap.size).tmps[sA]? → a'.tmps[sV]? = (aE w1.heap.size).tmps[sV]? → ∀ K : Act → World → Prop, K a' (storeN w1.heap.size 0 vs w') → oS.wpIn Fence.wide 8 P a' w' K Q) ∧
      ∀ w1 w' w'', Below w.heap.size w w1 → Below (w1.alloc obj).heap.size (w1.alloc obj) w' → Below (storeN w1.heap.size 0 vs w').heap.size (storeN w1.heap.size 0 vs w') w'' → Q .normal (aE w1.heap.size) w'') : (Code.region id os.toArray true).wp P Q a w := by
  obtain ⟨aE, hD, hE, hS, hT⟩ := h
  simp only [allocB, Bool.and_eq_true, Option.isNone_iff_eq_none, beq_iff_eq, decide_eq_true_eq] at hch
  obtain ⟨⟨⟨⟨⟨s1, s2⟩, s3⟩, s4⟩, s5⟩, ⟨⟨⟨⟨⟨⟨⟨⟨⟨t1, t2⟩, t3⟩, t4⟩, t5⟩, t6⟩, t7⟩, t8⟩, t9⟩, t10⟩⟩ := hch
  have t2' : oA.after = #[] := Array.eq_empty_of_size_eq_zero t2
  refine (wpIn_wide (n := 8)).1 ?_
  refine wpIn_region_any hm ?_
  have hidx : ∀ i ∈ idx, i < os.toArray.size := fun i hi => by simpa using List.all_eq_true.1 t10 i hi
  have k2 := alloc_any (F := Fence.wide) (n := 8) (P := P) (ops := os.toArray) (Q := Q) (W := w) (kA := kA) (kS := kS) (sA := sA) (sV := sV) (oA := oA) (oS := oS) (obj := obj) (aE := aE) (st := fun b w' => storeN b 0 vs w') rfl (Region.noSelect_spec s1) t8
    (by simpa using hoA) t1 t2' t3 (by simpa using hoS) t4 (fun j oj hj => apart2_of s4 j oj (by simpa using hj)) (fun i o ho => elderAny_of s5 i o (by simpa using ho))
    (by have := once_of (of_decide_eq_true s3); intro i j o o' s; rw [List.getElem?_toArray, List.getElem?_toArray]; exact this i j o o' s)
    (wait_of t5) (by obtain ⟨e, he, hb, hon⟩ := wait_of t6; exact ⟨e, he, hb, oV, by rw [hon]; simpa using hoV, t7⟩) (hA Q) hE
    (fun w1 w' h1 h2 => storeN_below h1.size vs 0 w' ((h1.alloc h1.size obj).trans (h2.mono (by have := h1.size; simp; omega))))
    (hS Q) hT idx.length (Array.replicate os.toArray.size false) a { w with drawn := w.drawn + 1 } (by simp)
    (by rw [Array.getD_eq_getD_getElem?, Array.getElem?_replicate, if_pos (by simpa using (List.getElem?_eq_some_iff.1 hoA).1)]; rfl)
    (by rw [Array.getD_eq_getD_getElem?, Array.getElem?_replicate, if_pos (by simpa using (List.getElem?_eq_some_iff.1 hoS).1)]; rfl) (lyingB_drew w)
    (fun W0 b hW0 => by
      have hq := quiet_wide (n := 8) (hD W0 b hW0)
      have hl : os.toArray.size = os.length := by simp
      rw [hl]
      refine lex_idx (F := Fence.wide) (n := 8) s1 idx _ _ hidx s2 ?_
      simpa using hq)
  rw [show idx.length + 1 + 1 = os.toArray.size by simp; omega] at k2
  exact k2
end
end Go.Proofs.Ytpglkakbiaihdaa

/-
  timers.Queue: set.
-/
namespace Go.Proofs.Ytpglkakbiaihdaa
open Go.RowKit Go.Shelf Go.Maps
set_option linter.unusedVariables false
set_option linter.unusedSimpArgs false

/-- A key in a block of its own, known whole. -/
def B2 (W : World) (b : Nat) (x y : Int) : Prop := W.heap[b]? = some (.cells #[.int .i64 x, .int .i64 y] 37 (0, 0))
theorem B2.lt {W : World} {b : Nat} {x y : Int} (h : B2 W b x y) : b < W.heap.size := (Array.getElem?_eq_some_iff.1 h).1
theorem B2.cells {W : World} {b : Nat} {x y : Int} (h : B2 W b x y) : W.cell? ⟨b, 0, none⟩ = some (.int .i64 x) ∧ W.cell? ⟨b, 1, none⟩ = some (.int .i64 y) := by
  unfold B2 at h
  refine ⟨?_, ?_⟩ <;> simp [World.cell?, h]
theorem B2.thaw {W : World} {b : Nat} {x y : Int} (h : B2 W b x y) : W.frozen? ⟨b, 0, none⟩ = false ∧ W.frozen? ⟨b, 1, none⟩ = false := by
  unfold B2 at h
  refine ⟨?_, ?_⟩ <;> simp [World.frozen?, h]
theorem B2.next {W W' : World} {b : Nat} {x y : Int} (h : B2 W b x y) (hb : Below W.heap.size W W') : B2 W' b x y := (hb.block b h.lt).trans h
theorem B2.start (w : World) (x y : Int) : B2 (w.alloc (.cells #[.int .i64 x, .int .i64 y] 37)) w.heap.size x y := by
  unfold B2
  show (w.heap.push _)[w.heap.size]? = _
  simp
theorem B2.alloc {W : World} {b : Nat} {x y : Int} (h : B2 W b x y) (o : Obj) : B2 (W.alloc o) b x y := h.next ((Below.refl _ _).alloc (Nat.le_refl _) _)
theorem B2.set {W : World} {b : Nat} {x y : Int} (h : B2 W b x y) (x' y' : Int) : B2 ((W.setCell ⟨b, 0, none⟩ (.int .i64 x')).setCell ⟨b, 1, none⟩ (.int .i64 y')) b x' y' := by
  unfold B2 at h ⊢
  simp [World.setCell, Array.getElem?_modify, h]
theorem B2.far {W : World} {b c : Nat} {x y : Int} (h : B2 W b x y) (hc : b ≠ c) (o : Nat) (v : Value) : B2 (W.setCell ⟨c, o, none⟩ v) b x y := by
  unfold B2 at h ⊢
  rw [Below.heap_setCell _ _ _ _ hc]
  exact h
theorem B2.kept {W W' : World} {b : Nat} {x y : Int} {S : Nat → Prop} (h : B2 W b x y) (k : Kept S W W') (hs : ¬ S b) : B2 W' b x y := (k.block b h.lt hs).trans h
theorem kept_lies {S : Nat → Prop} {W W' : World} (h : Below W.heap.size W W') : Kept S W W' := ⟨h.os, h.tape, h.output, h.size, fun k hk _ => h.block k hk⟩
theorem LeftQ.lies {B : Nat} {w w' : World} {q : QB} {L : List Ent} (h : Qs B w q L) (b : Below w.heap.size w w') : LeftQ B w w' q q L :=
  ⟨h.kept (kept_lies (S := fun _ => False) b) (fun _ _ x => x), ⟨rfl, rfl⟩, kept_lies b, fun _ x => .inl x⟩
theorem Ts.lies {B : Nat} {W W' : World} {tb : Nat} {q : QB} {m n o : Int} {L : List Ent} (h : Ts B W tb q m n o L) (b : Below W.heap.size W W') : Ts B W' tb q m n o L := h.kept (kept_lies (S := fun _ => False) b) (fun _ _ x => x)

theorem below_da (V : World) (o : Obj) : Below V.heap.size V (V.drew.alloc o) := (show Below V.heap.size V V.drew from ⟨rfl, rfl, rfl, Nat.le_refl _, fun _ _ => rfl⟩).alloc (Nat.le_refl _) o
theorem b2_da (V : World) (x y : Int) : B2 (V.drew.alloc (.cells #[.int .i64 x, .int .i64 y] 37)) V.heap.size x y := B2.start V.drew x y
theorem keep1' {W W' : World} {p : Addr} {v : Value} (h : W.cell? p = some v) (hb : Below W.heap.size W W') : W'.cell? p = some v := by
  rcases Nat.lt_or_ge p.block W.heap.size with hlt | hge
  · rw [hb.cell hlt]; exact h
  · simp [World.cell?, Array.getElem?_eq_none hge] at h
theorem keep3 {W W' : World} {p1 p2 p3 : Addr} {v1 v2 v3 : Value} (h : W.cell? p1 = some v1 ∧ W.cell? p2 = some v2 ∧ W.cell? p3 = some v3) (hb : Below W.heap.size W W') : W'.cell? p1 = some v1 ∧ W'.cell? p2 = some v2 ∧ W'.cell? p3 = some v3 :=
  ⟨keep1' h.1 hb, keep1' h.2.1 hb, keep1' h.2.2 hb⟩
/-- What set has in memory behind its call of Get: the timers, its own key, what Get told, and all that was as it was. -/
structure InSet (B : Nat) (w W : World) (tb : Nat) (q : QB) (m n o : Int) (L : List Ent) (at_ id a1 i1 : Int) (c : Nat) : Prop where
  ts : Ts B W tb q m n o L
  key : B2 W w.heap.size at_ id
  was : B2 W c a1 i1
  low : Below w.heap.size w W
  new : w.heap.size < c
theorem InSet.lies {B : Nat} {w W W' : World} {tb : Nat} {q : QB} {m n o : Int} {L : List Ent} {at_ id a1 i1 : Int} {c : Nat} (h : InSet B w W tb q m n o L at_ id a1 i1 c) (b : Below W.heap.size W W') : InSet B w W' tb q m n o L at_ id a1 i1 c :=
  ⟨h.ts.lies b, h.key.next b, h.was.next b, h.low.trans (b.mono h.low.size), h.new⟩

set_option maxHeartbeats 4000000 in
set_option maxRecDepth 20000 in
theorem tset_same {B : Nat} {w : World} {tb : Nat} {q : QB} {m n o : Int} {L : List Ent} (h : Ts B w tb q m n o L) (id at_ : Int) 
    (hc : ∀ W, Qs B W q L → Calls Try.prog 34 #[.pointer (some ⟨q.qb, 0, none⟩), .int .i64 id] W fun E w' => E = .returned (.tuple #[.agg #[.int .i64 at_, .int .i64 id], .int .i64 0]) ∧ Below W.heap.size W w') :
    Calls Try.prog 82 #[.pointer (some ⟨tb, 0, none⟩), .agg #[.int .i64 at_, .int .i64 id]] w fun E w' => E = .returned (.int .i64 0) ∧ LeftQ B w w' q q L := by
  obtain ⟨W0, hW0⟩ : ∃ W0, w.alloc (.cells #[.int .i64 at_, .int .i64 id] 37) = W0 := ⟨_, rfl⟩
  have K0 : Hid (Ts B W0 tb q m n o L ∧ B2 W0 w.heap.size at_ id ∧ Below w.heap.size w W0) := by
    rw [← hW0]
    exact ⟨h.grew ((Grew.refl w).alloc _), B2.start w at_ id, (Below.refl _ _).alloc (Nat.le_refl _) _⟩
  have HC := Lib.hid hc
  have H0 := Lib.hid h
  clear h hc
  go_enter Try.func82, Try.ntmps82
  go_wp2_with fail
  refine region_alloc 10 11 8 5 15 [0, 1, 2, 3, 4, 5, 6, 7, 8, 9, 12] _ _ _ (.cells #[.int .i64 0, .int .i64 0] 37) [.int .i64 at_, .int .i64 id] rfl rfl rfl (by kernel_rfl) mixedT ?hA ?hh
  case hA => exact fun Q a w K h => ⟨(fun f hf => by cases hf), h⟩
  apply Exists.intro
  refine ⟨fun V b hV => ?q, ?e, ?s, fun v1 v2 v3 h1 h2 h3 => ?t⟩
  case q =>
    have f0 := fun q : LiesB V => ((K0.out.1.lies hV).lies q.h).cells.1
    have f1 := fun q : LiesB V => ((K0.out.2.1.next hV).next q.h).cells.1
    have f2 := fun q : LiesB V => ((K0.out.2.1.next hV).next q.h).cells.2
    have CG : ∀ q' : LiesB V, Hid (Calls Try.prog 34 #[.pointer (some ⟨q.qb, 0, none⟩), .int .i64 id] q'.v fun E w' => E = .returned (.tuple #[.agg #[.int .i64 at_, .int .i64 id], .int .i64 0]) ∧ LyingB V w') := fun q' =>
      (HC.out q'.v ((K0.out.1.lies hV).lies q'.h).queue).mono fun _ w' ⟨he, hb⟩ => ⟨he, ⟨w', q'.h.trans (hb.mono q'.h.size)⟩, rfl⟩
    haveI hin : Inhabited (LiesB V) := ⟨⟨V, Below.refl _ _⟩⟩
    simp only [List.filterMap_cons, List.filterMap_nil, List.getElem?_cons_succ, List.getElem?_cons_zero, ptrN]
    repeat (quiet_step (first | (go_at_call 34; (with_reducible exact (CG _).out))))
    exact wpQuiet_nil rfl
  case e => exact fun b => rfl
  case s =>
    intro Q' v1 a' v2 h1 h2 e1 e2 K hK
    have X7 := (B2.start v1 0 0).next h2
    obtain ⟨x0, x1⟩ := X7.cells
    obtain ⟨y0, y1⟩ := X7.thaw
    have e1' : a'.tmps[5]? = some (.pointer (some ⟨v1.heap.size, 0, none⟩)) := e1
    have e2' : a'.tmps[15]? = some (.agg #[.int .i64 at_, .int .i64 id]) := e2
    refine ⟨(fun f hf => by cases hf), ?_⟩
    simp [Oper.semAt, execOp, Act.eval, e1', e2', go_sem, x0, x1, y0, y1]
    exact hK
  have IS : Hid (InSet B w v3 tb q m n o L at_ id at_ id v1.heap.size) := by
    have g1 := K0.out.2.1.next h1
    have n1 : w.heap.size ≠ v1.heap.size := Nat.ne_of_lt g1.lt
    have t1 := (K0.out.1.lies h1)
    have t2 := (t1.grew ((Grew.refl v1).alloc (.cells #[.int .i64 0, .int .i64 0] 37))).lies h2
    have own1 : ∀ b, q.own b ∨ b = tb → b < v1.heap.size := fun b hb => by
      rcases hb with hb | rfl
      · exact t1.queue.lt b hb
      · exact t1.lt
    refine ⟨(t2.kept (((Kept.refl (fun k => k = v1.heap.size) v2).setCell (p := ⟨v1.heap.size, 0, none⟩) (.inl rfl) (.int .i64 at_)).setCell (p := ⟨v1.heap.size, 1, none⟩) (.inl rfl) (.int .i64 id)) (fun b hb e => by have := own1 b hb; omega)).lies h3, ((((g1.alloc _).next h2).far n1 0 _).far n1 1 _).next h3, (((B2.start v1 0 0).next h2).set at_ id).next h3, ?_, g1.lt⟩
    have l1 : Below w.heap.size w v1 := K0.out.2.2.trans (h1.mono K0.out.2.2.size)
    have l2 : Below w.heap.size w v2 := (l1.alloc l1.size _).trans (h2.mono (by have := l1.size; simp; omega))
    have l3 : Below w.heap.size w (storeN v1.heap.size 0 [.int .i64 at_, .int .i64 id] v2) := storeN_below l1.size _ 0 v2 l2
    exact l3.trans (h3.mono l3.size)
  clear h1 h2 h3 K0 HC hW0
  generalize v1.heap.size = c at *
  clear v1 v2
  obtain ⟨k0, k1⟩ := IS.out.key.cells
  obtain ⟨z0, z1⟩ := IS.out.was.cells
  obtain ⟨t0, t1, t2, t3⟩ := IS.out.ts.cells
  go_wp2
  go_ret
  exact ⟨rfl, LeftQ.lies H0.out.queue IS.out.low⟩

set_option maxHeartbeats 4000000 in
set_option maxRecDepth 20000 in
theorem tset_move {B : Nat} {w : World} {tb : Nat} {q : QB} {m n o : Int} {L : List Ent} (h : Ts B w tb q m n o L) (id at_ : Int) (hx : Is64 id ∧ Is64 at_) (a1 : Int) (hne : (a1 == at_) = false)
    (hc : ∀ W, Qs B W q L → Calls Try.prog 34 #[.pointer (some ⟨q.qb, 0, none⟩), .int .i64 id] W fun E w' => E = .returned (.tuple #[.agg #[.int .i64 a1, .int .i64 id], .int .i64 0]) ∧ Below W.heap.size W w') :
    Calls Try.prog 82 #[.pointer (some ⟨tb, 0, none⟩), .agg #[.int .i64 at_, .int .i64 id]] w fun E w' => E = .returned (.int .i64 (moveR L (id, at_))) ∧ LeftQ B w w' q q (moveL L (id, at_)) := by
  obtain ⟨W0, hW0⟩ : ∃ W0, w.alloc (.cells #[.int .i64 at_, .int .i64 id] 37) = W0 := ⟨_, rfl⟩
  have K0 : Hid (Ts B W0 tb q m n o L ∧ B2 W0 w.heap.size at_ id ∧ Below w.heap.size w W0) := by
    rw [← hW0]
    exact ⟨h.grew ((Grew.refl w).alloc _), B2.start w at_ id, (Below.refl _ _).alloc (Nat.le_refl _) _⟩
  have HC := Lib.hid hc
  have H0 := Lib.hid h
  clear h hc
  go_enter Try.func82, Try.ntmps82
  go_wp2_with fail
  refine region_alloc 10 11 8 5 15 [0, 1, 2, 3, 4, 5, 6, 7, 8, 9, 12] _ _ _ (.cells #[.int .i64 0, .int .i64 0] 37) [.int .i64 a1, .int .i64 id] rfl rfl rfl (by kernel_rfl) mixedT ?hA ?hh
  case hA => exact fun Q a w K h => ⟨(fun f hf => by cases hf), h⟩
  apply Exists.intro
  refine ⟨fun V b hV => ?q, ?e, ?s, fun v1 v2 v3 h1 h2 h3 => ?t⟩
  case q =>
    have f0 := fun q : LiesB V => ((K0.out.1.lies hV).lies q.h).cells.1
    have f1 := fun q : LiesB V => ((K0.out.2.1.next hV).next q.h).cells.1
    have f2 := fun q : LiesB V => ((K0.out.2.1.next hV).next q.h).cells.2
    have CG : ∀ q' : LiesB V, Hid (Calls Try.prog 34 #[.pointer (some ⟨q.qb, 0, none⟩), .int .i64 id] q'.v fun E w' => E = .returned (.tuple #[.agg #[.int .i64 a1, .int .i64 id], .int .i64 0]) ∧ LyingB V w') := fun q' =>
      (HC.out q'.v ((K0.out.1.lies hV).lies q'.h).queue).mono fun _ w' ⟨he, hb⟩ => ⟨he, ⟨w', q'.h.trans (hb.mono q'.h.size)⟩, rfl⟩
    haveI hin : Inhabited (LiesB V) := ⟨⟨V, Below.refl _ _⟩⟩
    simp only [List.filterMap_cons, List.filterMap_nil, List.getElem?_cons_succ, List.getElem?_cons_zero, ptrN]
    repeat (quiet_step (first | (go_at_call 34; (with_reducible exact (CG _).out))))
    exact wpQuiet_nil rfl
  case e => exact fun b => rfl
  case s =>
    intro Q' v1 a' v2 h1 h2 e1 e2 K hK
    have X7 := (B2.start v1 0 0).next h2
    obtain ⟨x0, x1⟩ := X7.cells
    obtain ⟨y0, y1⟩ := X7.thaw
    have e1' : a'.tmps[5]? = some (.pointer (some ⟨v1.heap.size, 0, none⟩)) := e1
    have e2' : a'.tmps[15]? = some (.agg #[.int .i64 a1, .int .i64 id]) := e2
    refine ⟨(fun f hf => by cases hf), ?_⟩
    simp [Oper.semAt, execOp, Act.eval, e1', e2', go_sem, x0, x1, y0, y1]
    exact hK
  have IS : Hid (InSet B w v3 tb q m n o L at_ id a1 id v1.heap.size) := by
    have g1 := K0.out.2.1.next h1
    have n1 : w.heap.size ≠ v1.heap.size := Nat.ne_of_lt g1.lt
    have t1 := (K0.out.1.lies h1)
    have t2 := (t1.grew ((Grew.refl v1).alloc (.cells #[.int .i64 0, .int .i64 0] 37))).lies h2
    have own1 : ∀ b, q.own b ∨ b = tb → b < v1.heap.size := fun b hb => by
      rcases hb with hb | rfl
      · exact t1.queue.lt b hb
      · exact t1.lt
    refine ⟨(t2.kept (((Kept.refl (fun k => k = v1.heap.size) v2).setCell (p := ⟨v1.heap.size, 0, none⟩) (.inl rfl) (.int .i64 a1)).setCell (p := ⟨v1.heap.size, 1, none⟩) (.inl rfl) (.int .i64 id)) (fun b hb e => by have := own1 b hb; omega)).lies h3, ((((g1.alloc _).next h2).far n1 0 _).far n1 1 _).next h3, (((B2.start v1 0 0).next h2).set a1 id).next h3, ?_, g1.lt⟩
    have l1 : Below w.heap.size w v1 := K0.out.2.2.trans (h1.mono K0.out.2.2.size)
    have l2 : Below w.heap.size w v2 := (l1.alloc l1.size _).trans (h2.mono (by have := l1.size; simp; omega))
    have l3 : Below w.heap.size w (storeN v1.heap.size 0 [.int .i64 a1, .int .i64 id] v2) := storeN_below l1.size _ 0 v2 l2
    exact l3.trans (h3.mono l3.size)
  clear h1 h2 h3 K0 HC hW0
  generalize v1.heap.size = c at *
  clear v1 v2
  obtain ⟨k0, k1⟩ := IS.out.key.cells
  obtain ⟨z0, z1⟩ := IS.out.was.cells
  obtain ⟨t0, t1, t2, t3⟩ := IS.out.ts.cells
  have CM : ∀ k, Hid (Calls Try.prog 35 #[.pointer (some ⟨q.qb, 0, none⟩), .agg #[.int .i64 at_, .int .i64 id]] (v3.drewN k) fun E w' => E = .returned (.int .i64 (moveR L (id, at_))) ∧ LeftQ B (v3.drewN k) w' q q (moveL L (id, at_))) := fun k =>
    qmove_any (IS.out.ts.queue.grew (grewN v3 k)) IS.out.ts.diff (id, at_) hx
  go_wp2_with fail
  refine plain_last2 5 _ _ (Drawing v3) rfl rfl rfl (by kernel_rfl) mixedP (drawing_drew v3) ?_
  simp only [List.take_succ_cons, List.take_zero]
  repeat (go_big_quiet_step (fail))
  refine wpQuiet_nil ?_
  rintro _ ⟨nq, rfl⟩
  gi_wp2_with fail
  refine ⟨trivial, (callsIn_wide.2 (CM nq).out).mono ?_⟩
  rintro E W3 ⟨rfl, l3⟩
  have L3 := Lib.hid l3
  clear l3 CM
  gi_wp2
  go_wp2
  go_ret
  exact ⟨rfl, ((LeftQ.lies H0.out.queue IS.out.low).step (grewN v3 nq)).trans L3.out⟩

set_option maxHeartbeats 4000000 in
set_option maxRecDepth 20000 in
theorem tset_full {B : Nat} {w : World} {tb : Nat} {q : QB} {m n o : Int} {L : List Ent} (h : Ts B w tb q m n o L) (id at_ : Int) (hfull : decide (m ≤ (L.length : Int)) = true)
    (hc : ∀ W, Qs B W q L → Calls Try.prog 34 #[.pointer (some ⟨q.qb, 0, none⟩), .int .i64 id] W fun E w' => E = .returned (.tuple #[.agg #[.int .i64 0, .int .i64 0], .int .i64 14]) ∧ Below W.heap.size W w') :
    Calls Try.prog 82 #[.pointer (some ⟨tb, 0, none⟩), .agg #[.int .i64 at_, .int .i64 id]] w fun E w' => E = .returned (.int .i64 13) ∧ LeftQ B w w' q q L := by
  obtain ⟨W0, hW0⟩ : ∃ W0, w.alloc (.cells #[.int .i64 at_, .int .i64 id] 37) = W0 := ⟨_, rfl⟩
  have K0 : Hid (Ts B W0 tb q m n o L ∧ B2 W0 w.heap.size at_ id ∧ Below w.heap.size w W0) := by
    rw [← hW0]
    exact ⟨h.grew ((Grew.refl w).alloc _), B2.start w at_ id, (Below.refl _ _).alloc (Nat.le_refl _) _⟩
  have HC := Lib.hid hc
  have H0 := Lib.hid h
  clear h hc
  go_enter Try.func82, Try.ntmps82
  go_wp2_with fail
  refine region_alloc 10 11 8 5 15 [0, 1, 2, 3, 4, 5, 6, 7, 8, 9, 12] _ _ _ (.cells #[.int .i64 0, .int .i64 0] 37) [.int .i64 0, .int .i64 0] rfl rfl rfl (by kernel_rfl) mixedT ?hA ?hh
  case hA => exact fun Q a w K h => ⟨(fun f hf => by cases hf), h⟩
  apply Exists.intro
  refine ⟨fun V b hV => ?q, ?e, ?s, fun v1 v2 v3 h1 h2 h3 => ?t⟩
  case q =>
    have f0 := fun q : LiesB V => ((K0.out.1.lies hV).lies q.h).cells.1
    have f1 := fun q : LiesB V => ((K0.out.2.1.next hV).next q.h).cells.1
    have f2 := fun q : LiesB V => ((K0.out.2.1.next hV).next q.h).cells.2
    have CG : ∀ q' : LiesB V, Hid (Calls Try.prog 34 #[.pointer (some ⟨q.qb, 0, none⟩), .int .i64 id] q'.v fun E w' => E = .returned (.tuple #[.agg #[.int .i64 0, .int .i64 0], .int .i64 14]) ∧ LyingB V w') := fun q' =>
      (HC.out q'.v ((K0.out.1.lies hV).lies q'.h).queue).mono fun _ w' ⟨he, hb⟩ => ⟨he, ⟨w', q'.h.trans (hb.mono q'.h.size)⟩, rfl⟩
    haveI hin : Inhabited (LiesB V) := ⟨⟨V, Below.refl _ _⟩⟩
    simp only [List.filterMap_cons, List.filterMap_nil, List.getElem?_cons_succ, List.getElem?_cons_zero, ptrN]
    repeat (quiet_step (first | (go_at_call 34; (with_reducible exact (CG _).out))))
    exact wpQuiet_nil rfl
  case e => exact fun b => rfl
  case s =>
    intro Q' v1 a' v2 h1 h2 e1 e2 K hK
    have X7 := (B2.start v1 0 0).next h2
    obtain ⟨x0, x1⟩ := X7.cells
    obtain ⟨y0, y1⟩ := X7.thaw
    have e1' : a'.tmps[5]? = some (.pointer (some ⟨v1.heap.size, 0, none⟩)) := e1
    have e2' : a'.tmps[15]? = some (.agg #[.int .i64 0, .int .i64 0]) := e2
    refine ⟨(fun f hf => by cases hf), ?_⟩
    simp [Oper.semAt, execOp, Act.eval, e1', e2', go_sem, x0, x1, y0, y1]
    exact hK
  have IS : Hid (InSet B w v3 tb q m n o L at_ id 0 0 v1.heap.size) := by
    have g1 := K0.out.2.1.next h1
    have n1 : w.heap.size ≠ v1.heap.size := Nat.ne_of_lt g1.lt
    have t1 := (K0.out.1.lies h1)
    have t2 := (t1.grew ((Grew.refl v1).alloc (.cells #[.int .i64 0, .int .i64 0] 37))).lies h2
    have own1 : ∀ b, q.own b ∨ b = tb → b < v1.heap.size := fun b hb => by
      rcases hb with hb | rfl
      · exact t1.queue.lt b hb
      · exact t1.lt
    refine ⟨(t2.kept (((Kept.refl (fun k => k = v1.heap.size) v2).setCell (p := ⟨v1.heap.size, 0, none⟩) (.inl rfl) (.int .i64 0)).setCell (p := ⟨v1.heap.size, 1, none⟩) (.inl rfl) (.int .i64 0)) (fun b hb e => by have := own1 b hb; omega)).lies h3, ((((g1.alloc _).next h2).far n1 0 _).far n1 1 _).next h3, (((B2.start v1 0 0).next h2).set 0 0).next h3, ?_, g1.lt⟩
    have l1 : Below w.heap.size w v1 := K0.out.2.2.trans (h1.mono K0.out.2.2.size)
    have l2 : Below w.heap.size w v2 := (l1.alloc l1.size _).trans (h2.mono (by have := l1.size; simp; omega))
    have l3 : Below w.heap.size w (storeN v1.heap.size 0 [.int .i64 0, .int .i64 0] v2) := storeN_below l1.size _ 0 v2 l2
    exact l3.trans (h3.mono l3.size)
  clear h1 h2 h3 K0 HC hW0
  generalize v1.heap.size = c at *
  clear v1 v2
  obtain ⟨k0, k1⟩ := IS.out.key.cells
  obtain ⟨z0, z1⟩ := IS.out.was.cells
  obtain ⟨t0, t1, t2, t3⟩ := IS.out.ts.cells
  have HQ := Lib.hid (LeftQ.lies H0.out.queue IS.out.low)
  have hL : Hid (∀ W', Below v3.heap.size v3 W' → LeftQ B w W' q q L) := fun W' b => LeftQ.lies H0.out.queue (IS.out.low.trans (b.mono IS.out.low.size))
  have CL : ∀ q' : LiesB v3, Hid (Calls Try.prog 31 #[.pointer (some ⟨q.qb, 0, none⟩)] q'.v fun E w' => E = .returned (.int .i64 L.length) ∧ LyingB v3 w') := fun q' =>
    (qlen_any (IS.out.ts.lies q'.h).queue).mono fun _ w' ⟨he, hw⟩ => ⟨he, q', hw.symm⟩
  have f0 := fun q : LiesB v3 => (IS.out.ts.lies q.h).cells.1
  have f1 := fun q : LiesB v3 => (IS.out.ts.lies q.h).cells.2.1
  haveI hin : Inhabited (LiesB v3) := ⟨⟨v3, Below.refl _ _⟩⟩
  generalize L.length = len at *
  go_wp2_with fail
  refine region_lies mixedT (by kernel_rfl) ?_
  repeat (quiet_step (first | (go_at_call 31; (with_reducible exact (CL _).out))))
  refine wpQuiet_nil ?_
  rintro _ ⟨q6, rfl⟩
  clear f0 f1 CL hin
  go_wp2
  go_ret
  exact ⟨rfl, hL.out _ q6.h⟩

set_option maxHeartbeats 4000000 in
set_option maxRecDepth 20000 in
theorem tset_put {B : Nat} {w : World} {tb : Nat} {q : QB} {m n o : Int} {L : List Ent} (h : Ts B w tb q m n o L) (id at_ : Int) (hx : Is64 id ∧ Is64 at_) (hB : B ≤ w.heap.size) (hroom : decide (m ≤ (L.length : Int)) = false) (hr : L.length + 1 < 1099511627776)
    (hc : ∀ W, Qs B W q L → Calls Try.prog 34 #[.pointer (some ⟨q.qb, 0, none⟩), .int .i64 id] W fun E w' => E = .returned (.tuple #[.agg #[.int .i64 0, .int .i64 0], .int .i64 14]) ∧ Below W.heap.size W w') :
    Calls Try.prog 82 #[.pointer (some ⟨tb, 0, none⟩), .agg #[.int .i64 at_, .int .i64 id]] w fun E w' => E = .returned (.int .i64 (putsR L [(id, at_)])) ∧ ∃ q', LeftQ B w w' q q' (putsL L [(id, at_)]) := by
  obtain ⟨W0, hW0⟩ : ∃ W0, w.alloc (.cells #[.int .i64 at_, .int .i64 id] 37) = W0 := ⟨_, rfl⟩
  have K0 : Hid (Ts B W0 tb q m n o L ∧ B2 W0 w.heap.size at_ id ∧ Below w.heap.size w W0) := by
    rw [← hW0]
    exact ⟨h.grew ((Grew.refl w).alloc _), B2.start w at_ id, (Below.refl _ _).alloc (Nat.le_refl _) _⟩
  have HC := Lib.hid hc
  have H0 := Lib.hid h
  clear h hc
  obtain ⟨r, hr0⟩ : ∃ r, putsR L [(id, at_)] = r := ⟨_, rfl⟩
  obtain ⟨L2, hL2⟩ : ∃ L2, putsL L [(id, at_)] = L2 := ⟨_, rfl⟩
  have HL : Hid (L.length + 1 < 1099511627776 ∧ B ≤ w.heap.size ∧ (Is64 id ∧ Is64 at_)) := ⟨hr, hB, hx⟩
  have HR : Hid (putsR L [(id, at_)] = r ∧ putsL L [(id, at_)] = L2) := ⟨hr0, hL2⟩
  rw [hr0, hL2]
  clear hr0 hL2 hr hB hx
  go_enter Try.func82, Try.ntmps82
  go_wp2_with fail
  refine region_alloc 10 11 8 5 15 [0, 1, 2, 3, 4, 5, 6, 7, 8, 9, 12] _ _ _ (.cells #[.int .i64 0, .int .i64 0] 37) [.int .i64 0, .int .i64 0] rfl rfl rfl (by kernel_rfl) mixedT ?hA ?hh
  case hA => exact fun Q a w K h => ⟨(fun f hf => by cases hf), h⟩
  apply Exists.intro
  refine ⟨fun V b hV => ?q, ?e, ?s, fun v1 v2 v3 h1 h2 h3 => ?t⟩
  case q =>
    have f0 := fun q : LiesB V => ((K0.out.1.lies hV).lies q.h).cells.1
    have f1 := fun q : LiesB V => ((K0.out.2.1.next hV).next q.h).cells.1
    have f2 := fun q : LiesB V => ((K0.out.2.1.next hV).next q.h).cells.2
    have CG : ∀ q' : LiesB V, Hid (Calls Try.prog 34 #[.pointer (some ⟨q.qb, 0, none⟩), .int .i64 id] q'.v fun E w' => E = .returned (.tuple #[.agg #[.int .i64 0, .int .i64 0], .int .i64 14]) ∧ LyingB V w') := fun q' =>
      (HC.out q'.v ((K0.out.1.lies hV).lies q'.h).queue).mono fun _ w' ⟨he, hb⟩ => ⟨he, ⟨w', q'.h.trans (hb.mono q'.h.size)⟩, rfl⟩
    haveI hin : Inhabited (LiesB V) := ⟨⟨V, Below.refl _ _⟩⟩
    simp only [List.filterMap_cons, List.filterMap_nil, List.getElem?_cons_succ, List.getElem?_cons_zero, ptrN]
    repeat (quiet_step (first | (go_at_call 34; (with_reducible exact (CG _).out))))
    exact wpQuiet_nil rfl
  case e => exact fun b => rfl
  case s =>
    intro Q' v1 a' v2 h1 h2 e1 e2 K hK
    have X7 := (B2.start v1 0 0).next h2
    obtain ⟨x0, x1⟩ := X7.cells
    obtain ⟨y0, y1⟩ := X7.thaw
    have e1' : a'.tmps[5]? = some (.pointer (some ⟨v1.heap.size, 0, none⟩)) := e1
    have e2' : a'.tmps[15]? = some (.agg #[.int .i64 0, .int .i64 0]) := e2
    refine ⟨(fun f hf => by cases hf), ?_⟩
    simp [Oper.semAt, execOp, Act.eval, e1', e2', go_sem, x0, x1, y0, y1]
    exact hK
  have IS : Hid (InSet B w v3 tb q m n o L at_ id 0 0 v1.heap.size) := by
    have g1 := K0.out.2.1.next h1
    have n1 : w.heap.size ≠ v1.heap.size := Nat.ne_of_lt g1.lt
    have t1 := (K0.out.1.lies h1)
    have t2 := (t1.grew ((Grew.refl v1).alloc (.cells #[.int .i64 0, .int .i64 0] 37))).lies h2
    have own1 : ∀ b, q.own b ∨ b = tb → b < v1.heap.size := fun b hb => by
      rcases hb with hb | rfl
      · exact t1.queue.lt b hb
      · exact t1.lt
    refine ⟨(t2.kept (((Kept.refl (fun k => k = v1.heap.size) v2).setCell (p := ⟨v1.heap.size, 0, none⟩) (.inl rfl) (.int .i64 0)).setCell (p := ⟨v1.heap.size, 1, none⟩) (.inl rfl) (.int .i64 0)) (fun b hb e => by have := own1 b hb; omega)).lies h3, ((((g1.alloc _).next h2).far n1 0 _).far n1 1 _).next h3, (((B2.start v1 0 0).next h2).set 0 0).next h3, ?_, g1.lt⟩
    have l1 : Below w.heap.size w v1 := K0.out.2.2.trans (h1.mono K0.out.2.2.size)
    have l2 : Below w.heap.size w v2 := (l1.alloc l1.size _).trans (h2.mono (by have := l1.size; simp; omega))
    have l3 : Below w.heap.size w (storeN v1.heap.size 0 [.int .i64 0, .int .i64 0] v2) := storeN_below l1.size _ 0 v2 l2
    exact l3.trans (h3.mono l3.size)
  clear h1 h2 h3 K0 HC hW0
  generalize v1.heap.size = c at *
  clear v1 v2
  obtain ⟨k0, k1⟩ := IS.out.key.cells
  obtain ⟨z0, z1⟩ := IS.out.was.cells
  obtain ⟨t0, t1, t2, t3⟩ := IS.out.ts.cells
  have hL : Hid (∀ W', Below v3.heap.size v3 W' → LeftQ B w W' q q L ∧ InSet B w W' tb q m n o L at_ id 0 0 c) := fun W' b => ⟨LeftQ.lies H0.out.queue (IS.out.low.trans (b.mono IS.out.low.size)), IS.out.lies b⟩
  have CP : Hid (∀ W', InSet B w W' tb q m n o L at_ id 0 0 c → ∀ g, B2 W' g at_ id → ¬ q.turns g → Calls Try.prog 62 #[.pointer (some ⟨q.qb, 0, none⟩), .slice (some ⟨g, 0, none⟩) 1 1] W' fun E w' => E = .returned (.int .i64 r) ∧ ∃ q', LeftQ B W' w' q q' L2) := fun W' is g hg hoff => by
    have hk : KeysAt W' (some ⟨g, 0, none⟩) [(id, at_)] := .inr ⟨g, 0, rfl, hg.lt, fun i hi => by
      obtain rfl : i = 0 := by simpa using hi
      exact ⟨hg.cells, HL.out.2.2⟩⟩
    have := qput_gen is.ts.queue (Nat.le_trans HL.out.2.1 is.low.size) (some ⟨g, 0, none⟩) 1 hk (fun _ x hx ht => by
      cases hx
      exact hoff ht) (Nat.le_refl _) HL.out.1
    rw [HR.out.1, HR.out.2] at this
    exact this
  have CL : ∀ q' : LiesB v3, Hid (Calls Try.prog 31 #[.pointer (some ⟨q.qb, 0, none⟩)] q'.v fun E w' => E = .returned (.int .i64 L.length) ∧ LyingB v3 w') := fun q' =>
    (qlen_any (IS.out.ts.lies q'.h).queue).mono fun _ w' ⟨he, hw⟩ => ⟨he, q', hw.symm⟩
  have f0 := fun q : LiesB v3 => (IS.out.ts.lies q.h).cells.1
  have f1 := fun q : LiesB v3 => (IS.out.ts.lies q.h).cells.2.1
  haveI hin : Inhabited (LiesB v3) := ⟨⟨v3, Below.refl _ _⟩⟩
  generalize L.length = len at *
  go_wp2_with fail
  refine region_lies mixedT (by kernel_rfl) ?_
  repeat (quiet_step (first | (go_at_call 31; (with_reducible exact (CL _).out))))
  refine wpQuiet_nil ?_
  rintro _ ⟨q6, rfl⟩
  clear f0 f1 CL hin
  have IS6 := Lib.hid (hL.out _ q6.h)
  clear k0 k1 z0 z1 t0 t1 t2 t3
  obtain ⟨k0, k1⟩ := IS6.out.2.key.cells
  obtain ⟨t0, t1, t2, t3⟩ := IS6.out.2.ts.cells
  have PA : Hid (∀ W' g, Below q6.v.heap.size q6.v W' → B2 W' g at_ id → q6.v.heap.size ≤ g → Calls Try.prog 62 #[.pointer (some ⟨q.qb, 0, none⟩), .slice (some ⟨g, 0, none⟩) 1 1] W' fun E w' => E = .returned (.int .i64 r) ∧ Hid (∃ q', LeftQ B w w' q q' L2) ∧ w'.cell? ⟨tb, 0, none⟩ = some (.pointer (some ⟨q.qb, 0, none⟩)) ∧ w'.cell? ⟨w.heap.size, 0, none⟩ = some (.int .i64 at_) ∧ w'.cell? ⟨w.heap.size, 1, none⟩ = some (.int .i64 id)) := fun W' g hb hg hlt => by
    have is := IS6.out.2.lies hb
    refine (CP.out W' is g hg (fun ht => by have := IS6.out.2.ts.queue.lt g (.inl ht); omega)).mono ?_
    rintro E w' ⟨rfl, q', l⟩
    have hko : ¬ q.turns w.heap.size := fun ht => by have := H0.out.queue.lt w.heap.size (.inl ht); omega
    have ht0 : w'.heap[tb]? = W'.heap[tb]? := l.kept.block tb is.ts.lt (fun ht => is.ts.apart (.inl ht))
    have key := is.key.kept l.kept hko
    refine ⟨rfl, ⟨q', ((LeftQ.lies H0.out.queue is.low).trans l)⟩, ?_, key.cells.1, key.cells.2⟩
    rw [World.cell?_of_block ht0]
    exact is.ts.cells.1
  clear CP hL
  go_wp2_with fail
  go_region_held3 (fun w' => w'.cell? ⟨tb, 0, none⟩ = some (.pointer (some ⟨q.qb, 0, none⟩)) ∧ w'.cell? ⟨w.heap.size, 0, none⟩ = some (.int .i64 at_) ∧ w'.cell? ⟨w.heap.size, 1, none⟩ = some (.int .i64 id))
    (first | exact ⟨t0, k0, k1⟩ | exact keep3 ⟨t0, k0, k1⟩ (below_da _ _) | exact ⟨s0, s1, s2⟩)
    (first
      | (go_at_call 62; refine (PA.out _ q6.v.heap.size (below_da _ _) (b2_da _ _ _) (Nat.le_refl _)).mono ?_; rintro E w9 ⟨rfl, hq9, s0, s1, s2⟩))
  go_wp2
  go_ret
  exact ⟨rfl, hq9.out⟩
end Go.Proofs.Ytpglkakbiaihdaa

/-
  timers.Queue: set as one contract; Arm.
-/
namespace Go.Proofs.Ytpglkakbiaihdaa
open Go.RowKit Go.Shelf Go.Maps
set_option linter.unusedVariables false
set_option linter.unusedSimpArgs false

/-- What is armed behind an Arm that is taken. -/
def armL (L : List Ent) (x : Ent) : List Ent := x :: L.filter (fun y => y.1 != x.1)
/-- There is room for it, or it is armed. -/
def Room (m : Int) (L : List Ent) (id : Int) : Prop := (∃ y ∈ L, y.1 = id) ∨ (L.length : Int) < m

theorem filter_all {L : List Ent} {id : Int} (h : ∀ y ∈ L, y.1 ≠ id) : L.filter (fun y => y.1 != id) = L := List.filter_eq_self.2 fun y hy => by simpa using h y hy
theorem any_no {L : List Ent} {id : Int} (h : ∀ y ∈ L, y.1 ≠ id) : L.any (fun y => y.1 == id) = false := by
  rw [List.any_eq_false]
  intro y hy
  simpa using h y hy

theorem tset_ok {B : Nat} {w : World} {tb : Nat} {q : QB} {m n o : Int} {L : List Ent} (h : Ts B w tb q m n o L) (hB : B ≤ w.heap.size) (id at_ : Int) (hid : 0 ≤ id) (hat : timeE at_ = 0) (hx : Is64 id ∧ Is64 at_) (hr : L.length + 1 < 1099511627776) (hroom : Room m L id) :
    Calls Try.prog 82 #[.pointer (some ⟨tb, 0, none⟩), .agg #[.int .i64 at_, .int .i64 id]] w fun E w' => E = .returned (.int .i64 0) ∧ ∃ q', LeftQ B w w' q q' (armL L (id, at_)) := by
  by_cases hex : ∃ y ∈ L, y.1 = id
  · obtain ⟨⟨yi, ya⟩, hy, rfl⟩ := hex
    have hg : ∀ W, Qs B W q L → Calls Try.prog 34 #[.pointer (some ⟨q.qb, 0, none⟩), .int .i64 yi] W fun E w' => E = .returned (.tuple #[.agg #[.int .i64 ya, .int .i64 yi], .int .i64 0]) ∧ Below W.heap.size W w' := fun W hq =>
      (qget_there hq (yi, ya) hy).mono fun _ _ ⟨he, g⟩ => ⟨he, g.below⟩
    by_cases ha : ya = at_
    · subst ha
      refine (tset_same h yi ya hg).mono ?_
      rintro E w' ⟨rfl, l⟩
      exact ⟨rfl, q, l.perm ((List.perm_cons_erase hy).trans ((erase_filter h.diff hy).cons _))⟩
    · refine (tset_move h yi at_ hx ya (by simpa using ha) hg).mono ?_
      rintro E w' ⟨rfl, l⟩
      have hm : moveR L (yi, at_) = 0 := by
        unfold moveR
        rw [if_pos (List.any_eq_true.2 ⟨(yi, ya), hy, by simp⟩)]
        exact hat
      have hm2 : moveL L (yi, at_) = armL L (yi, at_) := if_pos hm
      rw [hm2] at l
      exact ⟨by rw [hm], q, l⟩
  · have hn : ∀ y ∈ L, y.1 ≠ id := fun y hy e => hex ⟨y, hy, e⟩
    have hg : ∀ W, Qs B W q L → Calls Try.prog 34 #[.pointer (some ⟨q.qb, 0, none⟩), .int .i64 id] W fun E w' => E = .returned (.tuple #[.agg #[.int .i64 0, .int .i64 0], .int .i64 14]) ∧ Below W.heap.size W w' := fun W hq =>
      (qget_none hq id hx.1 hn).mono fun _ _ ⟨he, g⟩ => ⟨he, g.below⟩
    have hlt : (L.length : Int) < m := by
      rcases hroom with e | e
      · exact absurd e hex
      · exact e
    refine (tset_put h id at_ hx hB (decide_eq_false (by omega)) hr hg).mono ?_
    rintro E w' ⟨rfl, q', l⟩
    have hp : putR L (id, at_) = 0 := by
      unfold putR
      rw [if_neg (by show ¬ id < 0; omega), if_neg (by show ¬ timeE at_ ≠ 0; simp [hat]), any_no hn]
      rfl
    have hs : putsR L [(id, at_)] = 0 := by
      show (if putR L (id, at_) = 0 then putsR ((id, at_) :: L) [] else putR L (id, at_)) = 0
      rw [if_pos hp]
      rfl
    have hl : putsL L [(id, at_)] = armL L (id, at_) := by
      unfold putsL armL
      rw [if_pos hs, filter_all hn]
      rfl
    rw [hl] at l
    exact ⟨by rw [hs], q', l⟩

theorem tset_no {B : Nat} {w : World} {tb : Nat} {q : QB} {m n o : Int} {L : List Ent} (h : Ts B w tb q m n o L) (id at_ : Int) (hx : Is64 id) (hroom : ¬ Room m L id) :
    Calls Try.prog 82 #[.pointer (some ⟨tb, 0, none⟩), .agg #[.int .i64 at_, .int .i64 id]] w fun E w' => E = .returned (.int .i64 13) ∧ LeftQ B w w' q q L := by
  have hn : ∀ y ∈ L, y.1 ≠ id := fun y hy e => hroom (.inl ⟨y, hy, e⟩)
  have hf : m ≤ (L.length : Int) := Int.not_lt.1 (fun e => hroom (.inr e))
  exact tset_full h id at_ (decide_eq_true hf) (fun W hq => (qget_none hq id hx hn).mono fun _ _ ⟨he, g⟩ => ⟨he, g.below⟩)

theorem armL_diff {L : List Ent} {x : Ent} (hd : L.Pairwise (fun x y => x.1 ≠ y.1)) : (armL L x).Pairwise (fun x y => x.1 ≠ y.1) :=
  List.pairwise_cons.2 ⟨fun y hy => by have := (List.mem_filter.1 hy).2; simp at this; exact fun e => this e.symm, hd.filter _⟩
theorem Ts.arm {B : Nat} {W W' : World} {tb : Nat} {q q' : QB} {m n o : Int} {L : List Ent} {id at_ : Int} (h : Ts B W tb q m n o L) (l : LeftQ B W W' q q' (armL L (id, at_))) (hid : 0 ≤ id) (hat : timeE at_ = 0) (hx : Is64 id ∧ Is64 at_) : Ts B W' tb q' m n o (armL L (id, at_)) :=
  h.left l (armL_diff h.diff) (fun x hx' => by
    rcases List.mem_cons.1 hx' with rfl | hm
    · exact ⟨⟨hid, hat⟩, hx⟩
    · exact h.good x (List.mem_filter.1 hm).1)

set_option maxHeartbeats 1000000 in
/-- Arm, whatever set answers. -/
theorem tarm_core {w : World} {tb : Nat} (id at_ r : Int) (hid : 0 ≤ id) (hat : timeE at_ = 0) (Φ : World → Prop)
    (hc : Calls Try.prog 82 #[.pointer (some ⟨tb, 0, none⟩), .agg #[.int .i64 at_, .int .i64 id]] w fun E w' => E = .returned (.int .i64 r) ∧ Φ w') :
    Calls Try.prog 44 #[.pointer (some ⟨tb, 0, none⟩), .int .i64 id, .int .i64 at_] w fun E w' => E = .returned (.int .i64 r) ∧ Φ w' := by
  have C1 : ∀ W, Hid (Calls Try.prog 76 #[.int .i64 at_] W fun E w' => E = .returned (.int .i64 0) ∧ W = w') := fun W => by
    have := time_any at_ W
    rw [hat] at this
    exact this
  have C2 := Lib.hid hc
  have h0 : decide (id < 0) = false := decide_eq_false (by omega)
  clear hc hat
  go_enter Try.func44, Try.ntmps44
  go_wp2_with fail
  refine (C1 _).out.mono ?_
  rintro E w1 ⟨rfl, rfl⟩
  go_wp2_with fail
  refine C2.out.mono ?_
  rintro E w2 ⟨rfl, hq⟩
  have HQ := Lib.hid hq
  clear hq
  go_wp2
  go_ret
  exact ⟨rfl, HQ.out⟩
set_option maxHeartbeats 1000000 in
theorem tarm_bad {w : World} {tb : Nat} (id at_ : Int) (hid : 0 ≤ id) (hat : timeE at_ ≠ 0) :
    Calls Try.prog 44 #[.pointer (some ⟨tb, 0, none⟩), .int .i64 id, .int .i64 at_] w fun E w' => E = .returned (.int .i64 (timeE at_)) ∧ w = w' := by
  have C1 : ∀ W, Hid (Calls Try.prog 76 #[.int .i64 at_] W fun E w' => E = .returned (.int .i64 (timeE at_)) ∧ W = w') := fun W => time_any at_ W
  have h0 : decide (id < 0) = false := decide_eq_false (by omega)
  have h1 : (timeE at_ != 0) = true := by simpa using hat
  clear hat
  generalize timeE at_ = r at *
  go_enter Try.func44, Try.ntmps44
  go_wp2_with fail
  refine (C1 _).out.mono ?_
  rintro E w1 ⟨rfl, rfl⟩
  go_wp2
  go_ret
  exact ⟨rfl, rfl⟩
set_option maxHeartbeats 1000000 in
theorem tarm_neg {w : World} {tb : Nat} (id at_ : Int) (hid : id < 0) :
    Calls Try.prog 44 #[.pointer (some ⟨tb, 0, none⟩), .int .i64 id, .int .i64 at_] w fun E w' => E = .returned (.int .i64 1) ∧ w = w' := by
  have h0 : decide (id < 0) = true := decide_eq_true hid
  go_enter Try.func44, Try.ntmps44
  go_wp2
  go_ret
  exact ⟨rfl, rfl⟩
end Go.Proofs.Ytpglkakbiaihdaa

/-
  timers.Queue: fire: what it keeps in memory, round by round.
-/
namespace Go.Proofs.Ytpglkakbiaihdaa
open Go.RowKit Go.Shelf Go.Maps
set_option linter.unusedVariables false
set_option linter.unusedSimpArgs false

/-- The cells of timers that came to be due. -/
def flatF (now : Int) : List Ent → List Value
  | [] => []
  | x :: r => .int .i64 x.1 :: .int .i64 x.2 :: .int .i64 (now - x.2) :: flatF now r
theorem flatF_append (now : Int) : ∀ (a b : List Ent), flatF now (a ++ b) = flatF now a ++ flatF now b
  | [], _ => rfl
  | x :: a, b => by rw [List.cons_append, flatF, flatF, flatF_append now a b]; rfl
theorem len_flatF (now : Int) : ∀ R : List Ent, (flatF now R).length = R.length * 3
  | [] => rfl
  | x :: r => by rw [flatF, List.length_cons, List.length_cons, List.length_cons, len_flatF now r, List.length_cons]; omega
theorem three_cells (W : World) (u1 u2 u3 : Value) {j : Nat} {u : Value} (h : [u1, u2, u3][j]? = some u) : (W.alloc (.cells #[u1, u2, u3] 86)).cell? ((⟨W.heap.size, 0, none⟩ : Addr).add j) = some u := by
  rcases j with _ | _ | _ | j
  · simp at h; subst h; simp [go_sem, Addr.add]
  · simp at h; subst h; simp [go_sem, Addr.add]
  · simp at h; subst h; simp [go_sem, Addr.add]
  · simp at h

theorem Ts.setWorst {B : Nat} {W : World} {tb : Nat} {q : QB} {m n o : Int} {L : List Ent} (h : Ts B W tb q m n o L) (o' : Int) : Ts B (W.setCell ⟨tb, 3, none⟩ (.int .i64 o')) tb q m n o' L := by
  refine ⟨?_, h.queue.kept ((Kept.refl (fun k => k = tb) W).setCell (p := ⟨tb, 3, none⟩) (.inl rfl) _) (fun b hb e => h.apart (e ▸ hb)), h.apart, h.base, h.diff, h.good⟩
  have := h.obj
  simp [World.setCell, Array.getElem?_modify, this]
theorem Ts.setNow {B : Nat} {W : World} {tb : Nat} {q : QB} {m n o : Int} {L : List Ent} (h : Ts B W tb q m n o L) (n' : Int) : Ts B (W.setCell ⟨tb, 2, none⟩ (.int .i64 n')) tb q m n' o L := by
  refine ⟨?_, h.queue.kept ((Kept.refl (fun k => k = tb) W).setCell (p := ⟨tb, 2, none⟩) (.inl rfl) _) (fun b hb e => h.apart (e ▸ hb)), h.apart, h.base, h.diff, h.good⟩
  have := h.obj
  simp [World.setCell, Array.getElem?_modify, this]
theorem Ts.thaw {B : Nat} {W : World} {tb : Nat} {q : QB} {m n o : Int} {L : List Ent} (h : Ts B W tb q m n o L) : W.frozen? ⟨tb, 2, none⟩ = false ∧ W.frozen? ⟨tb, 3, none⟩ = false := by
  have := h.obj
  refine ⟨?_, ?_⟩ <;> simp [World.frozen?, this]

/-- A row of timers is no key. -/
theorem row_ne {w : World} {B : Nat} {v : Value} {n : Nat} {xs : List Value} {kb : Nat} {x y : Int} (h : w.ownsRow B 86 3 v n xs) (k : B2 w kb x y) : ∀ g, v.ownBlock = some g → g ≠ kb := by
  intro g hg e
  subst e
  rcases h.2 with ⟨rfl, _⟩ | ⟨g', cap, cur, rfl, hb, h3, _⟩
  · cases hg
  · cases hg
    unfold B2 at k
    rw [h3] at k
    simp at k
/-- What fire has in memory: the timers, the row of those that it took away, the key that it looks at. w: where it began. -/
structure FireM (B : Nat) (w W : World) (tb : Nat) (q : QB) (m now o : Int) (D Lc : List Ent) (v : Value) (kb : Nat) (a1 i1 : Int) : Prop where
  ts : Ts B W tb q m now o Lc
  row : W.ownsRow w.heap.size 86 3 v D.length (flatF now D)
  key : B2 W kb a1 i1
  kbn : w.heap.size ≤ kb
  kept : Kept (fun k => q.turns k ∨ k = tb) w W
  old : ∀ k, q.own k ∨ k = tb → k < w.heap.size

theorem FireM.grew {B : Nat} {w W W' : World} {tb : Nat} {q : QB} {m now o : Int} {D Lc : List Ent} {v : Value} {kb : Nat} {a1 i1 : Int} (h : FireM B w W tb q m now o D Lc v kb a1 i1) (g : Grew W W') : FireM B w W' tb q m now o D Lc v kb a1 i1 :=
  ⟨h.ts.grew g, own_kept h.row (fun k e => g.block (own_lt h.row k e)), h.key.kept (g.kept (fun _ => False)) (fun x => x), h.kbn, h.kept.trans (g.kept _), h.old⟩
/-- Behind the store of the worst. -/
theorem FireM.worst {B : Nat} {w W : World} {tb : Nat} {q : QB} {m now o : Int} {D Lc : List Ent} {v : Value} {kb : Nat} {a1 i1 : Int} (h : FireM B w W tb q m now o D Lc v kb a1 i1) (o' : Int) : FireM B w (W.setCell ⟨tb, 3, none⟩ (.int .i64 o')) tb q m now o' D Lc v kb a1 i1 := by
  have ht := h.old tb (.inr rfl)
  refine ⟨h.ts.setWorst o', own_kept h.row (fun g e => Below.heap_setCell _ _ _ _ (fun e' => by have := own_block h.row g e; have : g = tb := e'; omega)), h.key.far (fun e => by have := h.kbn; omega) _ _, h.kbn, h.kept.setCell (p := ⟨tb, 3, none⟩) (.inl (.inr rfl)) _, h.old⟩
/-- Behind the append. -/
theorem FireM.append {B : Nat} {w W w2 : World} {tb : Nat} {q : QB} {m now o : Int} {D Lc : List Ent} {v v2 : Value} {kb : Nat} {a1 i1 : Int} (h : FireM B w W tb q m now o D Lc v kb a1 i1) (ob : Obj)
    (ho : w2.ownsRow w.heap.size 86 3 v2 (D.length + 1) (flatF now D ++ [.int .i64 i1, .int .i64 a1, .int .i64 (now - a1)])) (hg : (W.alloc ob).grownBy w2 v.ownBlock) :
    FireM B w w2 tb q m now o (D ++ [(i1, a1)]) Lc v2 kb a1 i1 := by
  have K : Kept (fun k => v.ownBlock = some k) W w2 := ((Kept.refl (fun k => v.ownBlock = some k) W).alloc ob).grown hg (fun i e => .inl e)
  refine ⟨h.ts.kept K (fun b hb e => by have := h.old b hb; have := own_block h.row b e; omega), ?_, h.key.kept K (fun e => row_ne h.row h.key kb e rfl), h.kbn, ?_, h.old⟩
  · rw [List.length_append, flatF_append]
    exact ho
  · have hw := h.kept.size
    refine ⟨K.os.trans h.kept.os, K.tape.trans h.kept.tape, K.output.trans h.kept.output, Nat.le_trans hw K.size, fun k hk hs => ?_⟩
    rw [K.block k (Nat.lt_of_lt_of_le hk hw) (fun e => by have := own_block h.row k e; omega)]
    exact h.kept.block k hk hs
/-- Behind a Drop. -/
theorem FireM.drop {B : Nat} {w W w2 : World} {tb : Nat} {q : QB} {m now o : Int} {D Lc : List Ent} {v : Value} {kb : Nat} {a1 i1 : Int} (h : FireM B w W tb q m now o D Lc v kb a1 i1) (x : Ent) (l : LeftQ B W w2 q q (Lc.erase x)) : FireM B w w2 tb q m now o D (Lc.erase x) v kb a1 i1 := by
  have hw := h.kept.size
  refine ⟨h.ts.left l (h.ts.diff.sublist List.erase_sublist) (fun y hy => h.ts.good y (List.mem_of_mem_erase hy)), own_kept h.row (fun g e => l.kept.block g (own_lt h.row g e) (fun ht => by have := h.old g (.inl (.inl ht)); have := own_block h.row g e; omega)), h.key.kept l.kept (fun ht => by have := h.old kb (.inl (.inl ht)); have := h.kbn; omega), h.kbn, ?_, h.old⟩
  refine ⟨l.kept.os.trans h.kept.os, l.kept.tape.trans h.kept.tape, l.kept.output.trans h.kept.output, Nat.le_trans hw l.kept.size, fun k hk hs => ?_⟩
  rw [l.kept.block k (Nat.lt_of_lt_of_le hk hw) (fun ht => hs (.inl ht))]
  exact h.kept.block k hk hs
/-- A new block for the key. -/
theorem FireM.rekey {B : Nat} {w W W2 : World} {tb : Nat} {q : QB} {m now o : Int} {D Lc : List Ent} {v : Value} {kb : Nat} {a1 i1 a2 i2 : Int} (h : FireM B w W tb q m now o D Lc v kb a1 i1) (g : Grew (W.alloc (.cells #[.int .i64 a1, .int .i64 i1] 37)) W2) :
    FireM B w ((W2.setCell ⟨W.heap.size, 0, none⟩ (.int .i64 a2)).setCell ⟨W.heap.size, 1, none⟩ (.int .i64 i2)) tb q m now o D Lc v W.heap.size a2 i2 := by
  have h2 := (h.grew ((Grew.refl W).alloc (.cells #[.int .i64 a1, .int .i64 i1] 37))).grew g
  have k2 : B2 W2 W.heap.size a1 i1 := (B2.start W a1 i1).kept (g.kept (fun _ => False)) (fun x => x)
  have hw := h.kept.size
  have S : ∀ k, k < W.heap.size → k ≠ W.heap.size := fun k hk => Nat.ne_of_lt hk
  have kk : Kept (fun k => k = W.heap.size) W2 ((W2.setCell ⟨W.heap.size, 0, none⟩ (.int .i64 a2)).setCell ⟨W.heap.size, 1, none⟩ (.int .i64 i2)) := ((Kept.refl (fun k => k = W.heap.size) W2).setCell (p := ⟨W.heap.size, 0, none⟩) (.inl rfl) _).setCell (p := ⟨W.heap.size, 1, none⟩) (.inl rfl) _
  refine ⟨h2.ts.kept kk (fun b hb e => by have := h.old b hb; omega), own_kept h2.row (fun g e => kk.block g (own_lt h2.row g e) (fun e' => by have := own_lt h.row g e; omega)), k2.set a2 i2, hw, ?_, h.old⟩
  refine ⟨kk.os.trans h2.kept.os, kk.tape.trans h2.kept.tape, kk.output.trans h2.kept.output, Nat.le_trans h2.kept.size kk.size, fun k hk hs => ?_⟩
  rw [kk.block k (Nat.lt_of_lt_of_le hk h2.kept.size) (fun e => by omega)]
  exact h2.kept.block k hk hs
end Go.Proofs.Ytpglkakbiaihdaa

/-
  timers.Queue: fire.
-/
namespace Go.Proofs.Ytpglkakbiaihdaa
open Go.RowKit Go.Shelf Go.Maps
set_option linter.unusedVariables false
set_option linter.unusedSimpArgs false

theorem timeE_may5 {t : Int} (h : timeE t = 0) : 0 ≤ t ∧ t < 1099511627776 := by
  by_cases hh : t < 0 ∨ 1099511627776 ≤ t
  · exact absurd h (timeE_ne hh)
  · omega
/-- What was taken away, in order, and what is left. -/
structure DueI (now o : Int) (L D Lc : List Ent) (o' : Int) : Prop where
  perm : L.Perm (D ++ Lc)
  sorted : Sorted D
  ahead : ∀ x ∈ D, ∀ y ∈ Lc, ah x y = true
  early : ∀ x ∈ D, x.2 ≤ now
  worst : o' = D.foldl (fun m x => max m (now - x.2)) o
theorem DueI.start (now o : Int) (L : List Ent) : DueI now o L [] L o := ⟨List.Perm.refl _, List.Pairwise.nil, (fun x hx => by cases hx), (fun x hx => by cases hx), rfl⟩
theorem nodup_of_diff {L : List Ent} (hd : L.Pairwise (fun x y => x.1 ≠ y.1)) : L.Nodup := hd.imp (fun h e => h (by rw [e]))
theorem DueI.step {now o : Int} {L D Lc : List Ent} {o' i1 a1 : Int} (h : DueI now o L D Lc o') (hd : Lc.Pairwise (fun x y => x.1 ≠ y.1)) (hf : IsFirst Lc (i1, a1)) (ha : a1 ≤ now) : DueI now o L (D ++ [(i1, a1)]) (Lc.erase (i1, a1)) (max o' (now - a1)) := by
  refine ⟨?_, ?_, ?_, ?_, ?_⟩
  · have p1 : Lc.Perm ((i1, a1) :: Lc.erase (i1, a1)) := List.perm_cons_erase hf.1
    rw [List.append_assoc]
    exact h.perm.trans (p1.append_left D)
  · exact List.pairwise_append.2 ⟨h.sorted, List.pairwise_singleton _ _, fun x hx y hy => by
      obtain rfl := List.mem_singleton.1 hy
      exact h.ahead x hx _ hf.1⟩
  · intro x hx y hy
    have hy' := List.mem_of_mem_erase hy
    rcases List.mem_append.1 hx with hx | hx
    · exact h.ahead x hx y hy'
    · obtain rfl := List.mem_singleton.1 hx
      exact hf.2 y hy' (fun e => (List.Nodup.not_mem_erase (nodup_of_diff hd)) (e ▸ hy))
  · intro x hx
    rcases List.mem_append.1 hx with hx | hx
    · exact h.early x hx
    · obtain rfl := List.mem_singleton.1 hx
      exact ha
  · rw [List.foldl_append, ← h.worst]
    rfl

theorem has_first : ∀ {L : List Ent}, L ≠ [] → L.Pairwise (fun x y => x.1 ≠ y.1) → ∃ x, IsFirst L x
  | [], h, _ => absurd rfl h
  | [x], _, _ => ⟨x, List.mem_singleton.2 rfl, fun y hy hne => absurd (List.mem_singleton.1 hy) hne⟩
  | x :: z :: r, _, hd => by
    obtain ⟨hx, hr⟩ := List.pairwise_cons.1 hd
    obtain ⟨y, hy, hm⟩ := has_first (L := z :: r) (by simp) hr
    rcases ah_total (hx y hy) with e | e
    · refine ⟨x, List.mem_cons_self, fun u hu hne => ?_⟩
      rcases List.mem_cons.1 hu with rfl | hu
      · exact absurd rfl hne
      · by_cases huy : u = y
        · subst huy; exact e
        · have e2 := hm u hu huy
          rw [ah_eq] at e e2 ⊢
          simp only [decide_eq_true_eq] at e e2 ⊢
          omega
    · refine ⟨y, List.mem_cons_of_mem _ hy, fun u hu hne => ?_⟩
      rcases List.mem_cons.1 hu with rfl | hu
      · exact e
      · exact hm u hu hne

/-- What First tells of them. -/
def Fst (L : List Ent) (a1 i1 e1 : Int) : Prop := (e1 = 0 ∧ IsFirst L (i1, a1)) ∨ (e1 = 14 ∧ L = [])
theorem qfirst_gen {B : Nat} {W : World} {q : QB} {L : List Ent} (h : Qs B W q L) (hd : L.Pairwise (fun x y => x.1 ≠ y.1)) :
    ∃ a1 i1 e1, Fst L a1 i1 e1 ∧ Calls Try.prog 32 #[.pointer (some ⟨q.qb, 0, none⟩)] W fun E w' => E = .returned (.tuple #[.agg #[.int .i64 a1, .int .i64 i1], .int .i64 e1]) ∧ Grew W w' := by
  by_cases hL : L = []
  · subst hL
    exact ⟨0, 0, 14, .inr ⟨rfl, rfl⟩, qfirst_nil h⟩
  · obtain ⟨x, hx⟩ := has_first hL hd
    exact ⟨x.2, x.1, 0, .inl ⟨rfl, hx⟩, qfirst_any h x hx⟩

/-- What fire leaves. -/
def FireP (B : Nat) (w : World) (tb : Nat) (q : QB) (m now o : Int) (L : List Ent) (E : Ending) (w' : World) : Prop :=
  ∃ (D Lc : List Ent) (o' : Int) (ra : Option Addr) (rc : Nat), E = .returned (.slice ra D.length rc) ∧ Ts B w' tb q m now o' Lc ∧ w'.ownsRow w.heap.size 86 3 (.slice ra D.length rc) D.length (flatF now D) ∧ Kept (fun k => q.turns k ∨ k = tb) w w' ∧ DueI now o L D Lc o' ∧ ∀ y ∈ Lc, now < y.2

set_option maxHeartbeats 4000000 in
set_option maxRecDepth 20000 in
theorem fire_any {B : Nat} {w : World} {tb : Nat} {q : QB} {m now o : Int} {L : List Ent} (h : Ts B w tb q m now o L) (hn : timeE now = 0) (hl : L.length < 1099511627776) :
    Calls Try.prog 84 #[.pointer (some ⟨tb, 0, none⟩)] w (FireP B w tb q m now o L) := by
  obtain ⟨i0, hi0, hz0, hz1, hz2⟩ := info_parts (P := Try.prog) (e := 86) (z := .agg #[.int .i64 0, .int .i64 0, .int .i64 0]) (size := 3) (bytes := 24) (by kernel_rfl)
  have HI : Hid (Try.prog.info? 86 = some i0 ∧ i0.zero = some (.agg #[.int .i64 0, .int .i64 0, .int .i64 0]) ∧ i0.size = 3 ∧ i0.bytes = 24) := ⟨hi0, hz0, hz1, hz2⟩
  clear hi0 hz0 hz1 hz2
  have hnow := timeE_may5 hn
  obtain ⟨n0, n1⟩ := hnow
  obtain ⟨a1, i1, e1, hF, hc⟩ := qfirst_gen h.queue h.diff
  have C1 := Lib.hid hc
  have HF := Lib.hid hF
  have H0 := Lib.hid h
  have HL := Lib.hid hl
  have c0 := h.cells.1
  clear h hc hF hl hn
  go_enter Try.func84, Try.ntmps84
  go_wp2_with fail
  refine C1.out.mono ?_
  rintro E w1 ⟨rfl, g1⟩
  have M1 : Hid (FireM B w (w1.alloc (.cells #[.int .i64 a1, .int .i64 i1] 37)) tb q m now o [] L (.slice none 0 0) w1.heap.size a1 i1) := by
    have t1 := (H0.out.grew g1).grew ((Grew.refl w1).alloc (.cells #[.int .i64 a1, .int .i64 i1] 37))
    exact ⟨t1, ⟨rfl, .inl ⟨rfl, rfl⟩⟩, B2.start w1 a1 i1, g1.size, (g1.kept _).trans (((Grew.refl w1).alloc _).kept _), fun k hk => by
      rcases hk with hk | rfl
      · exact H0.out.queue.lt k hk
      · exact H0.out.lt⟩
  clear c0
  go_wp2_with fail
  go_loopg [3, 4, 5] L.length (fun gk s3 s4 s5 wr => ∃ (D Lc : List Ent) (o' : Int) (ra : Option Addr) (rc kb : Nat) (a1 i1 e1 : Int), s3 = .slice ra D.length rc ∧ s4 = .pointer (some ⟨kb, 0, none⟩) ∧ s5 = .int .i64 e1 ∧ Lc.length ≤ gk ∧ Hid (FireM B w wr tb q m now o' D Lc (.slice ra D.length rc) kb a1 i1 ∧ DueI now o L D Lc o' ∧ Fst Lc a1 i1 e1))
  case atStart => exact ⟨[], L, o, none, 0, _, a1, i1, e1, rfl, rfl, rfl, Nat.le_refl _, M1.out, DueI.start now o L, HF.out⟩
  case round =>
    rename World => V
    obtain ⟨D, Lc, o', ra, rc, kb, a1, i1, e1, rfl, rfl, rfl, hgk, HM⟩ := hrel
    clear M1 C1 HF
    obtain ⟨k0, k1⟩ := HM.out.1.key.cells
    obtain ⟨t0, t1, t2, t3⟩ := HM.out.1.ts.cells
    rcases HM.out.2.2 with ⟨rfl, hfst⟩ | ⟨rfl, hnil⟩
    · by_cases ha : a1 ≤ now
      · have ha' : decide (a1 ≤ now) = true := decide_eq_true ha
        have hg1 := (HM.out.1.ts.good _ hfst.1).1.2
        obtain ⟨a0, _⟩ := timeE_may5 hg1
        have wr : IntKind.i64.wrap (now - a1) = now - a1 := IntWalk.i64_in _ (by omega)
        obtain ⟨_, th⟩ := HM.out.1.ts.thaw
        have HFs := Lib.hid hfst
        have hlen : Hid (D.length + Lc.length = L.length) := by
          have := HM.out.2.1.perm.length_eq
          rw [List.length_append] at this
          exact this.symm
        clear hfst hg1
        go_wp2_with fail
        go_quiet (fail)
        generalize nq = n1q at *
        go_wp2_with fail
        go_quiet (fail)
        clear wr
        go_upto_region 7 with (fail)
        obtain ⟨V2, hV2⟩ : ∃ V2, (V.drewN (n1q + nq)).setCell ⟨tb, 3, none⟩ (.int .i64 (max o' (now - a1))) = V2 := ⟨_, rfl⟩
        have M2 : Hid (FireM B w V2 tb q m now (max o' (now - a1)) D Lc (.slice ra D.length rc) kb a1 i1) := by
          rw [← hV2]
          exact (HM.out.1.grew (grewN V _)).worst _
        have DS : Hid (DueI now o L (D ++ [(i1, a1)]) (Lc.erase (i1, a1)) (max o' (now - a1))) := HM.out.2.1.step HM.out.1.ts.diff HFs.out ha
        rw [hV2]
        generalize max o' (now - a1) = o2 at *
        clear hV2 HM k0 k1 t0 t1 t2 t3 th
        have hlt1 : D.length < 1099511627776 := by have := hlen.out; have := HL.out; omega
        have hsz : w.heap.size ≤ V2.heap.size := M2.out.kept.size
        obtain ⟨k0, k1⟩ := M2.out.key.cells
        have hkl := M2.out.key.lt
        have H4 : Hid (∀ v2 w4, w4.ownsRow w.heap.size 86 3 v2 (D.length + 1) (flatF now D ++ [.int .i64 i1, .int .i64 a1, .int .i64 (now - a1)]) → (V2.alloc (.cells #[.int .i64 i1, .int .i64 a1, .int .i64 (now - a1)] 86)).grownBy w4 (Value.slice ra D.length rc).ownBlock → FireM B w w4 tb q m now o2 (D ++ [(i1, a1)]) Lc v2 kb a1 i1) := fun v2 w4 ho hg => M2.out.append _ ho hg
        obtain ⟨dl, hdl⟩ : ∃ dl, D.length = dl := ⟨_, rfl⟩
        have HDL := Lib.hid hdl
        have ROW := Lib.hid M2.out.row
        rw [hdl] at H4 ROW hlt1 ⊢
        clear hdl
        go_wp2_with (at_builtin; refine wpList_append_own _ rfl _ _ 82 rfl w.heap.size 86 i0 (.agg #[.int .i64 0, .int .i64 0, .int .i64 0]) 3 24 Try.underlying82 HI.out.1 HI.out.2.1 HI.out.2.2.1 HI.out.2.2.2 rfl (by decide) _ _ _ rfl (own_kept ROW.out (fun g e => Below.heap_alloc _ _ _ (own_lt ROW.out g e))) ⟨V2.heap.size, 0, none⟩ 1 1 [.int .i64 i1, .int .i64 a1, .int .i64 (now - a1)] rfl rfl (fun j u hj => three_cells _ _ _ _ hj) (by simp [Value.oneCell']) (by unfold maxLen; omega) (by omega) (by simp; omega) ?_; intro v2 w4 ho2 hg2 _; obtain ⟨a2, cap2, rfl⟩ := own_form ho2; have M4 := Lib.hid (H4.out _ _ ho2 hg2); clear ho2 hg2)
        clear k0 k1 hkl H4 ROW M2
        obtain ⟨k0, k1⟩ := M4.out.key.cells
        have t0 := M4.out.ts.cells.1
        have CD : ∀ k, Hid (Calls Try.prog 66 #[.pointer (some ⟨q.qb, 0, none⟩), .int .i64 i1] (w4.drewN k) fun E w' => E = .returned (.tuple #[.agg #[.int .i64 a1, .int .i64 i1], .int .i64 0]) ∧ LeftQ B (w4.drewN k) w' q q (Lc.erase (i1, a1))) := fun k =>
          qdrop_there (M4.out.ts.queue.grew (grewN w4 k)) (i1, a1) HFs.out.1
        refine plain_last 6 _ (Drawing w4) rfl rfl (by kernel_rfl) mixedP (drawing_drew w4) ?_
        simp only [List.take_succ_cons, List.take_zero]
        repeat (go_big_quiet_step (fail))
        refine wpQuiet_nil ?_
        rintro _ ⟨mq, rfl⟩
        gi_wp2_with fail
        refine ⟨trivial, (callsIn_wide.2 (CD mq).out).mono ?_⟩
        rintro E w5 ⟨rfl, l5⟩
        have M5 := Lib.hid ((M4.out.grew (grewN w4 mq)).drop (i1, a1) l5)
        clear l5 CD k0 k1 t0 M4
        obtain ⟨k0, k1⟩ := M5.out.key.cells
        have t0 := M5.out.ts.cells.1
        have hk5 := M5.out.key.lt
        have ht5 := M5.out.ts.lt
        obtain ⟨a3, i3, e3, hF3, hc3⟩ := qfirst_gen (M5.out.ts.grew ((Grew.refl w5).alloc (.cells #[.int .i64 a1, .int .i64 i1] 37))).queue M5.out.ts.diff
        have C6 := Lib.hid hc3
        have HF3 := Lib.hid hF3
        clear hc3 hF3
        gi_wp2
        go_wp2_with fail
        refine C6.out.mono ?_
        rintro E w6 ⟨rfl, g6⟩
        have M6 := Lib.hid (M5.out.rekey g6 (a2 := a3) (i2 := i3))
        have k6 : B2 w6 w5.heap.size a1 i1 := (B2.start w5 a1 i1).kept (g6.kept (fun _ => False)) (fun x => x)
        obtain ⟨y0, y1⟩ := k6.cells
        obtain ⟨z0, z1⟩ := k6.thaw
        have hel : Hid ((Lc.erase (i1, a1)).length + 1 = Lc.length) := by
          have h1 := (List.perm_cons_erase HFs.out.1).length_eq
          rw [List.length_cons] at h1
          exact h1.symm
        clear g6 k6 C6 k0 k1 t0 hk5 ht5
        go_wp2
        go_roundg (Lc.erase (i1, a1)).length
        case measure => have := hel.out; omega
        case rel => exact ⟨D ++ [(i1, a1)], Lc.erase (i1, a1), o2, a2, cap2, w5.heap.size, a3, i3, e3, by rw [List.length_append, HDL.out]; rfl, rfl, rfl, Nat.le_refl _, by have := M6.out; rw [List.length_append, HDL.out]; exact this, DS.out, HF3.out⟩
      · have ha' : decide (a1 ≤ now) = false := decide_eq_false ha
        have HFs := Lib.hid hfst
        clear hfst
        go_wp2_with fail
        go_quiet (fail)
        go_wp2
        refine bodyPost_ret (v := .slice ra D.length rc) (by simp [results, Try.f84, go_sem]) rfl ?_
        have M2 := HM.out.1.grew (grewN V nq)
        exact ⟨D, Lc, o', ra, rc, rfl, M2.ts, M2.row, M2.kept, HM.out.2.1, fun y hy => by
          by_cases e : y = (i1, a1)
          · subst e; show now < a1; omega
          · have := HFs.out.2 y hy e
            rw [ah_eq] at this
            simp only [decide_eq_true_eq] at this
            omega⟩
    · have HN := Lib.hid hnil
      clear hnil
      go_wp2_with fail
      go_quiet (fail)
      go_wp2
      refine bodyPost_ret (v := .slice ra D.length rc) (by simp [results, Try.f84, go_sem]) rfl ?_
      have M2 := HM.out.1.grew (grewN V nq)
      exact ⟨D, Lc, o', ra, rc, rfl, M2.ts, M2.row, M2.kept, HM.out.2.1, fun y hy => by rw [HN.out] at hy; cases hy⟩
end Go.Proofs.Ytpglkakbiaihdaa

/-
  timers.Queue: Due.
-/
namespace Go.Proofs.Ytpglkakbiaihdaa
open Go.RowKit Go.Shelf Go.Maps
set_option linter.unusedVariables false
set_option linter.unusedSimpArgs false

/-- What Due leaves. -/
def DueP (B : Nat) (w : World) (tb : Nat) (q : QB) (m now o : Int) (L : List Ent) (E : Ending) (w' : World) : Prop :=
  ∃ (D Lc : List Ent) (o' : Int) (ra : Option Addr) (rc : Nat), E = .returned (.tuple #[.slice ra D.length rc, .int .i64 0]) ∧ Ts B w' tb q m now o' Lc ∧ w'.ownsRow w.heap.size 86 3 (.slice ra D.length rc) D.length (flatF now D) ∧ Kept (fun k => q.turns k ∨ k = tb) w w' ∧ DueI now o L D Lc o' ∧ ∀ y ∈ Lc, now < y.2

set_option maxHeartbeats 1000000 in
theorem due_any {B : Nat} {w : World} {tb : Nat} {q : QB} {m n o : Int} {L : List Ent} (h : Ts B w tb q m n o L) (t : Int) (ht : timeE t = 0) (hn : n ≤ t) (hl : L.length < 1099511627776) :
    Calls Try.prog 46 #[.pointer (some ⟨tb, 0, none⟩), .int .i64 t] w (DueP B w tb q m t o L) := by
  have C1 : ∀ W, Hid (Calls Try.prog 76 #[.int .i64 t] W fun E w' => E = .returned (.int .i64 0) ∧ W = w') := fun W => by
    have := time_any t W
    rw [ht] at this
    exact this
  have C2 := Lib.hid (fire_any (h.setNow t) ht hl)
  have h1 : decide (t < n) = false := decide_eq_false (by omega)
  obtain ⟨c0, c1, c2, c3⟩ := h.cells
  obtain ⟨th, _⟩ := h.thaw
  have KK : Hid (Kept (fun k => q.turns k ∨ k = tb) w (w.setCell ⟨tb, 2, none⟩ (.int .i64 t))) := (Kept.refl _ w).setCell (p := ⟨tb, 2, none⟩) (.inl (.inr rfl)) _
  clear h ht hl hn
  go_enter Try.func46, Try.ntmps46
  go_wp2_with fail
  refine (C1 _).out.mono ?_
  rintro E w1 ⟨rfl, rfl⟩
  go_wp2_with fail
  refine C2.out.mono ?_
  rintro E w2 ⟨D, Lc, o', ra, rc, rfl, hT, hR, hK, hD, hL⟩
  have P : Hid (Ts B w2 tb q m t o' Lc ∧ w2.ownsRow w.heap.size 86 3 (.slice ra D.length rc) D.length (flatF t D) ∧ Kept (fun k => q.turns k ∨ k = tb) w w2 ∧ DueI t o L D Lc o' ∧ ∀ y ∈ Lc, t < y.2) :=
    ⟨hT, by simpa [World.setCell] using hR, KK.out.trans hK, hD, hL⟩
  clear hT hR hK hD hL KK
  go_wp2
  refine bodyPost_ret (v := .tuple #[.slice ra D.length rc, .int .i64 0]) (by simp [results, Try.f46, go_sem]) rfl ?_
  exact ⟨D, Lc, o', ra, rc, rfl, P.out⟩
end Go.Proofs.Ytpglkakbiaihdaa

/-
  The chapter's example of timers: the law's awake.
-/
namespace Go.Proofs.Ytpglkakbiaihdaa
open Go.RowKit Go.Shelf Go.Maps
set_option linter.unusedVariables false
set_option linter.unusedSimpArgs false

/-- Arm, where there is room. -/
theorem tarm_ok {B : Nat} {w : World} {tb : Nat} {q : QB} {m n o : Int} {L : List Ent} (h : Ts B w tb q m n o L) (hB : B ≤ w.heap.size) (id at_ : Int) (hid : 0 ≤ id) (hat : timeE at_ = 0) (hx : Is64 id ∧ Is64 at_) (hr : L.length + 1 < 1099511627776) (hroom : Room m L id) :
    Calls Try.prog 44 #[.pointer (some ⟨tb, 0, none⟩), .int .i64 id, .int .i64 at_] w fun E w' => E = .returned (.int .i64 0) ∧ ∃ q', LeftQ B w w' q q' (armL L (id, at_)) :=
  tarm_core id at_ 0 hid hat _ (tset_ok h hB id at_ hid hat hx hr hroom)

/-- What a row of three timers holds. -/
theorem row3 {w : World} {B : Nat} {ra : Option Addr} {rc : Nat} {xs : List Value} (h : w.ownsRow B 86 3 (.slice ra 3 rc) 3 xs) : ∃ g, ra = some ⟨g, 0, none⟩ ∧ ∀ j u, xs[j]? = some u → w.cell? ⟨g, j, none⟩ = some u := by
  rcases h.2 with ⟨e, _⟩ | ⟨g, cap, cur, e, hb, h3, r⟩
  · cases e
  · cases e
    refine ⟨g, rfl, fun j u hj => ?_⟩
    have := h.cells rfl j u hj
    by_cases hj0 : j = 0
    · subst hj0
      simpa [Addr.add] using this
    · simpa [Addr.add, hj0] using this

def exTm : List Ent := [(2, 4), (1, 10), (3, 10)]
theorem ex_sorted5 : Sorted exTm := by
  unfold Sorted exTm
  simp [ah_eq]
theorem ex_due {D Lc : List Ent} {o' : Int} (h : DueI 12 0 exTm D Lc o') (hl : ∀ y ∈ Lc, 12 < y.2) : D = exTm ∧ o' = 8 := by
  have hnil : Lc = [] := by
    cases Lc with
    | nil => rfl
    | cons y r =>
      exfalso
      have hy := hl y List.mem_cons_self
      have hm : y ∈ exTm := h.perm.mem_iff.2 (List.mem_append_right _ List.mem_cons_self)
      unfold exTm at hm
      simp only [List.mem_cons, List.not_mem_nil, or_false] at hm
      rcases hm with rfl | rfl | rfl <;> simp at hy
  subst hnil
  have hp := h.perm
  rw [List.append_nil] at hp
  have e : D = exTm := sorted_eq hp.symm h.sorted ex_sorted5
  refine ⟨e, ?_⟩
  rw [h.worst, e]
  decide

set_option maxHeartbeats 2000000 in
set_option maxRecDepth 20000 in
theorem awake5 (w : World) : Calls Try.prog 37 #[] w fun E w' => E = .returned (.bool true) ∧ Below w.heap.size w w' := by
  have C1 := Lib.hid (tnew_any w.heap.size w (Nat.le_refl _) 9 (by decide) (by decide))
  go_enter Try.func37, Try.ntmps37
  go_wp2_with fail
  refine C1.out.mono ?_
  rintro E w1 ⟨tb, q1, rfl, t1, g1, _, _⟩
  have T1 : Hid (Ts w.heap.size w1 tb q1 9 0 0 [] ∧ Below w.heap.size w w1) := ⟨t1, g1.below⟩
  clear t1 g1
  go_wp2_with fail
  refine (tarm_ok T1.out.1 T1.out.2.size 3 10 (by decide) (by decide) ⟨⟨by decide, by decide⟩, ⟨by decide, by decide⟩⟩ (by decide) (.inr (by decide))).mono ?_
  rintro E w2 ⟨rfl, q2, l2⟩
  have T2 : Hid (Ts w.heap.size w2 tb q2 9 0 0 [(3, 10)] ∧ Below w.heap.size w w2) := ⟨T1.out.1.arm l2 (by decide) (by decide) ⟨⟨by decide, by decide⟩, ⟨by decide, by decide⟩⟩, T1.out.2.trans (l2.below T1.out.1.queue T1.out.2.size)⟩
  clear l2 T1
  go_wp2_with fail
  refine (tarm_ok T2.out.1 T2.out.2.size 1 10 (by decide) (by decide) ⟨⟨by decide, by decide⟩, ⟨by decide, by decide⟩⟩ (by decide) (.inr (by decide))).mono ?_
  rintro E w3 ⟨rfl, q3, l3⟩
  have T3 : Hid (Ts w.heap.size w3 tb q3 9 0 0 [(1, 10), (3, 10)] ∧ Below w.heap.size w w3) := ⟨T2.out.1.arm l3 (by decide) (by decide) ⟨⟨by decide, by decide⟩, ⟨by decide, by decide⟩⟩, T2.out.2.trans (l3.below T2.out.1.queue T2.out.2.size)⟩
  clear l3 T2
  go_wp2_with fail
  refine (tarm_ok T3.out.1 T3.out.2.size 2 4 (by decide) (by decide) ⟨⟨by decide, by decide⟩, ⟨by decide, by decide⟩⟩ (by decide) (.inr (by decide))).mono ?_
  rintro E w4 ⟨rfl, q4, l4⟩
  have T4 : Hid (Ts w.heap.size w4 tb q4 9 0 0 exTm ∧ Below w.heap.size w w4) := ⟨T3.out.1.arm l4 (by decide) (by decide) ⟨⟨by decide, by decide⟩, ⟨by decide, by decide⟩⟩, T3.out.2.trans (l4.below T3.out.1.queue T3.out.2.size)⟩
  clear l4 T3
  go_wp2_with fail
  refine (due_any T4.out.1 12 (by decide) (by decide) (by decide)).mono ?_
  rintro E w5 ⟨D, Lc, o', ra, rc, rfl, hT, hR, hK, hD, hL⟩
  obtain ⟨rfl, rfl⟩ := ex_due hD hL
  obtain ⟨g, rfl, hc⟩ := row3 hR
  have c0 := hc 0 _ rfl
  have c1 := hc 1 _ rfl
  have c2 := hc 2 _ rfl
  have c3 := hc 3 _ rfl
  have c4 := hc 4 _ rfl
  have c5 := hc 5 _ rfl
  have c6 := hc 6 _ rfl
  have c7 := hc 7 _ rfl
  have c8 := hc 8 _ rfl
  have T5 : Hid (Ts w.heap.size w5 tb q4 9 12 8 Lc ∧ Below w.heap.size w w5) := ⟨hT, T4.out.2.trans (hK.below T4.out.2.size (fun k hk => by
    rcases hk with hk | rfl
    · exact T4.out.1.queue.from k (.inl hk)
    · exact T4.out.1.base))⟩
  rw [show exTm.length = 3 from rfl]
  clear hR hc hD hL hK hT T4 C1
  go_wp2_with fail
  refine (tworst_any T5.out.1).mono ?_
  rintro E w6 ⟨rfl, rfl⟩
  go_wp2
  go_ret
  exact ⟨rfl, T5.out.2⟩
end Go.Proofs.Ytpglkakbiaihdaa
