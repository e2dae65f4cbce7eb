/-
  The laws of queues: a queue, its reference, and all of them in order; what each call answers there.
-/
import Derived.Test.YtcipilggddpnpaaLawR4
import Derived.Test.YtcipilggddpnpaaQg
namespace Go.Proofs.Ytcipilggddpnpaa
open Go.RowKit Go.Shelf Go.Maps
set_option linter.unusedVariables false
set_option linter.unusedSimpArgs false

/-- What there is behind the calls: both, and all of them in order. -/
structure Ord4 (X Y : Nat) (w W : World) (q : QB) (rf : Nat) (S : List Ent) (ra : Option Addr) (len : Nat) : Prop where
  pq : Pq X W q rf S
  all : All4 Y W ra len S
  low : Below X w W
  off : ∀ k, q.own k → k < Y
theorem Ord4.lies {X Y : Nat} {w W W' : World} {q : QB} {rf : Nat} {S : List Ent} {ra : Option Addr} {len : Nat} (h : Ord4 X Y w W q rf S ra len) (b : Below W.heap.size W W') : Ord4 X Y w W' q rf S ra len :=
  ⟨h.pq.lies b, h.all.kept (kept_lies (S := fun _ => False) b) (fun _ _ x => x), h.low.trans (b.mono h.pq.base), h.off⟩

theorem keep1r {W W' : World} {p : Addr} {v : Value} (h : W.cell? p = some v) (hb : Below W.heap.size W W') : W'.cell? p = some v := by
  rcases Nat.lt_or_ge p.block W.heap.size with hlt | hge
  · rw [hb.cell hlt]; exact h
  · simp [World.cell?, Array.getElem?_eq_none hge] at h

theorem Ord4.least {X Y : Nat} {w W : World} {q : QB} {rf : Nat} {S : List Ent} {ra : Option Addr} {len : Nat} (h : Ord4 X Y w W q rf S ra len) (hl : S.length < 1099511627776) (m : Int) :
    Calls Try.prog 24 #[.pointer (some ⟨q.qb, 0, none⟩), .int .i64 m] W fun E w' => ∃ a cap, E = .returned (.slice a (min m.toNat len) cap) ∧ All4 W.heap.size w' a (min m.toNat len) (S.take m.toNat) ∧ min m.toNat len ≤ cap ∧ Below W.heap.size W w' := by
  refine (qleast_any h.pq.queue (List.Perm.refl S) h.pq.sorted h.pq.diff hl m).mono ?_
  rintro E w' ⟨a, cap, rfl, hr, hk⟩
  have hlen := h.all.row
  obtain ⟨x1, x2⟩ := all4_own hr (fun x hx => (h.pq.good x (List.mem_of_mem_take hx)).2)
  rw [← hlen] at x1 x2 ⊢
  exact ⟨a, cap, rfl, x1, x2, hk.below (Nat.le_refl _) (fun _ x => x.elim)⟩
theorem Ord4.len {X Y : Nat} {w W : World} {q : QB} {rf : Nat} {S : List Ent} {ra : Option Addr} {len : Nat} (h : Ord4 X Y w W q rf S ra len) :
    Calls Try.prog 27 #[.pointer (some ⟨q.qb, 0, none⟩)] W fun E w' => E = .returned (.int .i64 len) ∧ W = w' := by
  rw [h.all.row]
  exact qlen_any h.pq.queue
theorem Ord4.first {X Y : Nat} {w W : World} {q : QB} {rf : Nat} {S : List Ent} {ra : Option Addr} {len : Nat} (h : Ord4 X Y w W q rf S ra len) :
    Calls Try.prog 28 #[.pointer (some ⟨q.qb, 0, none⟩)] W fun E w' => E = .returned (.tuple #[.agg #[.int .i64 (S.getD 0 (0, 0)).2, .int .i64 (S.getD 0 (0, 0)).1], .int .i64 (if len = 0 then 14 else 0)]) ∧ Below W.heap.size W w' := by
  have hlen := h.all.row
  by_cases h0 : len = 0
  · have e : S = [] := List.eq_nil_of_length_eq_zero (by omega)
    have hq := h.pq.queue
    rw [if_pos h0]
    subst e
    exact (qfirst_nil hq).mono fun _ _ ⟨e, g⟩ => ⟨e, g.below⟩
  · rw [if_neg h0]
    exact (qfirst_any h.pq.queue _ (first4 h.pq.sorted (by omega))).mono fun _ _ ⟨e, g⟩ => ⟨e, g.below⟩
theorem Ord4.last {X Y : Nat} {w W : World} {q : QB} {rf : Nat} {S : List Ent} {ra : Option Addr} {len : Nat} (h : Ord4 X Y w W q rf S ra len) :
    Calls Try.prog 29 #[.pointer (some ⟨q.qb, 0, none⟩)] W fun E w' => E = .returned (.tuple #[.agg #[.int .i64 (S.getD (len - 1) (0, 0)).2, .int .i64 (S.getD (len - 1) (0, 0)).1], .int .i64 (if len = 0 then 14 else 0)]) ∧ Below W.heap.size W w' := by
  have hlen := h.all.row
  by_cases h0 : len = 0
  · have e : S = [] := List.eq_nil_of_length_eq_zero (by omega)
    have hq := h.pq.queue
    rw [if_pos h0]
    subst e
    exact (qlast_nil hq).mono fun _ _ ⟨e, g⟩ => ⟨e, g.below⟩
  · rw [if_neg h0]
    exact (qlast_any h.pq.queue _ (last4 h.pq.sorted (by omega))).mono fun _ _ ⟨e, g⟩ => ⟨e, g.below⟩
theorem Ord4.get_none {X Y : Nat} {w W : World} {q : QB} {rf : Nat} {S : List Ent} {ra : Option Addr} {len : Nat} (h : Ord4 X Y w W q rf S ra len) (id : Int) (hi : Is64 id) (hn : has S id = false) :
    Calls Try.prog 30 #[.pointer (some ⟨q.qb, 0, none⟩), .int .i64 id] W fun E w' => E = .returned (.tuple #[.agg #[.int .i64 0, .int .i64 0], .int .i64 14]) ∧ Below W.heap.size W w' :=
  (qget_none h.pq.queue id hi (has_no.1 hn)).mono fun _ _ ⟨e, g⟩ => ⟨e, g.below⟩
theorem Ord4.get_there {X Y : Nat} {w W : World} {q : QB} {rf : Nat} {S : List Ent} {ra : Option Addr} {len : Nat} (h : Ord4 X Y w W q rf S ra len) (id t : Int) (hn : (id, t) ∈ S) :
    Calls Try.prog 30 #[.pointer (some ⟨q.qb, 0, none⟩), .int .i64 id] W fun E w' => E = .returned (.tuple #[.agg #[.int .i64 t, .int .i64 id], .int .i64 0]) ∧ Below W.heap.size W w' :=
  (qget_there h.pq.queue (id, t) hn).mono fun _ _ ⟨e, g⟩ => ⟨e, g.below⟩
theorem Ord4.move_none {X Y : Nat} {w W : World} {q : QB} {rf : Nat} {S : List Ent} {ra : Option Addr} {len : Nat} (h : Ord4 X Y w W q rf S ra len) (id t : Int) (hx : Is64 id ∧ Is64 t) (hn : has S id = false) :
    Calls Try.prog 31 #[.pointer (some ⟨q.qb, 0, none⟩), .agg #[.int .i64 t, .int .i64 id]] W fun E w' => E = .returned (.int .i64 14) ∧ Below X W w' := by
  refine (qmove_any h.pq.queue h.pq.diff (id, t) hx).mono ?_
  rintro E w' ⟨rfl, l⟩
  have e : moveR S (id, t) = 14 := if_neg (by have : S.any (fun y => y.1 == id) = false := hn; rw [this]; decide)
  exact ⟨by rw [e], l.below h.pq.queue h.pq.base⟩

/-- What there is of the queue alone, while servers are moved. -/
structure Mov4 (X Y : Nat) (w W : World) (q : QB) (L S : List Ent) (ra : Option Addr) (len : Nat) : Prop where
  queue : Qs X W q L
  all : All4 Y W ra len S
  low : Below X w W
  off : ∀ k, q.own k → k < Y
  diff : Diff L
  base : X ≤ W.heap.size
theorem Mov4.lies {X Y : Nat} {w W W' : World} {q : QB} {L S : List Ent} {ra : Option Addr} {len : Nat} (h : Mov4 X Y w W q L S ra len) (b : Below W.heap.size W W') : Mov4 X Y w W' q L S ra len :=
  ⟨h.queue.kept (kept_lies (S := fun _ => False) b) (fun _ _ x => x), h.all.kept (kept_lies (S := fun _ => False) b) (fun _ _ x => x), h.low.trans (b.mono h.base), h.off, h.diff, Nat.le_trans h.base b.size⟩
theorem moveL_diff {L : List Ent} (h : Diff L) (x : Ent) : Diff (moveL L x) := by
  exact perm_diff (moveS_perm L x) (moveS_diff h x)
theorem Mov4.move {X Y : Nat} {w W : World} {q : QB} {L S : List Ent} {ra : Option Addr} {len : Nat} (h : Mov4 X Y w W q L S ra len) (id t : Int) (hx : Is64 id ∧ Is64 t) :
    Calls Try.prog 31 #[.pointer (some ⟨q.qb, 0, none⟩), .agg #[.int .i64 t, .int .i64 id]] W fun E w' => E = .returned (.int .i64 (moveR L (id, t))) ∧ Mov4 X Y w w' q (moveL L (id, t)) S ra len ∧ Kept q.turns W w' := by
  refine (qmove_any h.queue h.diff (id, t) hx).mono ?_
  rintro E w' ⟨rfl, l⟩
  exact ⟨rfl, ⟨l.queue, h.all.kept l.kept (fun g hg hs => by have := h.off g (.inl hs); omega), h.low.trans (l.below h.queue h.base), h.off, moveL_diff h.diff _, Nat.le_trans h.base l.kept.size⟩, l.kept⟩
/-- There and back. -/
theorem move_back {S : List Ent} (hd : Diff S) {id t : Int} (hm : (id, t) ∈ S) (ht : timeE t = 0) (u : Int) : moveR (moveL S (id, u)) (id, t) = 0 ∧ (moveL (moveL S (id, u)) (id, t)).Perm S := by
  have hb : ((id, t) :: S.filter (fun y => y.1 != id)).Perm S := ((erase_filter hd hm).symm.cons _).trans (List.perm_cons_erase hm).symm
  have hs : S.any (fun y => y.1 == id) = true := List.any_eq_true.2 ⟨_, hm, by simp⟩
  by_cases h : moveR S (id, u) = 0
  · have e : moveL S (id, u) = (id, u) :: S.filter (fun y => y.1 != id) := if_pos h
    rw [e]
    have e0 : moveR ((id, u) :: S.filter (fun y => y.1 != id)) (id, t) = 0 := by
      unfold moveR
      rw [if_pos (by simp)]
      exact ht
    refine ⟨e0, ?_⟩
    unfold moveL
    rw [if_pos e0]
    have : ((id, u) :: S.filter (fun y => y.1 != id)).filter (fun y => y.1 != id) = S.filter (fun y => y.1 != id) := by
      rw [List.filter_cons_of_neg (by simp), List.filter_filter]
      simp
    show ((id, t) :: ((id, u) :: S.filter (fun y => y.1 != id)).filter (fun y => y.1 != id)).Perm S
    rw [this]
    exact hb
  · have e : moveL S (id, u) = S := if_neg h
    rw [e]
    have e0 : moveR S (id, t) = 0 := by
      unfold moveR
      rw [if_pos hs]
      exact ht
    refine ⟨e0, ?_⟩
    unfold moveL
    rw [if_pos e0]
    exact hb
theorem Mov4.least {X Y : Nat} {w W : World} {q : QB} {L S : List Ent} {ra : Option Addr} {len : Nat} (h : Mov4 X Y w W q L S ra len) (hp : S.Perm L) (hs : Sorted S) (hl : S.length < 1099511627776) :
    Calls Try.prog 24 #[.pointer (some ⟨q.qb, 0, none⟩), .int .i64 len] W fun E w' => ∃ a cap, E = .returned (.slice a len cap) ∧ All4 W.heap.size w' a len S ∧ len ≤ cap ∧ Below W.heap.size W w' := by
  have hlen := h.all.row
  refine (qleast_any h.queue hp hs (perm_diff hp.symm h.diff) hl (len : Int)).mono ?_
  rintro E w' ⟨a, cap, rfl, hr, hk⟩
  rw [Int.toNat_natCast, ← hlen, Nat.min_self, hlen, List.take_length, ← hlen] at hr
  obtain ⟨x1, x2⟩ := all4_own hr h.all.good
  refine ⟨a, cap, ?_, x1, x2, hk.below (Nat.le_refl _) (fun _ x => x.elim)⟩
  rw [Int.toNat_natCast, ← hlen, Nat.min_self]
theorem Mov4.len {X Y : Nat} {w W : World} {q : QB} {L S : List Ent} {ra : Option Addr} {len : Nat} (h : Mov4 X Y w W q L S ra len) (hp : S.Perm L) :
    Calls Try.prog 27 #[.pointer (some ⟨q.qb, 0, none⟩)] W fun E w' => E = .returned (.int .i64 len) ∧ W = w' := by
  rw [h.all.row, hp.length_eq]
  exact qlen_any h.queue
/-- Two rows of the same keys. -/
theorem keys4_same {W : World} {Y Z : Nat} {a b : Option Addr} {len : Nat} {S : List Ent} (ha : All4 Y W a len S) (hb : All4 Z W b len S) (hl : len < 1099511627776) (ca cb : Nat) :
    Calls Try.prog 23 #[.slice a len ca, .slice b len cb] W fun E w' => E = .returned (.bool true) ∧ Below W.heap.size W w' := by
  have hr := ha.row
  subst hr
  have := keys_any W a b S S ca cb ha.keys hb.keys hl hl
  rw [decide_eq_true rfl] at this
  exact this.mono fun _ _ ⟨e, g⟩ => ⟨e, g.below⟩
/-- A row's beginning. -/
theorem All4.head {Y : Nat} {W : World} {a : Option Addr} {len : Nat} {S : List Ent} (h : All4 Y W a len S) {k : Nat} (hk : k ≤ len) : All4 Y W a k (S.take k) :=
  ⟨by rw [List.length_take, ← h.row, Nat.min_eq_left hk], fun i hi => by
    obtain ⟨g, e, h1, h2, c1, c2⟩ := h.cell i (by omega)
    have eg : (S.take k).getD i (0, 0) = S.getD i (0, 0) := by rw [List.getD_eq_getElem?_getD, List.getD_eq_getElem?_getD, List.getElem?_take, if_pos hi]
    rw [eg]
    exact ⟨g, e, h1, h2, c1, c2⟩, fun x hx => h.good x (List.mem_of_mem_take hx)⟩
theorem take_head {S : List Ent} {k len : Nat} (h : len = S.length) : (S.take (k + 1)).take (min k len) = S.take k := by
  by_cases hk : k ≤ len
  · have e : min k len = k := Nat.min_eq_left hk
    rw [e, List.take_take, Nat.min_eq_left (Nat.le_succ k)]
  · have e : min k len = len := Nat.min_eq_right (by omega)
    have e2 : min len (k + 1) = len := Nat.min_eq_left (by omega)
    rw [e, List.take_take, e2, h, List.take_length, List.take_of_length_le (by omega)]
end Go.Proofs.Ytcipilggddpnpaa
