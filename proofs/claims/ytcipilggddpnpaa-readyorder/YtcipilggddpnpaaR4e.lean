/-
  The law's does, of queues: Move, Drop and Get.
-/
import Derived.Test.YtcipilggddpnpaaR4d
import Derived.Test.YtcipilggddpnpaaCw
import Derived.Deep.Cut
namespace Go.Proofs.Ytcipilggddpnpaa
open Go.RowKit Go.Shelf Go.Maps
set_option linter.unusedVariables false
set_option linter.unusedSimpArgs false

set_option maxHeartbeats 4000000 in
set_option maxRecDepth 20000 in
theorem does4_move {X : Nat} {W : World} {q : QB} {rf : Nat} {S : List Ent} (h : Pq X W q rf S) (hl : S.length + 20 < 1099511627776) (t id : Int) (hx : Is64 id ∧ Is64 t) (a : Option Addr) (n cap : Nat) :
    Calls Try.prog 19 #[.pointer (some ⟨q.qb, 0, none⟩), .pointer (some ⟨rf, 0, none⟩), .agg #[.int .i64 1, .int .i64 t, .int .i64 id, .slice a n cap]] W fun E w' => E = .returned (.bool true) ∧ Did4 X W w' q rf S.length := by
  obtain ⟨W0, hW0⟩ : ∃ W0, W.alloc (.cells #[.int .i64 1, .int .i64 t, .int .i64 id, .slice a n cap] 51) = W0 := ⟨_, rfl⟩
  have b0 : Below W.heap.size W W0 := by rw [← hW0]; exact (Below.refl _ _).alloc (Nat.le_refl _) _
  have o0 : Op4 W0 W.heap.size 1 t id a n cap := by rw [← hW0]; exact heap_alloc_new _ _
  have P0 := Lib.hid (h.lies b0)
  have HB : Hid (Below W.heap.size W W0 ∧ X ≤ W.heap.size ∧ S.length + 20 < 1099511627776) := ⟨b0, h.base, hl⟩
  have OFF : Hid ((∀ k, q.own k → k < W.heap.size) ∧ rf < W.heap.size) := ⟨fun k hk => h.queue.lt k hk, h.ref.lt⟩
  have HO := Lib.hid o0
  have HW := Lib.hid hW0
  obtain ⟨ob, hob⟩ : ∃ ob, W.heap.size = ob := ⟨_, rfl⟩
  have CA : Hid (∀ W', Below W0.heap.size W0 W' → Calls Try.prog 31 #[.pointer (some ⟨q.qb, 0, none⟩), .agg #[.int .i64 t, .int .i64 id]] W' fun E w' => E = .returned (.int .i64 (moveR S (id, t))) ∧ Hid (Qs X w' q (moveL S (id, t)) ∧ RefIs X w' rf S ∧ Below X W w' ∧ Op4 w' ob 1 t id a n cap) ∧ w'.cell? ⟨ob, 1, none⟩ = some (.int .i64 t) ∧ w'.cell? ⟨ob, 2, none⟩ = some (.int .i64 id)) := fun W' b => by
    have p := P0.out.lies b
    have bX : Below X W W' := (HB.out.1.mono HB.out.2.1).trans (b.mono (Nat.le_trans HB.out.2.1 HB.out.1.size))
    refine (qmove_any p.queue p.diff (id, t) hx).mono ?_
    rintro E w' ⟨rfl, lq⟩
    have oo : Op4 w' ob 1 t id a n cap := by
      rw [← hob]
      exact (HO.out.lies b).kept lq.kept (fun hs => by have := OFF.out.1 _ (.inl hs); omega)
    exact ⟨rfl, ⟨lq.queue, p.ref.besideQ p.queue lq.kept, bX.trans (lq.below p.queue p.base), oo⟩, oo.cells.1.2, oo.cells.2.1⟩
  have CB : Hid (∀ W', Hid (Qs X W' q (moveL S (id, t)) ∧ RefIs X W' rf S ∧ Below X W W' ∧ Op4 W' ob 1 t id a n cap) → Calls Try.prog 46 #[.pointer (some ⟨rf, 0, none⟩), .agg #[.int .i64 t, .int .i64 id]] W' fun E w' => E = .returned (.int .i64 (moveR S (id, t))) ∧ Hid (Did4 X W w' q rf S.length) ∧ w'.cell? ⟨ob, 1, none⟩ = some (.int .i64 t) ∧ w'.cell? ⟨ob, 2, none⟩ = some (.int .i64 id)) := fun W' hh => by
    obtain ⟨ts, rr, bl, oo⟩ := hh.out
    have hB : X ≤ W'.heap.size := Nat.le_trans HB.out.2.1 bl.size
    refine (rmove4_any rr P0.out.diff hB (by have := HB.out.2.2; omega) (id, t)).mono ?_
    rintro E w' ⟨rfl, rn, k⟩
    have oo' : Op4 w' ob 1 t id a n cap := oo.kept k (fun hs => by have := OFF.out.2; omega)
    have pn := moveS_perm S (id, t)
    refine ⟨rfl, ⟨q, moveS S (id, t), ⟨(ts.besideR rr k).perm pn.symm, rn, moveS_sorted P0.out.sorted _, moveS_diff P0.out.diff _, fun x hx' => moveL_facts P0.out.diff P0.out.good hx x (pn.mem_iff.1 hx'), Nat.le_trans hB k.size, P0.out.rb⟩, rfl, ?_, bl.trans (k.below hB (fun j e => by rw [e]; exact P0.out.rb))⟩, oo'.cells.1.2, oo'.cells.2.1⟩
    have := moveS_len S (id, t)
    omega
  obtain ⟨⟨k0, k1⟩, k2, _⟩ := o0.cells
  clear h b0 o0 hW0 hl hx
  rw [hob] at k0 k1 k2
  generalize moveR S (id, t) = r at *
  have rr : (r == r) = true := by simp
  go_enter Try.func19, Try.ntmps19
  go_wp2_with fail
  rw [HW.out]
  try rw [hob]
  go_region_held3 (fun w' => w'.cell? ⟨ob, 1, none⟩ = some (.int .i64 t) ∧ w'.cell? ⟨ob, 2, none⟩ = some (.int .i64 id))
    (first | exact ⟨k1, k2⟩ | exact ⟨s0, s1⟩ | exact ⟨u0, u1⟩)
    (first
      | (go_at_call 46; (with_reducible refine (CB.out _ hq9).mono ?_); rintro E w8 ⟨rfl, hq8, u0, u1⟩)
      | (go_at_call 31; (refine (CA.out _ (grewN W0 1).below).mono ?_); rintro E w9 ⟨rfl, hq9, s0, s1⟩))
  have R8 := hq8
  clear CA CB k0 k1 k2 u0 u1 hq8
  go_wp2
  go_ret
  exact ⟨rfl, R8.out⟩

/-- What both, and the call, are between two steps of does. -/
structure Mid4 (X : Nat) (W W' : World) (q : QB) (rf : Nat) (S : List Ent) (ob : Nat) (k t id : Int) (a : Option Addr) (n cap : Nat) : Prop where
  pq : Pq X W' q rf S
  op : Op4 W' ob k t id a n cap
  low : Below X W W'
theorem Mid4.lies {X : Nat} {W W' W2 : World} {q : QB} {rf : Nat} {S : List Ent} {ob : Nat} {k t id : Int} {a : Option Addr} {n cap : Nat} (h : Mid4 X W W' q rf S ob k t id a n cap) (b : Below W'.heap.size W' W2) : Mid4 X W W2 q rf S ob k t id a n cap :=
  ⟨h.pq.lies b, h.op.lies b, h.low.trans (b.mono h.pq.base)⟩

set_option maxHeartbeats 4000000 in
set_option maxRecDepth 20000 in
/-- No such server: Drop or Get. -/
theorem does4_none {X : Nat} {W : World} {q : QB} {rf : Nat} {S : List Ent} (h : Pq X W q rf S) (hl : S.length + 20 < 1099511627776) (k t id : Int) (hk : k ≠ 0 ∧ k ≠ 1) (hx : Is64 id ∧ Is64 t) (a : Option Addr) (n cap : Nat) (hn : has S id = false) :
    Calls Try.prog 19 #[.pointer (some ⟨q.qb, 0, none⟩), .pointer (some ⟨rf, 0, none⟩), .agg #[.int .i64 k, .int .i64 t, .int .i64 id, .slice a n cap]] W fun E w' => E = .returned (.bool true) ∧ Did4 X W w' q rf S.length := by
  obtain ⟨W0, hW0⟩ : ∃ W0, W.alloc (.cells #[.int .i64 k, .int .i64 t, .int .i64 id, .slice a n cap] 51) = W0 := ⟨_, rfl⟩
  have b0 : Below W.heap.size W W0 := by rw [← hW0]; exact (Below.refl _ _).alloc (Nat.le_refl _) _
  have o0 : Op4 W0 W.heap.size k t id a n cap := by rw [← hW0]; exact heap_alloc_new _ _
  have M0 : Hid (Mid4 X W W0 q rf S W.heap.size k t id a n cap) := ⟨h.lies b0, o0, b0.mono h.base⟩
  have HW := Lib.hid hW0
  have n0 : (k == 0) = false := by simpa using hk.1
  have n1 : (k == 1) = false := by simpa using hk.2
  have hno := has_no.1 hn
  have CR := Lib.hid (refAt_any X W0 rf S (by omega) M0.out.pq.ref id)
  rw [find_not h.diff hn] at CR
  have CG : Hid (∀ W', Below W0.heap.size W0 W' → Calls Try.prog 30 #[.pointer (some ⟨q.qb, 0, none⟩), .int .i64 id] W' fun E w' => E = .returned (.tuple #[.agg #[.int .i64 0, .int .i64 0], .int .i64 14]) ∧ Below W'.heap.size W' w') := fun W' b =>
    (qget_none (M0.out.lies b).pq.queue id hx.1 hno).mono fun _ _ ⟨e, g⟩ => ⟨e, g.below⟩
  have CD : Hid (∀ W', Below W0.heap.size W0 W' → Calls Try.prog 48 #[.pointer (some ⟨q.qb, 0, none⟩), .int .i64 id] W' fun E w' => E = .returned (.tuple #[.agg #[.int .i64 0, .int .i64 0], .int .i64 14]) ∧ Below W'.heap.size W' w') := fun W' b =>
    (qdrop_none (M0.out.lies b).pq.queue id hx.1 hno).mono fun _ _ ⟨e, g⟩ => ⟨e, g.below⟩
  have DONE : Hid (∀ W', Below W0.heap.size W0 W' → Did4 X W W' q rf S.length) := fun W' b => ⟨q, S, (M0.out.lies b).pq, rfl, by omega, (M0.out.lies b).low⟩
  obtain ⟨⟨k0, _⟩, k2, _⟩ := o0.cells
  clear h b0 hW0 hl hx hk hno hn o0
  have t1 : decide ((-1 : Int) < 0) = true := by decide
  by_cases h2 : k = 2
  · have n2 : (k == 2) = true := by simpa using h2
    clear h2
    go_enter Try.func19, Try.ntmps19
    go_wp2_with fail
    rw [HW.out]
    refine CR.out.mono ?_
    rintro E w1 ⟨rfl, hw1⟩
    subst hw1
    go_wp2_with fail
    refine (CG.out _ (Below.refl _ _)).mono ?_
    rintro E w2 ⟨rfl, b2⟩
    have B3 : Hid (Below w1.heap.size w1 (w2.alloc (.cells #[.int .i64 0, .int .i64 0] 37))) := b2.trans ((below_al w2 _).mono b2.size)
    have ltob : W.heap.size < w2.heap.size := Nat.lt_of_lt_of_le M0.out.op.lt b2.size
    obtain ⟨⟨j0, _⟩, j2, _⟩ := (M0.out.op.lies b2).cells
    have L1 := Lib.hid b2.size
    clear b2 k0 k2
    go_wp2_with fail
    refine (CD.out _ B3.out).mono ?_
    rintro E w3 ⟨rfl, b3⟩
    have K3 := Lib.hid ((B2.start w2 0 0).next b3)
    have B4 := Lib.hid (B3.out.trans (b3.mono B3.out.size))
    obtain ⟨x0, x1⟩ := K3.out.cells
    obtain ⟨f0, f1⟩ := K3.out.thaw
    have L2 : Hid (w1.heap.size ≤ w2.heap.size ∧ w2.heap.size < w3.heap.size) := ⟨L1.out, K3.out.lt⟩
    clear b3 j0 j2
    go_wp2
    go_ret
    exact ⟨rfl, DONE.out _ ((B4.out.setCell (p := ⟨w2.heap.size, 0, none⟩) L2.out.1 _).setCell (p := ⟨w2.heap.size, 1, none⟩) L2.out.1 _)⟩
  · have n2 : (k == 2) = false := by simpa using h2
    clear h2
    go_enter Try.func19, Try.ntmps19
    go_wp2_with fail
    rw [HW.out]
    refine CR.out.mono ?_
    rintro E w1 ⟨rfl, hw1⟩
    subst hw1
    go_wp2_with fail
    refine (CG.out _ (Below.refl _ _)).mono ?_
    rintro E w2 ⟨rfl, b2⟩
    have B3 : Hid (Below w1.heap.size w1 (w2.alloc (.cells #[.int .i64 0, .int .i64 0] 37))) := b2.trans ((below_al w2 _).mono b2.size)
    have ltob : W.heap.size < w2.heap.size := Nat.lt_of_lt_of_le M0.out.op.lt b2.size
    obtain ⟨⟨j0, _⟩, j2, _⟩ := (M0.out.op.lies b2).cells
    clear b2 k0 k2
    go_wp2
    go_ret
    exact ⟨rfl, DONE.out _ B3.out⟩

set_option maxHeartbeats 4000000 in
set_option maxRecDepth 20000 in
/-- There is such a server: Get. -/
theorem does4_get {X : Nat} {W : World} {q : QB} {rf : Nat} {S : List Ent} (h : Pq X W q rf S) (hl : S.length + 20 < 1099511627776) (k t id : Int) (hk : k ≠ 0 ∧ k ≠ 1) (hk2 : k ≠ 2) (a : Option Addr) (n cap : Nat) (hn : has S id = true) :
    Calls Try.prog 19 #[.pointer (some ⟨q.qb, 0, none⟩), .pointer (some ⟨rf, 0, none⟩), .agg #[.int .i64 k, .int .i64 t, .int .i64 id, .slice a n cap]] W fun E w' => E = .returned (.bool true) ∧ Did4 X W w' q rf S.length := by
  obtain ⟨W0, hW0⟩ : ∃ W0, W.alloc (.cells #[.int .i64 k, .int .i64 t, .int .i64 id, .slice a n cap] 51) = W0 := ⟨_, rfl⟩
  have b0 : Below W.heap.size W W0 := by rw [← hW0]; exact (Below.refl _ _).alloc (Nat.le_refl _) _
  have o0 : Op4 W0 W.heap.size k t id a n cap := by rw [← hW0]; exact heap_alloc_new _ _
  have M0 : Hid (Mid4 X W W0 q rf S W.heap.size k t id a n cap) := ⟨h.lies b0, o0, b0.mono h.base⟩
  have HW := Lib.hid hW0
  have n0 : (k == 0) = false := by simpa using hk.1
  have n1 : (k == 1) = false := by simpa using hk.2
  have n2 : (k == 2) = false := by simpa using hk2
  have DONE : Hid (∀ W', Below W0.heap.size W0 W' → Did4 X W W' q rf S.length) := fun W' b => ⟨q, S, (M0.out.lies b).pq, rfl, by omega, (M0.out.lies b).low⟩
  rcases find_any h.diff id with ⟨_, i, hi, hr, hf⟩ | ⟨e, _⟩
  · have CR := Lib.hid (refAt_any X W0 rf S (by omega) M0.out.pq.ref id)
    rw [hf] at CR
    obtain ⟨at_, hat⟩ : ∃ at_, (S.getD i (0, 0)).2 = at_ := ⟨_, rfl⟩
    have hmem : (id, at_) ∈ S := by
      have e : S.getD i (0, 0) = (id, at_) := by rw [← hr, ← hat]; rfl
      rw [← e]
      exact mem_getD hi
    have CG : Hid (∀ W', Below W0.heap.size W0 W' → Calls Try.prog 30 #[.pointer (some ⟨q.qb, 0, none⟩), .int .i64 id] W' fun E w' => E = .returned (.tuple #[.agg #[.int .i64 at_, .int .i64 id], .int .i64 0]) ∧ Below W'.heap.size W' w') := fun W' b =>
      (qget_there (M0.out.lies b).pq.queue (id, at_) hmem).mono fun _ _ ⟨e, g⟩ => ⟨e, g.below⟩
    have HA : Hid (∀ W', Below W0.heap.size W0 W' → ∃ a cap g, W'.cell? ⟨rf, 0, none⟩ = some (.slice a S.length cap) ∧ a = some ⟨g, 0, none⟩ ∧ W'.cell? ⟨g, i * 2, none⟩ = some (.int .i64 at_) ∧ W'.cell? ⟨g, i * 2 + 1, none⟩ = some (.int .i64 id)) := fun W' b => by
      obtain ⟨a, cap, e1, e2⟩ := (M0.out.lies b).pq.ref.at
      obtain ⟨g, e3, e4, e5⟩ := e2 i hi
      rw [hr] at e5
      exact ⟨a, cap, g, e1, e3, by rw [← hat]; exact e4, e5⟩
    have t1 : decide ((i : Int) < 0) = false := decide_eq_false (by omega)
    have t2 : (i : Int) < (S.length : Int) := by omega
    have t3 : decide (i < S.length) = true := decide_eq_true hi
    obtain ⟨⟨k0, _⟩, k2, _⟩ := o0.cells
    clear h b0 hW0 hl hk hk2 hn o0 hf hr hat hmem
    generalize S.length = len at *
    go_enter Try.func19, Try.ntmps19
    go_wp2_with fail
    rw [HW.out]
    refine CR.out.mono ?_
    rintro E w1 ⟨rfl, hw1⟩
    subst hw1
    go_wp2_with fail
    refine (CG.out _ (Below.refl _ _)).mono ?_
    rintro E w2 ⟨rfl, b2⟩
    obtain ⟨W3, hW3⟩ : ∃ W3, w2.alloc (.cells #[.int .i64 at_, .int .i64 id] 37) = W3 := ⟨_, rfl⟩
    have HW3 := Lib.hid hW3
    have B3 : Hid (Below w1.heap.size w1 W3) := by rw [← hW3]; exact b2.trans ((below_al w2 _).mono b2.size)
    have K3 : Hid (B2 W3 w2.heap.size at_ id) := by rw [← hW3]; exact B2.start w2 at_ id
    have ltob : W.heap.size < w2.heap.size := Nat.lt_of_lt_of_le M0.out.op.lt b2.size
    obtain ⟨⟨j0, _⟩, j2, _⟩ := (M0.out.lies B3.out).op.cells
    obtain ⟨ra, rc, g, y0, rfl, y1, y2⟩ := HA.out W3 B3.out
    obtain ⟨x0, x1⟩ := K3.out.cells
    clear b2 k0 k2 hW3 ltob
    have lt3 := K3.out.lt
    have lt4 : W.heap.size < W3.heap.size := (M0.out.lies B3.out).op.lt
    go_upto_region 8 with (fail)
    rw [HW3.out]
    go_wp2
    go_ret
    exact ⟨rfl, DONE.out _ (B3.out.trans ((below_al W3 _).mono B3.out.size))⟩
  · rw [e] at hn; cases hn
end Go.Proofs.Ytcipilggddpnpaa
