/-
  ready.Queue: what both heaps' turns leave; First, Last, putOne.
-/
import Derived.Test.YtcipilggddpnpaaQa
import Derived.Test.YtcipilggddpnpaaLw
import Derived.Test.YtcipilggddpnpaaTime
import Derived.BigQuiet
namespace Go.Proofs.Ytcipilggddpnpaa
open Go.RowKit Go.Sort Go.Shelf Go.Maps
set_option linter.unusedVariables false
set_option linter.unusedSimpArgs false

theorem Qs.qApart {B : Nat} {w : World} {q : QB} {L : List Ent} (h : Qs B w q L) : ¬ q.turns q.qb := by
  rintro (hm | hm)
  · obtain ⟨o, ho, ht⟩ := h.up.kinds q.qb hm
    rw [h.obj] at ho
    cases ho
    rcases ht with e | e | e <;> simp [tyOf] at e
  · obtain ⟨o, ho, ht⟩ := h.down.kinds q.qb hm
    rw [h.obj] at ho
    cases ho
    rcases ht with e | e | e <;> simp [tyOf] at e
theorem Qs.fApart {B : Nat} {w : World} {q : QB} {L : List Ent} (h : Qs B w q L) : ¬ q.turns q.fb := by
  rintro (hm | hm)
  · obtain ⟨⟨R, _, _, hp⟩, _, _⟩ := h.up
    exact h.box.apart hp hm
  · obtain ⟨⟨R, _, _, hp⟩, _, _⟩ := h.down
    exact h.box.apart hp hm

theorem LeftQ.grew {B : Nat} {w w' : World} {q : QB} {L : List Ent} (h : Qs B w q L) (g : Grew w w') : LeftQ B w w' q q L := ⟨h.grew g, ⟨rfl, rfl⟩, g.kept _, fun _ x => .inl x⟩

/-- The heap that falls, behind a turn of the one that rises. -/
theorem Qs.downAfter {B : Nat} {w w1 w2 w3 : World} {q : QB} {L : List Ent} {C : List K.Ent} {ru' : Option Nat} (h : Qs B w q L) (g : Grew w w1) (l1 : K.Left K.upV K.ltK B w1 w2 q.hu q.mu q.ru ru' C) (g2 : Grew w2 w3) : K.Hs (K.downV q.fb) K.ltD B w3 q.hd q.md q.rd (L.map kN) :=
  ((h.down.grew g).kept l1.kept (fun b hb hm => h.apart b hm hb) ((h.up.grew g).mineTy)).grew g2

/-- Both heaps turned: the queue is turned. -/
theorem Qs.both {B : Nat} {w w1 w2 w3 w4 : World} {q : QB} {L C : List Ent} {ru' rd' : Option Nat} (h : Qs B w q L) (g : Grew w w1) (l1 : K.Left K.upV K.ltK B w1 w2 q.hu q.mu q.ru ru' (C.map kN)) (g2 : Grew w2 w3) (l2 : K.Left (K.downV q.fb) K.ltD B w3 w4 q.hd q.md q.rd rd' (C.map kN)) :
    LeftQ B w w4 q { q with ru := ru', rd := rd' } C := by
  have hk : Kept q.turns w w4 := (((g.kept _).trans (l1.kept.mono fun k _ hk => .inl hk)).trans (g2.kept _)).trans (l2.kept.mono fun k _ hk => .inr hk)
  have s1 := g.size
  have s2 := l1.kept.size
  have s3 := g2.size
  have hd := h.downAfter g l1 g2
  have upIn : ∀ k, Mine q.hu q.mu ru' k → Mine q.hu q.mu q.ru k ∨ (w1.heap.size ≤ k ∧ k < w2.heap.size) := by
    intro k hm
    have hi := l1.heap.inside k hm
    rcases hm with e | e | e
    · exact .inl (.inl e)
    · exact .inl (.inr (.inl e))
    · rcases l1.moved k e with e | e
      · exact .inl (.inr (.inr e))
      · exact .inr ⟨e, hi⟩
  have downIn : ∀ k, Mine q.hd q.md rd' k → Mine q.hd q.md q.rd k ∨ w3.heap.size ≤ k := by
    intro k hm
    rcases hm with e | e | e
    · exact .inl (.inl e)
    · exact .inl (.inr (.inl e))
    · rcases l2.moved k e with e | e
      · exact .inl (.inr (.inr e))
      · exact .inr e
  refine ⟨⟨(hk.block q.qb (Array.getElem?_eq_some_iff.1 h.obj).1 h.qApart).trans h.obj, ?_, l2.heap, (hk.block q.fb h.box.lt h.fApart).trans h.box, ?_, h.base⟩, ⟨rfl, rfl⟩, hk, ?_⟩
  · refine (l1.heap.grew g2).kept l2.kept (fun b hb hm => ?_) hd.mineTy
    rcases upIn b hb with e | ⟨e, _⟩
    · exact h.apart b e hm
    · have := h.down.inside b hm
      omega
  · intro k hu hd
    rcases upIn k hu with e | ⟨e1, e2⟩
    · rcases downIn k hd with e' | e'
      · exact h.apart k e e'
      · have := h.up.inside k e
        omega
    · rcases downIn k hd with e' | e'
      · have := h.down.inside k e'
        omega
      · omega
  · rintro k (hm | hm)
    · rcases upIn k hm with e | ⟨e, _⟩
      · exact .inl (.inl e)
      · exact .inr (by omega)
    · rcases downIn k hm with e | e
      · exact .inl (.inr e)
      · exact .inr (by omega)

theorem LeftQ.trans {B : Nat} {w w1 w2 : World} {q q1 q2 : QB} {L1 L2 : List Ent} (h1 : LeftQ B w w1 q q1 L1) (h2 : LeftQ B w1 w2 q1 q2 L2) : LeftQ B w w2 q q2 L2 :=
  ⟨h2.queue, ⟨h2.here.1.trans h1.here.1, h2.here.2.trans h1.here.2⟩, h1.kept.andThen h2.kept h1.moved, fun k hk => by
    rcases h2.moved k hk with e | e
    · exact h1.moved k e
    · exact .inr (Nat.le_trans h1.kept.size e)⟩
theorem LeftQ.perm {B : Nat} {w w1 : World} {q q1 : QB} {L1 L2 : List Ent} (h : LeftQ B w w1 q q1 L1) (hp : L1.Perm L2) : LeftQ B w w1 q q1 L2 := ⟨h.queue.perm hp, h.here, h.kept, h.moved⟩
theorem LeftQ.step {B : Nat} {w w1 w2 : World} {q q1 : QB} {L : List Ent} (h : LeftQ B w w1 q q1 L) (g : Grew w1 w2) : LeftQ B w w2 q q1 L := h.trans (LeftQ.grew h.queue g)

/-- What putOne answers. -/
def putR (L : List Ent) (x : Ent) : Int := if x.1 < 0 then 1 else if timeE x.2 ≠ 0 then timeE x.2 else if L.any (fun y => y.1 == x.1) then 15 else 0

set_option maxHeartbeats 1000000 in
theorem putOne_arg {w : World} (p : Value) (a id : Int) (h : id < 0) :
    Calls Try.prog 68 #[p, .agg #[.int .i64 a, .int .i64 id]] w fun E w' => E = .returned (.int .i64 1) ∧ Grew w w' := by
  have h0 : decide (id < 0) = true := decide_eq_true h
  go_enter Try.func68, Try.ntmps68
  go_wp2
  go_ret
  exact ⟨rfl, (Grew.refl w).alloc _⟩
set_option maxHeartbeats 1000000 in
theorem putOne_time {w : World} (p : Value) (a id e : Int) (h : ¬ id < 0) (he : timeE a = e) (hne : e ≠ 0) :
    Calls Try.prog 68 #[p, .agg #[.int .i64 a, .int .i64 id]] w fun E w' => E = .returned (.int .i64 e) ∧ Grew w w' := by
  have h0 : decide (id < 0) = false := decide_eq_false h
  have h1 : (e != 0) = true := by simpa using hne
  have h2 : (e == 0) = false := by simpa using hne
  have C1 : ∀ W, Hid (Calls Try.prog 58 #[.int .i64 a] W fun E w' => E = .returned (.int .i64 e) ∧ W = w') := fun W => by
    have := time_any a W
    rw [he] at this
    exact this
  clear he h hne
  go_enter Try.func68, Try.ntmps68
  go_wp2_with (go_at_call 58; refine (C1 _).out.mono ?_; rintro E w1 ⟨rfl, hw1⟩; subst hw1)
  go_ret
  exact ⟨rfl, (Grew.refl w).alloc _⟩

theorem boxed {w W : World} {a id : Int} (hW : w.alloc (.cells #[.int .i64 a, .int .i64 id] 37) = W) {S : Nat → Prop} {W' : World} (g : Kept S W W') (hS : ¬ S w.heap.size) : W'.cell? ⟨w.heap.size, 0, none⟩ = some (.int .i64 a) ∧ W'.cell? ⟨w.heap.size, 1, none⟩ = some (.int .i64 id) := by
  have hlt : w.heap.size < W.heap.size := by rw [← hW]; simp
  refine ⟨?_, ?_⟩
  · rw [g.cell (by exact hlt) hS, ← hW]; simp [go_sem]
  · rw [g.cell (by exact hlt) hS, ← hW]; simp [go_sem]
theorem mixedP : Try.prog.follows .mixedOrders = true := by kernel_rfl
theorem grewN (w : World) (n : Nat) : Grew w (w.drewN n) := ⟨n, #[], by rw [grow_empty]⟩

set_option maxHeartbeats 2000000 in
set_option maxRecDepth 20000 in
theorem putOne_there {B : Nat} {w : World} {q : QB} {L : List Ent} (h : Qs B w q L) (a : Int) (x : Ent) (hx : x ∈ L) (hid : ¬ x.1 < 0) (ht : timeE a = 0) :
    Calls Try.prog 68 #[.pointer (some ⟨q.qb, 0, none⟩), .agg #[.int .i64 a, .int .i64 x.1]] w fun E w' => E = .returned (.int .i64 15) ∧ Grew w w' := by
  have h0 : decide (x.1 < 0) = false := decide_eq_false hid
  have C1 : ∀ W, Hid (Calls Try.prog 58 #[.int .i64 a] W fun E w' => E = .returned (.int .i64 0) ∧ W = w') := fun W => by
    have := time_any a W
    rw [ht] at this
    exact this
  obtain ⟨W, hW⟩ : ∃ W, w.alloc (.cells #[.int .i64 a, .int .i64 x.1] 37) = W := ⟨_, rfl⟩
  have hG : Grew w W := by rw [← hW]; exact (Grew.refl w).alloc _
  have c0 := (h.grew hG).c0
  obtain ⟨k0, k1⟩ := boxed hW (Kept.refl (fun _ => False) W) id
  have C2 : ∀ n, Hid (Calls Try.prog 78 #[.pointer (some ⟨q.hu, 0, none⟩), .int .i64 x.1, .agg #[.int .i64 a, .int .i64 x.1]] (W.drewN n) fun e w' => e = .returned (.int .i64 15) ∧ Grew (W.drewN n) w') := fun n =>
    K.hs_put_there (h.grew (hG.trans (grewN W n))).up (kN x) (List.mem_map_of_mem hx) (a, x.1)
  have HG := Lib.hid hG
  generalize x.1 = id at *
  clear h hG hx hid ht
  go_enter Try.func68, Try.ntmps68
  go_wp2_with (go_at_call 58; (try rw [hW]); refine (C1 _).out.mono ?_; rintro E w1 ⟨rfl, hw1⟩; subst hw1)
  refine plain_last2 7 _ _ (Drawing W) rfl rfl rfl (by kernel_rfl) mixedP (drawing_drew W) ?_
  simp only [List.take_succ_cons, List.take_zero]
  repeat (go_big_quiet_step (fail))
  refine wpQuiet_nil ?_
  rintro _ ⟨nq, rfl⟩
  gi_wp2_with fail
  refine ⟨trivial, (callsIn_wide.2 (C2 nq).out).mono ?_⟩
  rintro e W3 ⟨rfl, g3⟩
  gi_wp2
  go_wp2
  go_ret
  exact ⟨rfl, (HG.out.trans (grewN W nq)).trans g3⟩

set_option maxHeartbeats 2000000 in
set_option maxRecDepth 20000 in
theorem putOne_ok {B : Nat} {w : World} {q : QB} {L : List Ent} (h : Qs B w q L) (hB : B ≤ w.heap.size) (a id : Int) (hid : ¬ id < 0) (hi : Is64 id) (ha : Is64 a) (ht : timeE a = 0) (hn : ∀ x ∈ L, x.1 ≠ id) (hr : L.length < 1099511627776) :
    Calls Try.prog 68 #[.pointer (some ⟨q.qb, 0, none⟩), .agg #[.int .i64 a, .int .i64 id]] w fun E w' => E = .returned (.int .i64 0) ∧ ∃ q', LeftQ B w w' q q' ((id, a) :: L) := by
  have h0 : decide (id < 0) = false := decide_eq_false hid
  have C1 : ∀ W, Hid (Calls Try.prog 58 #[.int .i64 a] W fun E w' => E = .returned (.int .i64 0) ∧ W = w') := fun W => by
    have := time_any a W
    rw [ht] at this
    exact this
  obtain ⟨W, hW⟩ : ∃ W, w.alloc (.cells #[.int .i64 a, .int .i64 id] 37) = W := ⟨_, rfl⟩
  have hG : Grew w W := by rw [← hW]; exact (Grew.refl w).alloc _
  have c0 := (h.grew hG).c0
  obtain ⟨k0, k1⟩ := boxed hW (Kept.refl (fun _ => False) W) (fun x => x)
  have hn' : ∀ x ∈ L.map kN, x.1 ≠ id := fun x hx => by
    obtain ⟨y, hy, rfl⟩ := List.mem_map.1 hx
    exact hn y hy
  have hsz : ∀ n, B ≤ (W.drewN n).heap.size := fun n => Nat.le_trans hB (hG.trans (grewN W n)).size
  have C2 : ∀ n, Hid (Calls Try.prog 78 #[.pointer (some ⟨q.hu, 0, none⟩), .int .i64 id, .agg #[.int .i64 a, .int .i64 id]] (W.drewN n) fun e w' => e = .returned (.int .i64 0) ∧ ∃ ru', K.Left K.upV K.ltK B (W.drewN n) w' q.hu q.mu q.ru ru' (((id, a) :: L).map kN)) := fun n =>
    K.hs_put (h.grew (hG.trans (grewN W n))).up (hsz n) id (a, id) ⟨by omega, hi⟩ ⟨ha, hi⟩ hn' (by rw [List.length_map]; exact hr)
  have C3 : Hid (∀ n w2 ru', K.Left K.upV K.ltK B (W.drewN n) w2 q.hu q.mu q.ru ru' (((id, a) :: L).map kN) → ∀ m, Calls Try.prog 78 #[.pointer (some ⟨q.hd, 0, none⟩), .int .i64 id, .agg #[.int .i64 a, .int .i64 id]] (w2.drewN m) fun e w' => e = .returned (.int .i64 0) ∧ ∃ q', LeftQ B w w' q q' ((id, a) :: L)) := fun n w2 ru' l1 m => by
    refine (K.hs_put (h.downAfter (hG.trans (grewN W n)) l1 (grewN w2 m)) (Nat.le_trans (hsz n) (Nat.le_trans l1.kept.size (grewN w2 m).size)) id (a, id) ⟨by omega, hi⟩ ⟨ha, hi⟩ hn' (by rw [List.length_map]; exact hr)).mono ?_
    rintro e w4 ⟨rfl, rd', l2⟩
    exact ⟨rfl, _, h.both (C := (id, a) :: L) (hG.trans (grewN W n)) l1 (grewN w2 m) l2⟩
  have C4 : Hid (∀ n w2 ru', K.Left K.upV K.ltK B (W.drewN n) w2 q.hu q.mu q.ru ru' (((id, a) :: L).map kN) → w2.cell? ⟨q.qb, 1, none⟩ = some (.pointer (some ⟨q.hd, 0, none⟩)) ∧ w2.cell? ⟨w.heap.size, 0, none⟩ = some (.int .i64 a) ∧ w2.cell? ⟨w.heap.size, 1, none⟩ = some (.int .i64 id)) := fun n w2 ru' l1 => by
    have hk : Kept (Mine q.hu q.mu q.ru) W w2 := ((grewN W n).kept _).trans l1.kept
    refine ⟨?_, boxed hW hk (fun hm => ?_)⟩
    · rw [hk.cell (by exact Nat.lt_of_lt_of_le (h.lt q.qb (.inr (.inl rfl))) hG.size) (fun hm => h.qApart (.inl hm))]
      exact (h.grew hG).c1
    · exact Nat.lt_irrefl _ (h.up.inside _ hm)
  have HG := Lib.hid hG
  clear h hG hn hn' hid ht hsz hi ha hr hB
  go_enter Try.func68, Try.ntmps68
  go_wp2_with (go_at_call 58; (try rw [hW]); refine (C1 _).out.mono ?_; rintro E w1 ⟨rfl, hw1⟩; subst hw1)
  refine plain_last2 7 _ _ (Drawing W) rfl rfl rfl (by kernel_rfl) mixedP (drawing_drew W) ?_
  simp only [List.take_succ_cons, List.take_zero]
  repeat (go_big_quiet_step (fail))
  refine wpQuiet_nil ?_
  rintro _ ⟨nq, rfl⟩
  gi_wp2_with fail
  refine ⟨trivial, (callsIn_wide.2 (C2 nq).out).mono ?_⟩
  rintro e W3 ⟨rfl, ru', l1⟩
  obtain ⟨d1, d2, d3⟩ := C4.out nq W3 ru' l1
  have C5 := Lib.hid (C3.out nq W3 ru' l1)
  clear l1 c0 k0 k1
  gi_wp2
  go_wp2_with fail
  refine plain_last2 7 _ _ (Drawing W3) rfl rfl rfl (by kernel_rfl) mixedP (drawing_drew W3) ?_
  simp only [List.take_succ_cons, List.take_zero]
  repeat (go_big_quiet_step (fail))
  refine wpQuiet_nil ?_
  rintro _ ⟨mq, rfl⟩
  gi_wp2_with fail
  refine ⟨trivial, (callsIn_wide.2 (C5.out mq)).mono ?_⟩
  rintro e W4 ⟨rfl, q', l2⟩
  gi_wp2
  go_wp2
  go_ret
  exact ⟨rfl, q', l2⟩

theorem putOne_any {B : Nat} {w : World} {q : QB} {L : List Ent} (h : Qs B w q L) (hB : B ≤ w.heap.size) (x : Ent) (hx : Is64 x.1 ∧ Is64 x.2) (hr : L.length < 1099511627776) :
    Calls Try.prog 68 #[.pointer (some ⟨q.qb, 0, none⟩), .agg #[.int .i64 x.2, .int .i64 x.1]] w fun E w' => E = .returned (.int .i64 (putR L x)) ∧ ∃ q', LeftQ B w w' q q' (if putR L x = 0 then x :: L else L) := by
  by_cases h1 : x.1 < 0
  · have e : putR L x = 1 := if_pos h1
    rw [e]
    refine (putOne_arg _ x.2 x.1 h1).mono ?_
    rintro E w' ⟨rfl, g⟩
    exact ⟨rfl, q, LeftQ.grew h g⟩
  by_cases h2 : timeE x.2 ≠ 0
  · have e : putR L x = timeE x.2 := by unfold putR; rw [if_neg h1, if_pos h2]
    rw [e, if_neg h2]
    refine (putOne_time _ x.2 x.1 _ h1 rfl h2).mono ?_
    rintro E w' ⟨rfl, g⟩
    exact ⟨rfl, q, LeftQ.grew h g⟩
  have h2' : timeE x.2 = 0 := Decidable.not_not.1 h2
  by_cases h3 : L.any (fun y => y.1 == x.1) = true
  · have e : putR L x = 15 := by unfold putR; rw [if_neg h1, if_neg h2, if_pos h3]
    rw [e]
    obtain ⟨y, hy, e⟩ := List.any_eq_true.1 h3
    have e : y.1 = x.1 := by simpa using e
    rw [← e]
    refine (putOne_there h x.2 y hy (by rw [e]; exact h1) h2').mono ?_
    rintro E w' ⟨rfl, g⟩
    exact ⟨rfl, q, LeftQ.grew h g⟩
  · have e : putR L x = 0 := by unfold putR; rw [if_neg h1, if_neg h2, if_neg h3]
    rw [e, if_pos rfl]
    exact putOne_ok h hB x.2 x.1 h1 hx.1 hx.2 h2' (fun y hy e => h3 (List.any_eq_true.2 ⟨y, hy, by simpa using e⟩)) hr
end Go.Proofs.Ytcipilggddpnpaa
