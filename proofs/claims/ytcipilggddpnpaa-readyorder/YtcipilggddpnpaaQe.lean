/-
  ready.Queue: Move.
-/
import Derived.Test.YtcipilggddpnpaaQd
namespace Go.Proofs.Ytcipilggddpnpaa
open Go.RowKit Go.Sort Go.Shelf Go.Maps
set_option linter.unusedVariables false
set_option linter.unusedSimpArgs false

set_option maxHeartbeats 2000000 in
set_option maxRecDepth 20000 in
theorem move_none {B : Nat} {w : World} {q : QB} {L : List Ent} (h : Qs B w q L) (a id : Int) (hid : Is64 id) (hn : ∀ x ∈ L, x.1 ≠ id) :
    Calls Try.prog 31 #[.pointer (some ⟨q.qb, 0, none⟩), .agg #[.int .i64 a, .int .i64 id]] w fun E w' => E = .returned (.int .i64 14) ∧ Grew w w' := by
  obtain ⟨W, hW⟩ : ∃ W, w.alloc (.cells #[.int .i64 a, .int .i64 id] 37) = W := ⟨_, rfl⟩
  have hG : Grew w W := by rw [← hW]; exact (Grew.refl w).alloc _
  have C1 := Lib.hid (qget_none (h.grew hG) id hid hn)
  obtain ⟨k0, k1⟩ := boxed hW (Kept.refl (fun _ => False) W) (fun x => x)
  have HG := Lib.hid hG
  clear h hG hn hid
  go_enter Try.func31, Try.ntmps31
  go_wp2_with (go_at_call 30; (try rw [hW]); (with_reducible refine C1.out.mono ?_); rintro E w2 ⟨rfl, g2⟩; have G2 := Lib.hid g2; clear g2)
  go_ret
  exact ⟨rfl, (HG.out.trans G2.out).alloc _⟩

set_option maxHeartbeats 2000000 in
set_option maxRecDepth 20000 in
theorem move_time {B : Nat} {w : World} {q : QB} {L : List Ent} (h : Qs B w q L) (a : Int) (m : Ent) (hm : m ∈ L) (e : Int) (he : timeE a = e) (hne : e ≠ 0) :
    Calls Try.prog 31 #[.pointer (some ⟨q.qb, 0, none⟩), .agg #[.int .i64 a, .int .i64 m.1]] w fun E w' => E = .returned (.int .i64 e) ∧ Grew w w' := by
  obtain ⟨W, hW⟩ : ∃ W, w.alloc (.cells #[.int .i64 a, .int .i64 m.1] 37) = W := ⟨_, rfl⟩
  have hG : Grew w W := by rw [← hW]; exact (Grew.refl w).alloc _
  have C1 := Lib.hid (qget_there (h.grew hG) m hm)
  have h1 : (e != 0) = true := by simpa using hne
  have h2 : (e == 0) = false := by simpa using hne
  have C2 : ∀ W, Hid (Calls Try.prog 58 #[.int .i64 a] W fun E w' => E = .returned (.int .i64 e) ∧ W = w') := fun W => by
    have := time_any a W
    rw [he] at this
    exact this
  have hlt : w.heap.size < W.heap.size := by rw [← hW]; simp
  have BX : Hid (∀ W', Grew W W' → w.heap.size < W'.heap.size ∧ W'.cell? ⟨w.heap.size, 0, none⟩ = some (.int .i64 a) ∧ W'.cell? ⟨w.heap.size, 1, none⟩ = some (.int .i64 m.1)) := fun W' g => ⟨Nat.lt_of_lt_of_le hlt g.size, boxed hW (g.kept (fun _ => False)) (fun x => x)⟩
  obtain ⟨k0, k1⟩ := boxed hW (Kept.refl (fun _ => False) W) (fun x => x)
  have HG := Lib.hid hG
  generalize m.1 = id at *
  clear h hG hm he hne hlt
  go_enter Try.func31, Try.ntmps31
  go_wp2_with (first | (go_at_call 30; (try rw [hW]); (with_reducible refine C1.out.mono ?_); rintro E w2 ⟨rfl, g2⟩; obtain ⟨x0, x1, x2⟩ := BX.out w2 g2; have x5 := Nat.ne_of_lt x0; have x6 := Nat.ne_of_gt x0; have G2 := Lib.hid g2; clear g2) | (go_at_call 58; refine (C2 _).out.mono ?_; rintro E w3 ⟨rfl, hw3⟩; subst hw3))
  go_ret
  exact ⟨rfl, (HG.out.trans G2.out).alloc _⟩

theorem change_kN {L : List Ent} {m : Ent} (hm : m ∈ L) (a : Int) : (((kN m).1, (a, m.1)) :: (L.map kN).erase (kN m)).Perm ((((m.1, a) : Ent) :: L.erase m).map kN) := (erase_kN hm).cons _

set_option maxHeartbeats 2000000 in
set_option maxRecDepth 20000 in
theorem move_ok {B : Nat} {w : World} {q : QB} {L : List Ent} (h : Qs B w q L) (a : Int) (m : Ent) (hm : m ∈ L) (hi : Is64 m.1) (ha : Is64 a) (ht : timeE a = 0) :
    Calls Try.prog 31 #[.pointer (some ⟨q.qb, 0, none⟩), .agg #[.int .i64 a, .int .i64 m.1]] w fun E w' => E = .returned (.int .i64 0) ∧ LeftQ B w w' q q ((m.1, a) :: L.erase m) := by
  obtain ⟨W, hW⟩ : ∃ W, w.alloc (.cells #[.int .i64 a, .int .i64 m.1] 37) = W := ⟨_, rfl⟩
  have hG : Grew w W := by rw [← hW]; exact (Grew.refl w).alloc _
  have C1 := Lib.hid (qget_there (h.grew hG) m hm)
  have CT : ∀ W, Hid (Calls Try.prog 58 #[.int .i64 a] W fun E w' => E = .returned (.int .i64 0) ∧ W = w') := fun W => by
    have := time_any a W
    rw [ht] at this
    exact this
  have hlt : w.heap.size < W.heap.size := by rw [← hW]; simp
  have BX : Hid (∀ W', Grew W W' → w.heap.size < W'.heap.size ∧ W'.cell? ⟨w.heap.size, 0, none⟩ = some (.int .i64 a) ∧ W'.cell? ⟨w.heap.size, 1, none⟩ = some (.int .i64 m.1) ∧ W'.cell? ⟨q.qb, 0, none⟩ = some (.pointer (some ⟨q.hu, 0, none⟩))) := fun W' g => by
    obtain ⟨x1, x2⟩ := boxed hW (g.kept (fun _ => False)) (fun x => x)
    exact ⟨Nat.lt_of_lt_of_le hlt g.size, x1, x2, (h.grew (hG.trans g)).c0⟩
  have C2 : Hid (∀ W', Grew W W' → Calls Try.prog 59 #[.pointer (some ⟨q.hu, 0, none⟩), .int .i64 m.1, .agg #[.int .i64 a, .int .i64 m.1]] W' fun e w' => e = .returned (.int .i64 0) ∧ K.Left K.upV K.ltK B W' w' q.hu q.mu q.ru q.ru (((m.1, a) :: L.erase m).map kN)) := fun W' g => by
    refine (K.hs_change (h.grew (hG.trans g)).up (kN m) (List.mem_map_of_mem hm) (a, m.1) ⟨ha, hi⟩).mono ?_
    rintro e w' ⟨rfl, l⟩
    exact ⟨rfl, l.perm (change_kN hm a)⟩
  have C3 : Hid (∀ W' w2, Grew W W' → K.Left K.upV K.ltK B W' w2 q.hu q.mu q.ru q.ru (((m.1, a) :: L.erase m).map kN) → ∀ n, Calls Try.prog 59 #[.pointer (some ⟨q.hd, 0, none⟩), .int .i64 m.1, .agg #[.int .i64 a, .int .i64 m.1]] (w2.drewN n) fun e w' => e = .returned (.int .i64 0) ∧ LeftQ B w w' q q ((m.1, a) :: L.erase m)) := fun W' w2 g l1 n => by
    refine (K.hs_change (h.downAfter (hG.trans g) l1 (grewN w2 n)) (kN m) (List.mem_map_of_mem hm) (a, m.1) ⟨ha, hi⟩).mono ?_
    rintro e w' ⟨rfl, l⟩
    exact ⟨rfl, h.both (hG.trans g) l1 (grewN w2 n) (l.perm (change_kN hm a))⟩
  have C4 : Hid (∀ W' w2, Grew W W' → K.Left K.upV K.ltK B W' w2 q.hu q.mu q.ru q.ru (((m.1, a) :: L.erase m).map kN) → w2.cell? ⟨q.qb, 1, none⟩ = some (.pointer (some ⟨q.hd, 0, none⟩)) ∧ w2.cell? ⟨w.heap.size, 0, none⟩ = some (.int .i64 a) ∧ w2.cell? ⟨w.heap.size, 1, none⟩ = some (.int .i64 m.1)) := fun W' w2 g l1 => by
    have hk : Kept (Mine q.hu q.mu q.ru) W w2 := (g.kept _).trans l1.kept
    refine ⟨?_, boxed hW hk (fun hm => ?_)⟩
    · rw [hk.cell (by exact Nat.lt_of_lt_of_le (h.lt q.qb (.inr (.inl rfl))) hG.size) (fun hm => h.qApart (.inl hm))]
      exact (h.grew hG).c1
    · exact Nat.lt_irrefl _ (h.up.inside _ hm)
  obtain ⟨k0, k1⟩ := boxed hW (Kept.refl (fun _ => False) W) (fun x => x)
  have HG := Lib.hid hG
  generalize (m.1, a) :: L.erase m = L2 at *
  generalize m.1 = id at *
  generalize m.2 = t0 at *
  clear h hG hm hi ha ht hlt
  go_enter Try.func31, Try.ntmps31
  go_wp2_with (first | (go_at_call 30; (try rw [hW]); (with_reducible refine C1.out.mono ?_); rintro E w2 ⟨rfl, g2⟩; obtain ⟨x0, x1, x2, _⟩ := BX.out w2 g2; have x5 := Nat.ne_of_lt x0; have x6 := Nat.ne_of_gt x0; have G2 := Lib.hid g2; clear g2) | (go_at_call 58; refine (CT _).out.mono ?_; rintro E w3 ⟨rfl, hw3⟩; subst hw3))
  obtain ⟨W2, hW2⟩ : ∃ W2, w2.alloc (.cells #[.int .i64 t0, .int .i64 id] 37) = W2 := ⟨_, rfl⟩
  rw [hW2]
  have G3 : Hid (Grew W W2) := by rw [← hW2]; exact G2.out.alloc _
  obtain ⟨_, y1, y2, y3⟩ := BX.out W2 G3.out
  clear x0 x1 x2 x5 x6 hW2 G2 C1
  refine plain_last 7 _ (Drawing W2) rfl rfl (by kernel_rfl) mixedP (drawing_drew W2) ?_
  simp only [List.take_succ_cons, List.take_zero]
  repeat (go_big_quiet_step (fail))
  refine wpQuiet_nil ?_
  rintro _ ⟨nq, rfl⟩
  gi_wp2_with fail
  refine ⟨trivial, (callsIn_wide.2 (C2.out _ (G3.out.trans (grewN W2 nq)))).mono ?_⟩
  rintro e W3 ⟨rfl, l1⟩
  obtain ⟨d1, d2, d3⟩ := C4.out _ W3 (G3.out.trans (grewN W2 nq)) l1
  have C5 := Lib.hid (C3.out _ W3 (G3.out.trans (grewN W2 nq)) l1)
  clear l1 y1 y2 y3
  gi_wp2
  go_wp2_with fail
  refine plain_last2 7 _ _ (Drawing W3) rfl rfl rfl (by kernel_rfl) mixedP (drawing_drew W3) ?_
  simp only [List.take_succ_cons, List.take_zero]
  repeat (go_big_quiet_step (fail))
  refine wpQuiet_nil ?_
  rintro _ ⟨mq, rfl⟩
  gi_wp2_with fail
  refine ⟨trivial, (callsIn_wide.2 (C5.out mq)).mono ?_⟩
  rintro e W4 ⟨rfl, l2⟩
  gi_wp2
  go_wp2
  go_ret
  exact ⟨rfl, l2⟩
end Go.Proofs.Ytcipilggddpnpaa
