/-
  ready.Queue: First, Last, Drop, Move.
-/
import Derived.Test.YtcipilggddpnpaaQb
namespace Go.Proofs.Ytcipilggddpnpaa
open Go.RowKit Go.Sort Go.Shelf Go.Maps
set_option linter.unusedVariables false
set_option linter.unusedSimpArgs false

set_option maxHeartbeats 1000000 in
set_option maxRecDepth 20000 in
theorem first_core {B : Nat} {w : World} {q : QB} {L : List Ent} (h : Qs B w q L) (i a b e : Int)
    (hc : ∀ W, Grew w W → Calls Try.prog 55 #[.pointer (some ⟨q.hu, 0, none⟩)] W fun E w' => E = .returned (.tuple #[.int .i64 i, .agg #[.int .i64 a, .int .i64 b], .int .i64 e]) ∧ Grew W w') :
    Calls Try.prog 28 #[.pointer (some ⟨q.qb, 0, none⟩)] w fun E w' => E = .returned (.tuple #[.agg #[.int .i64 a, .int .i64 b], .int .i64 e]) ∧ Grew w w' := by
  obtain ⟨W, hW⟩ : ∃ W, w.alloc (.cells #[.int .i64 0, .int .i64 0] 37) = W := ⟨_, rfl⟩
  have hG : Grew w W := by rw [← hW]; exact (Grew.refl w).alloc _
  have C1 := Lib.hid (fromFirst_any (h.grew hG))
  have C2 := Lib.hid (hc W hG)
  have hlt : w.heap.size < W.heap.size := by rw [← hW]; simp
  have RK : Hid (∀ W', Grew W W' → w.heap.size < W'.heap.size ∧ W'.cell? ⟨w.heap.size, 0, none⟩ = some (.int .i64 0) ∧ W'.cell? ⟨w.heap.size, 1, none⟩ = some (.int .i64 0) ∧ W'.frozen? ⟨w.heap.size, 0, none⟩ = false ∧ W'.frozen? ⟨w.heap.size, 1, none⟩ = false) := fun W' g => ⟨Nat.lt_of_lt_of_le hlt g.size, res_key hW g⟩
  have HG := Lib.hid hG
  clear h hG hc hlt
  go_enter Try.func28, Try.ntmps28
  go_wp2_with (first | (go_at_call 50; (try rw [hW]); (with_reducible refine C1.out.mono ?_); rintro E w1 ⟨rfl, hw1⟩; subst hw1) | (go_at_call 55; (with_reducible refine C2.out.mono ?_); rintro E w2 ⟨rfl, g2⟩; obtain ⟨x0, x1, x2, x3, x4⟩ := RK.out w2 g2; have x5 := Nat.ne_of_lt x0; have x6 := Nat.ne_of_gt x0; have G2 := Lib.hid g2; clear g2))
  refine bodyPost_ret (v := .tuple #[.agg #[.int .i64 a, .int .i64 b], .int .i64 e]) (by simp [results, Try.f28, go_sem, x0, x1, x2, x5, x6]) rfl ⟨rfl, ?_⟩
  exact (((HG.out.trans G2.out).setCell (Nat.le_refl _) _).setCell (Nat.le_refl _) _).alloc _
set_option maxHeartbeats 1000000 in
set_option maxRecDepth 20000 in
theorem last_core {B : Nat} {w : World} {q : QB} {L : List Ent} (h : Qs B w q L) (i a b e : Int)
    (hc : ∀ W, Grew w W → Calls Try.prog 55 #[.pointer (some ⟨q.hd, 0, none⟩)] W fun E w' => E = .returned (.tuple #[.int .i64 i, .agg #[.int .i64 a, .int .i64 b], .int .i64 e]) ∧ Grew W w') :
    Calls Try.prog 29 #[.pointer (some ⟨q.qb, 0, none⟩)] w fun E w' => E = .returned (.tuple #[.agg #[.int .i64 a, .int .i64 b], .int .i64 e]) ∧ Grew w w' := by
  obtain ⟨W, hW⟩ : ∃ W, w.alloc (.cells #[.int .i64 0, .int .i64 0] 37) = W := ⟨_, rfl⟩
  have hG : Grew w W := by rw [← hW]; exact (Grew.refl w).alloc _
  have C1 := Lib.hid (fromLast_any (h.grew hG))
  have C2 := Lib.hid (hc W hG)
  have hlt : w.heap.size < W.heap.size := by rw [← hW]; simp
  have RK : Hid (∀ W', Grew W W' → w.heap.size < W'.heap.size ∧ W'.cell? ⟨w.heap.size, 0, none⟩ = some (.int .i64 0) ∧ W'.cell? ⟨w.heap.size, 1, none⟩ = some (.int .i64 0) ∧ W'.frozen? ⟨w.heap.size, 0, none⟩ = false ∧ W'.frozen? ⟨w.heap.size, 1, none⟩ = false) := fun W' g => ⟨Nat.lt_of_lt_of_le hlt g.size, res_key hW g⟩
  have HG := Lib.hid hG
  clear h hG hc hlt
  go_enter Try.func29, Try.ntmps29
  go_wp2_with (first | (go_at_call 56; (try rw [hW]); (with_reducible refine C1.out.mono ?_); rintro E w1 ⟨rfl, hw1⟩; subst hw1) | (go_at_call 55; (with_reducible refine C2.out.mono ?_); rintro E w2 ⟨rfl, g2⟩; obtain ⟨x0, x1, x2, x3, x4⟩ := RK.out w2 g2; have x5 := Nat.ne_of_lt x0; have x6 := Nat.ne_of_gt x0; have G2 := Lib.hid g2; clear g2))
  refine bodyPost_ret (v := .tuple #[.agg #[.int .i64 a, .int .i64 b], .int .i64 e]) (by simp [results, Try.f29, go_sem, x0, x1, x2, x5, x6]) rfl ⟨rfl, ?_⟩
  exact (((HG.out.trans G2.out).setCell (Nat.le_refl _) _).setCell (Nat.le_refl _) _).alloc _

/-- x is ahead of all others of L. -/
def IsFirst (L : List Ent) (x : Ent) : Prop := x ∈ L ∧ ∀ y ∈ L, y ≠ x → ah x y = true
/-- .. behind. -/
def IsLast (L : List Ent) (x : Ent) : Prop := x ∈ L ∧ ∀ y ∈ L, y ≠ x → ah y x = true

theorem qfirst_nil {B : Nat} {w : World} {q : QB} (h : Qs B w q []) :
    Calls Try.prog 28 #[.pointer (some ⟨q.qb, 0, none⟩)] w fun E w' => E = .returned (.tuple #[.agg #[.int .i64 0, .int .i64 0], .int .i64 14]) ∧ Grew w w' :=
  first_core h 0 0 0 14 (fun W g => K.hs_peek_nil (h.grew g).up)
theorem qlast_nil {B : Nat} {w : World} {q : QB} (h : Qs B w q []) :
    Calls Try.prog 29 #[.pointer (some ⟨q.qb, 0, none⟩)] w fun E w' => E = .returned (.tuple #[.agg #[.int .i64 0, .int .i64 0], .int .i64 14]) ∧ Grew w w' :=
  last_core h 0 0 0 14 (fun W g => K.hs_peek_nil (h.grew g).down)
theorem qfirst_any {B : Nat} {w : World} {q : QB} {L : List Ent} (h : Qs B w q L) (m : Ent) (hm : IsFirst L m) :
    Calls Try.prog 28 #[.pointer (some ⟨q.qb, 0, none⟩)] w fun E w' => E = .returned (.tuple #[.agg #[.int .i64 m.2, .int .i64 m.1], .int .i64 0]) ∧ Grew w w' :=
  first_core h m.1 m.2 m.1 0 (fun W g => K.hs_peek (h.grew g).up (kN m) (List.mem_map_of_mem hm.1) (fun y hy hne => by
    obtain ⟨x, hx, rfl⟩ := List.mem_map.1 hy
    rw [ahd_up]
    exact hm.2 x hx (fun e => hne (by rw [e]))))
theorem qlast_any {B : Nat} {w : World} {q : QB} {L : List Ent} (h : Qs B w q L) (m : Ent) (hm : IsLast L m) :
    Calls Try.prog 29 #[.pointer (some ⟨q.qb, 0, none⟩)] w fun E w' => E = .returned (.tuple #[.agg #[.int .i64 m.2, .int .i64 m.1], .int .i64 0]) ∧ Grew w w' :=
  last_core h m.1 m.2 m.1 0 (fun W g => K.hs_peek (h.grew g).down (kN m) (List.mem_map_of_mem hm.1) (fun y hy hne => by
    obtain ⟨x, hx, rfl⟩ := List.mem_map.1 hy
    rw [ahd_down]
    exact hm.2 x hx (fun e => hne (by rw [e]))))

theorem K.Left.perm {fv : Value} {lt : K.Ky → K.Ky → Bool} {B : Nat} {w w' : World} {hb mb : Nat} {ro ro' : Option Nat} {C C' : List K.Ent} (h : K.Left fv lt B w w' hb mb ro ro' C) (hp : C.Perm C') : K.Left fv lt B w w' hb mb ro ro' C' := ⟨h.heap.perm hp, h.kept, h.moved⟩
theorem erase_kN {L : List Ent} {m : Ent} (hm : m ∈ L) : ((L.map kN).erase (kN m)).Perm ((L.erase m).map kN) :=
  List.Perm.cons_inv (a := kN m) ((List.perm_cons_erase (List.mem_map_of_mem hm)).symm.trans ((List.perm_cons_erase hm).map kN))

theorem LeftQ.setNew {B : Nat} {w w' : World} {q : QB} {L L0 : List Ent} (h : LeftQ B w w' q q L) (h0 : Qs B w q L0) {p : Addr} (hp : w.heap.size ≤ p.block) (v : Value) : LeftQ B w (w'.setCell p v) q q L :=
  ⟨h.queue.kept ((Kept.refl (fun k => k = p.block) w').setCell (.inl rfl) v) (fun b hb e => by have := h0.lt b hb; omega), ⟨rfl, rfl⟩, h.kept.setCell (.inr hp) v, fun _ x => .inl x⟩

set_option maxHeartbeats 2000000 in
set_option maxRecDepth 20000 in
theorem qdrop_none {B : Nat} {w : World} {q : QB} {L : List Ent} (h : Qs B w q L) (id : Int) (hid : Is64 id) (hn : ∀ x ∈ L, x.1 ≠ id) :
    Calls Try.prog 48 #[.pointer (some ⟨q.qb, 0, none⟩), .int .i64 id] w fun E w' => E = .returned (.tuple #[.agg #[.int .i64 0, .int .i64 0], .int .i64 14]) ∧ Grew w w' := by
  obtain ⟨W, hW⟩ : ∃ W, w.alloc (.cells #[.int .i64 0, .int .i64 0] 37) = W := ⟨_, rfl⟩
  have hG : Grew w W := by rw [← hW]; exact (Grew.refl w).alloc _
  have C1 := Lib.hid (qget_none (h.grew hG) id hid hn)
  have hlt : w.heap.size < W.heap.size := by rw [← hW]; simp
  have RK : Hid (∀ W', Grew W W' → w.heap.size < W'.heap.size ∧ W'.cell? ⟨w.heap.size, 0, none⟩ = some (.int .i64 0) ∧ W'.cell? ⟨w.heap.size, 1, none⟩ = some (.int .i64 0) ∧ W'.frozen? ⟨w.heap.size, 0, none⟩ = false ∧ W'.frozen? ⟨w.heap.size, 1, none⟩ = false) := fun W' g => ⟨Nat.lt_of_lt_of_le hlt g.size, res_key hW g⟩
  have HG := Lib.hid hG
  clear h hG hn hlt hid
  go_enter Try.func48, Try.ntmps48
  go_wp2_with (go_at_call 30; (try rw [hW]); (with_reducible refine C1.out.mono ?_); rintro E w2 ⟨rfl, g2⟩; obtain ⟨x0, x1, x2, x3, x4⟩ := RK.out w2 g2; have x5 := Nat.ne_of_lt x0; have x6 := Nat.ne_of_gt x0; have G2 := Lib.hid g2; clear g2)
  refine bodyPost_ret (v := .tuple #[.agg #[.int .i64 0, .int .i64 0], .int .i64 14]) (by simp [results, Try.f48, go_sem, x0, x1, x2, x5, x6]) rfl ⟨rfl, ?_⟩
  exact (((HG.out.trans G2.out).setCell (Nat.le_refl _) _).setCell (Nat.le_refl _) _).alloc _

set_option maxHeartbeats 2000000 in
set_option maxRecDepth 20000 in
theorem qdrop_there {B : Nat} {w : World} {q : QB} {L : List Ent} (h : Qs B w q L) (m : Ent) (hm : m ∈ L) :
    Calls Try.prog 48 #[.pointer (some ⟨q.qb, 0, none⟩), .int .i64 m.1] w fun E w' => E = .returned (.tuple #[.agg #[.int .i64 m.2, .int .i64 m.1], .int .i64 0]) ∧ LeftQ B w w' q q (L.erase m) := by
  obtain ⟨W, hW⟩ : ∃ W, w.alloc (.cells #[.int .i64 0, .int .i64 0] 37) = W := ⟨_, rfl⟩
  have hG : Grew w W := by rw [← hW]; exact (Grew.refl w).alloc _
  have C1 := Lib.hid (qget_there (h.grew hG) m hm)
  have hlt : w.heap.size < W.heap.size := by rw [← hW]; simp
  have Q0 : Hid (∀ W', Grew W W' → W'.cell? ⟨q.qb, 0, none⟩ = some (.pointer (some ⟨q.hu, 0, none⟩)) ∧ q.qb < W'.heap.size) := fun W' g => ⟨((h.grew hG).grew g).c0, ((h.grew hG).grew g).lt _ (.inr (.inl rfl))⟩
  have C2 : Hid (∀ W', Grew W W' → Calls Try.prog 73 #[.pointer (some ⟨q.hu, 0, none⟩), .int .i64 m.1] W' fun e w' => e = .returned (.tuple #[.agg #[.int .i64 m.2, .int .i64 m.1], .int .i64 0]) ∧ K.Left K.upV K.ltK B W' w' q.hu q.mu q.ru q.ru ((L.erase m).map kN)) := fun W' g => by
    refine (K.hs_drop ((h.grew hG).grew g).up (kN m) (List.mem_map_of_mem hm)).mono ?_
    rintro e w' ⟨rfl, l⟩
    exact ⟨rfl, l.perm (erase_kN hm)⟩
  have C3 : Hid (∀ W' w2, Grew W W' → K.Left K.upV K.ltK B W' w2 q.hu q.mu q.ru q.ru ((L.erase m).map kN) → Calls Try.prog 73 #[.pointer (some ⟨q.hd, 0, none⟩), .int .i64 m.1] w2 fun e w' => e = .returned (.tuple #[.agg #[.int .i64 m.2, .int .i64 m.1], .int .i64 0]) ∧ LeftQ B W w' q q (L.erase m)) := fun W' w2 g l1 => by
    refine (K.hs_drop ((h.grew hG).downAfter g l1 (Grew.refl w2)) (kN m) (List.mem_map_of_mem hm)).mono ?_
    rintro e w' ⟨rfl, l⟩
    exact ⟨rfl, (h.grew hG).both g l1 (Grew.refl w2) (l.perm (erase_kN hm))⟩
  have Q1 : Hid (∀ W' w2, Grew W W' → K.Left K.upV K.ltK B W' w2 q.hu q.mu q.ru q.ru ((L.erase m).map kN) → w2.cell? ⟨q.qb, 1, none⟩ = some (.pointer (some ⟨q.hd, 0, none⟩))) := fun W' w2 g l1 => by
    have h' := (h.grew hG).grew g
    rw [l1.kept.cell (by exact h'.lt q.qb (.inr (.inl rfl))) (fun hm => h.qApart (.inl hm))]
    exact h'.c1
  have R1 : Hid (∀ w3, LeftQ B W w3 q q (L.erase m) → w3.cell? ⟨w.heap.size, 0, none⟩ = some (.int .i64 0) ∧ w3.cell? ⟨w.heap.size, 1, none⟩ = some (.int .i64 0) ∧ w3.frozen? ⟨w.heap.size, 0, none⟩ = false ∧ w3.frozen? ⟨w.heap.size, 1, none⟩ = false ∧ ∀ u v, LeftQ B w ((w3.setCell ⟨w.heap.size, 0, none⟩ u).setCell ⟨w.heap.size, 1, none⟩ v) q q (L.erase m)) := fun w3 l => by
    have hno : ¬ q.turns w.heap.size := fun x => Nat.lt_irrefl _ (h.lt _ (.inl x))
    obtain ⟨x1, x2, x3, x4⟩ := res_key hW (Grew.refl W)
    refine ⟨?_, ?_, ?_, ?_, fun u v => ?_⟩
    · rw [l.kept.cell (by exact hlt) hno]; exact x1
    · rw [l.kept.cell (by exact hlt) hno]; exact x2
    · rw [l.kept.frozen (by exact hlt) hno]; exact x3
    · rw [l.kept.frozen (by exact hlt) hno]; exact x4
    · have l' : LeftQ B w w3 q q (L.erase m) := ⟨l.queue, ⟨rfl, rfl⟩, (hG.kept _).trans l.kept, fun _ x => .inl x⟩
      exact (l'.setNew h (Nat.le_refl _) u).setNew h (Nat.le_refl _) v
  have HG := Lib.hid hG
  clear h hG hm
  generalize m.1 = id at *
  generalize m.2 = a at *
  generalize L.erase m = L2 at *
  go_enter Try.func48, Try.ntmps48
  go_wp2_with (first | (go_at_call 30; (try rw [hW]); (with_reducible refine C1.out.mono ?_); rintro E w2 ⟨rfl, g2⟩; obtain ⟨x1, x0⟩ := Q0.out w2 g2; have x5 := Nat.ne_of_lt x0; have x6 := Nat.ne_of_gt x0; have G2 := Lib.hid g2; clear g2) | fail)
  refine (C2.out _ (G2.out.alloc _)).mono ?_
  rintro E w3 ⟨rfl, l1⟩
  have c1 := Q1.out _ w3 (G2.out.alloc _) l1
  have C4 := Lib.hid (C3.out _ w3 (G2.out.alloc _) l1)
  clear l1
  go_wp2_with fail
  refine C4.out.mono ?_
  rintro E w4 ⟨rfl, l2⟩
  obtain ⟨y1, y2, y3, y4, l3⟩ := R1.out w4 l2
  have L3 := Lib.hid l3
  clear l2 l3
  go_wp2
  refine bodyPost_ret (v := .tuple #[.agg #[.int .i64 a, .int .i64 id], .int .i64 0]) (by simp [results, Try.f48, go_sem, y1, y2]) rfl ⟨rfl, ?_⟩
  exact L3.out _ _
end Go.Proofs.Ytcipilggddpnpaa
