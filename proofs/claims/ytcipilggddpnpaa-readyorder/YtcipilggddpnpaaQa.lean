/-
  ready.Queue: what it is in memory; New, fromFirst, fromLast, Len, Get, First, Last.
-/
import Derived.Test.YtcipilggddpnpaaKq
namespace Go.Proofs.Ytcipilggddpnpaa
open Go.RowKit Go.Sort Go.Shelf Go.Maps
set_option linter.unusedVariables false
set_option linter.unusedSimpArgs false

/-- Where a queue lies: its own block, its two heaps', the order that is turned. -/
structure QB where
  qb : Nat
  hu : Nat
  mu : Nat
  ru : Option Nat
  hd : Nat
  md : Nat
  rd : Option Nat
  fb : Nat
/-- The blocks that its calls may turn. -/
def QB.turns (q : QB) (k : Nat) : Prop := Mine q.hu q.mu q.ru k ∨ Mine q.hd q.md q.rd k
/-- All its blocks. -/
def QB.own (q : QB) (k : Nat) : Prop := q.turns k ∨ k = q.qb ∨ k = q.fb

/-- A queue of the numbers L with their times, in blocks from B on. -/
structure Qs (B : Nat) (W : World) (q : QB) (L : List Ent) : Prop where
  obj : W.heap[q.qb]? = some (.cells #[.pointer (some ⟨q.hu, 0, none⟩), .pointer (some ⟨q.hd, 0, none⟩)] 88 (0, 0))
  up : K.Hs K.upV K.ltK B W q.hu q.mu q.ru (L.map kN)
  down : K.Hs (K.downV q.fb) K.ltD B W q.hd q.md q.rd (L.map kN)
  box : K.FBox W q.fb
  apart : ∀ k, Mine q.hu q.mu q.ru k → Mine q.hd q.md q.rd k → False
  base : B ≤ q.qb ∧ B ≤ q.fb

theorem Qs.c0 {B : Nat} {W : World} {q : QB} {L : List Ent} (h : Qs B W q L) : W.cell? ⟨q.qb, 0, none⟩ = some (.pointer (some ⟨q.hu, 0, none⟩)) := by simp [World.cell?, h.obj]
theorem Qs.c1 {B : Nat} {W : World} {q : QB} {L : List Ent} (h : Qs B W q L) : W.cell? ⟨q.qb, 1, none⟩ = some (.pointer (some ⟨q.hd, 0, none⟩)) := by simp [World.cell?, h.obj]
theorem Qs.lt {B : Nat} {W : World} {q : QB} {L : List Ent} (h : Qs B W q L) : ∀ k, q.own k → k < W.heap.size := by
  rintro k ((hm | hm) | rfl | rfl)
  · exact h.up.inside k hm
  · exact h.down.inside k hm
  · exact (Array.getElem?_eq_some_iff.1 h.obj).1
  · exact h.box.lt
theorem Qs.from {B : Nat} {W : World} {q : QB} {L : List Ent} (h : Qs B W q L) : ∀ k, q.own k → B ≤ k := by
  rintro k ((hm | hm) | rfl | rfl)
  · exact h.up.base k hm
  · exact h.down.base k hm
  · exact h.base.1
  · exact h.base.2
theorem Qs.kept {B : Nat} {W W' : World} {q : QB} {L : List Ent} {S : Nat → Prop} (h : Qs B W q L) (k : Kept S W W') (hs : ∀ b, q.own b → ¬ S b) : Qs B W' q L := by
  have hS : ∀ fb, S fb → fb ≠ q.fb := fun fb s e => hs q.fb (.inr (.inr rfl)) (e ▸ s)
  have box : K.FBox W' q.fb := (k.block q.fb h.box.lt (hs q.fb (.inr (.inr rfl)))).trans h.box
  refine ⟨(k.block q.qb (Array.getElem?_eq_some_iff.1 h.obj).1 (hs q.qb (.inr (.inl rfl)))).trans h.obj, ?_, ?_, box, h.apart, h.base⟩
  · obtain ⟨⟨R, h1, h2, h3⟩, h4, h5⟩ := h.up
    exact ⟨⟨R, h1, h2, h3.kept k (fun b hm => hs b (.inl (.inl hm)))⟩, h4, .inl ⟨rfl, rfl⟩⟩
  · obtain ⟨⟨R, h1, h2, h3⟩, h4, h5⟩ := h.down
    exact ⟨⟨R, h1, h2, h3.kept k (fun b hm => hs b (.inl (.inr hm)))⟩, h4, .inr ⟨q.fb, rfl, rfl, box⟩⟩
theorem Qs.grew {B : Nat} {W W' : World} {q : QB} {L : List Ent} (h : Qs B W q L) (g : Grew W W') : Qs B W' q L := h.kept (g.kept (fun _ => False)) (fun _ _ x => x)
theorem Qs.perm {B : Nat} {W : World} {q : QB} {L L' : List Ent} (h : Qs B W q L) (hp : L.Perm L') : Qs B W q L' := ⟨h.obj, h.up.perm (hp.map _), h.down.perm (hp.map _), h.box, h.apart, h.base⟩

/-- What a call leaves. -/
structure LeftQ (B : Nat) (W W' : World) (q q' : QB) (L : List Ent) : Prop where
  queue : Qs B W' q' L
  here : q'.qb = q.qb ∧ q'.fb = q.fb
  kept : Kept q.turns W W'
  moved : ∀ k, q'.turns k → q.turns k ∨ W.heap.size ≤ k
theorem LeftQ.below {B : Nat} {W W' : World} {q q' : QB} {L L' : List Ent} (h : LeftQ B W W' q q' L') (h0 : Qs B W q L) (hB : B ≤ W.heap.size) : Below B W W' := h.kept.below hB (fun k hk => h0.from k (.inl hk))

set_option maxHeartbeats 400000 in
theorem fromFirst_any {B : Nat} {W : World} {q : QB} {L : List Ent} (h : Qs B W q L) : Calls Try.prog 50 #[.pointer (some ⟨q.qb, 0, none⟩)] W fun e w' => e = .returned (.pointer (some ⟨q.hu, 0, none⟩)) ∧ W = w' := by
  have c0 := h.c0
  clear h
  go_enter Try.func50, Try.ntmps50
  go_wp2
  go_ret
  exact ⟨rfl, rfl⟩
set_option maxHeartbeats 400000 in
theorem fromLast_any {B : Nat} {W : World} {q : QB} {L : List Ent} (h : Qs B W q L) : Calls Try.prog 56 #[.pointer (some ⟨q.qb, 0, none⟩)] W fun e w' => e = .returned (.pointer (some ⟨q.hd, 0, none⟩)) ∧ W = w' := by
  have c0 := h.c1
  clear h
  go_enter Try.func56, Try.ntmps56
  go_wp2
  go_ret
  exact ⟨rfl, rfl⟩
set_option maxHeartbeats 400000 in
theorem qlen_any {B : Nat} {W : World} {q : QB} {L : List Ent} (h : Qs B W q L) : Calls Try.prog 27 #[.pointer (some ⟨q.qb, 0, none⟩)] W fun e w' => e = .returned (.int .i64 L.length) ∧ W = w' := by
  have C1 := Lib.hid (fromFirst_any h)
  have C2 : Hid (Calls Try.prog 54 #[.pointer (some ⟨q.hu, 0, none⟩)] W fun e w' => e = .returned (.int .i64 L.length) ∧ W = w') := by
    have := K.hs_len h.up
    rwa [List.length_map] at this
  clear h
  go_enter Try.func27, Try.ntmps27
  go_wp2_with (first | (go_at_call 50; (with_reducible refine C1.out.mono ?_); rintro e w1 ⟨rfl, rfl⟩) | (go_at_call 54; (with_reducible refine C2.out.mono ?_); rintro e w1 ⟨rfl, rfl⟩))
  go_ret
  exact ⟨rfl, rfl⟩

/-- A result's key in a block of its own, behind a call that laid blocks alone. -/
theorem res_key {w W W' : World} (hW : w.alloc (.cells #[.int .i64 0, .int .i64 0] 37) = W) (g : Grew W W') : W'.cell? ⟨w.heap.size, 0, none⟩ = some (.int .i64 0) ∧ W'.cell? ⟨w.heap.size, 1, none⟩ = some (.int .i64 0) ∧ W'.frozen? ⟨w.heap.size, 0, none⟩ = false ∧ W'.frozen? ⟨w.heap.size, 1, none⟩ = false := by
  have hlt : w.heap.size < W.heap.size := by rw [← hW]; simp
  refine ⟨?_, ?_, ?_, ?_⟩
  · rw [g.cell (by exact hlt), ← hW]; simp [go_sem]
  · rw [g.cell (by exact hlt), ← hW]; simp [go_sem]
  · rw [g.frozen (by exact hlt), ← hW]; simp [go_sem]
  · rw [g.frozen (by exact hlt), ← hW]; simp [go_sem]

set_option maxHeartbeats 1000000 in
set_option maxRecDepth 20000 in
/-- Get, whatever the heap answers. -/
theorem qget_core {B : Nat} {w : World} {q : QB} {L : List Ent} (h : Qs B w q L) (id a b e : Int)
    (hc : ∀ W, Grew w W → Calls Try.prog 57 #[.pointer (some ⟨q.hu, 0, none⟩), .int .i64 id] W fun E w' => E = .returned (.tuple #[.agg #[.int .i64 a, .int .i64 b], .int .i64 e]) ∧ Grew W w') :
    Calls Try.prog 30 #[.pointer (some ⟨q.qb, 0, none⟩), .int .i64 id] w fun E w' => E = .returned (.tuple #[.agg #[.int .i64 a, .int .i64 b], .int .i64 e]) ∧ Grew w w' := by
  obtain ⟨W, hW⟩ : ∃ W, w.alloc (.cells #[.int .i64 0, .int .i64 0] 37) = W := ⟨_, rfl⟩
  have hG : Grew w W := by rw [← hW]; exact (Grew.refl w).alloc _
  have C1 := Lib.hid (fromFirst_any (h.grew hG))
  have C2 := Lib.hid (hc W hG)
  have RK : Hid (∀ W', Grew W W' → W'.cell? ⟨w.heap.size, 0, none⟩ = some (.int .i64 0) ∧ W'.cell? ⟨w.heap.size, 1, none⟩ = some (.int .i64 0) ∧ W'.frozen? ⟨w.heap.size, 0, none⟩ = false ∧ W'.frozen? ⟨w.heap.size, 1, none⟩ = false) := fun W' g => res_key hW g
  have HG := Lib.hid hG
  clear h hG hc
  go_enter Try.func30, Try.ntmps30
  go_wp2_with (first | (go_at_call 50; (try rw [hW]); (with_reducible refine C1.out.mono ?_); rintro E w1 ⟨rfl, hw1⟩; subst hw1) | (go_at_call 57; (with_reducible refine C2.out.mono ?_); rintro E w2 ⟨rfl, g2⟩; obtain ⟨x1, x2, x3, x4⟩ := RK.out w2 g2; have G2 := Lib.hid g2; clear g2))
  refine bodyPost_ret (v := .tuple #[.agg #[.int .i64 a, .int .i64 b], .int .i64 e]) (by simp [results, Try.f30, go_sem, x1, x2]) rfl ⟨rfl, ?_⟩
  exact ((HG.out.trans G2.out).setCell (Nat.le_refl _) _).setCell (Nat.le_refl _) _

theorem qget_there {B : Nat} {w : World} {q : QB} {L : List Ent} (h : Qs B w q L) (m : Ent) (hm : m ∈ L) :
    Calls Try.prog 30 #[.pointer (some ⟨q.qb, 0, none⟩), .int .i64 m.1] w fun E w' => E = .returned (.tuple #[.agg #[.int .i64 m.2, .int .i64 m.1], .int .i64 0]) ∧ Grew w w' :=
  qget_core h m.1 m.2 m.1 0 (fun W g => K.hs_get (h.grew g).up (kN m) (List.mem_map_of_mem hm))
theorem qget_none {B : Nat} {w : World} {q : QB} {L : List Ent} (h : Qs B w q L) (id : Int) (hid : Is64 id) (hn : ∀ x ∈ L, x.1 ≠ id) :
    Calls Try.prog 30 #[.pointer (some ⟨q.qb, 0, none⟩), .int .i64 id] w fun E w' => E = .returned (.tuple #[.agg #[.int .i64 0, .int .i64 0], .int .i64 14]) ∧ Grew w w' :=
  qget_core h id 0 0 14 (fun W g => K.hs_get_none (h.grew g).up id hid (fun x hx => by
    obtain ⟨y, hy, rfl⟩ := List.mem_map.1 hx
    exact hn y hy))
end Go.Proofs.Ytcipilggddpnpaa
