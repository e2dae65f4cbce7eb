/-
  ready.Queue and timers.Queue: Copy.
-/
import Derived.Test.YtcipilggddpnpaaCk
import Derived.Test.YtcipilggddpnpaaTg
import Derived.Deep.RegionHeld3
namespace Go.Proofs.Ytcipilggddpnpaa
open Go.RowKit Go.Shelf Go.Maps
set_option linter.unusedVariables false
set_option linter.unusedSimpArgs false

theorem below_al (V : World) (o : Obj) : Below V.heap.size V (V.alloc o) := (Below.refl _ V).alloc (Nat.le_refl _) o
theorem keepc {W W' : World} {p : Addr} {v : Value} (h : W.cell? p = some v) (hb : Below W.heap.size W W') : W'.cell? p = some v := by
  rcases Nat.lt_or_ge p.block W.heap.size with hlt | hge
  · rw [hb.cell hlt]; exact h
  · simp [World.cell?, Array.getElem?_eq_none hge] at h
theorem keep2 {W W' : World} {p1 p2 : Addr} {v1 v2 : Value} (h : W.cell? p1 = some v1 ∧ W.cell? p2 = some v2) (hb : Below W.heap.size W W') : W'.cell? p1 = some v1 ∧ W'.cell? p2 = some v2 := ⟨keepc h.1 hb, keepc h.2 hb⟩
theorem keep4 {W W' : World} {p1 p2 p3 p4 : Addr} {v1 v2 v3 v4 : Value} (h : W.cell? p1 = some v1 ∧ W.cell? p2 = some v2 ∧ W.cell? p3 = some v3 ∧ W.cell? p4 = some v4) (hb : Below W.heap.size W W') : W'.cell? p1 = some v1 ∧ W'.cell? p2 = some v2 ∧ W'.cell? p3 = some v3 ∧ W'.cell? p4 = some v4 := ⟨keepc h.1 hb, keepc h.2.1 hb, keepc h.2.2.1 hb, keepc h.2.2.2 hb⟩
theorem mine_ge {B : Nat} {w : World} {fv : Value} {lt : K.Ky → K.Ky → Bool} {hb mb : Nat} {ro : Option Nat} {C : List K.Ent} (h : K.Hs fv lt B w hb mb ro C) : ∀ k, Mine hb mb ro k → B ≤ k := h.base

set_option maxHeartbeats 2000000 in
set_option maxRecDepth 20000 in
/-- A queue of its own that holds the same: new blocks, but for the order's. -/
theorem qcopy_any {B : Nat} {w : World} {q : QB} {L : List Ent} (h : Qs B w q L) (hd : L.Pairwise (fun x y => x.1 ≠ y.1)) (hok : ∀ x ∈ L, 0 ≤ x.1 ∧ Is64 x.1 ∧ Is64 x.2) (hl : L.length < 1099511627776) (hB : B ≤ w.heap.size) :
    Calls Try.prog 21 #[.pointer (some ⟨q.qb, 0, none⟩)] w fun E w' => ∃ r, E = .returned (.pointer (some ⟨r.qb, 0, none⟩)) ∧ Qs B w' r L ∧ Kept (fun _ => False) w w' ∧ (∀ k, r.own k → w.heap.size ≤ k ∨ k = q.fb) ∧ r.fb = q.fb ∧ ∀ k, r.turns k ∨ k = r.qb → w.heap.size ≤ k := by
  have dif : K.Dif (L.map kN) := List.pairwise_map.2 hd
  have ok : ∀ x ∈ L.map kN, (0 ≤ x.1 ∧ Is64 x.1) ∧ Is64 x.2.1 ∧ Is64 x.2.2 := fun x hx => by
    obtain ⟨y, hy, rfl⟩ := List.mem_map.1 hx
    have := hok y hy
    exact ⟨⟨this.1, this.2.1⟩, this.2.2, this.2.1⟩
  have ln : (L.map kN).length < 1099511627776 := by rw [List.length_map]; exact hl
  have CU : Hid (∀ W', Below w.heap.size w W' → Calls Try.prog 53 #[.pointer (some ⟨q.hu, 0, none⟩)] W' fun E w' => ∃ hc, E = .returned (.pointer (some ⟨hc, 0, none⟩)) ∧ Hid (∃ mc rc, K.Hs K.upV K.ltK w.heap.size w' hc mc rc (L.map kN) ∧ Below w.heap.size w w' ∧ ∀ k, Mine hc mc rc k → k < w'.heap.size) ∧ w'.cell? ⟨q.qb, 0, none⟩ = some (.pointer (some ⟨q.hu, 0, none⟩)) ∧ w'.cell? ⟨q.qb, 1, none⟩ = some (.pointer (some ⟨q.hd, 0, none⟩))) := fun W' b => by
    have hq : Qs B W' q L := h.kept (kept_lies (S := fun _ => False) b) (fun _ _ x => x)
    refine (K.copy_any K.upV K.ltK B W' q.hu q.mu q.ru (L.map kN) hq.up dif ok ln).mono ?_
    rintro E w' ⟨hc, mc, rc, rfl, h1, k⟩
    have b2 : Below w.heap.size w w' := b.trans (k.below b.size (fun _ x => x.elim))
    have hq2 : Qs B w' q L := h.kept (kept_lies (S := fun _ => False) b2) (fun _ _ x => x)
    exact ⟨hc, rfl, ⟨mc, rc, K.Hs.lower h1 b.size, b2, h1.inside⟩, hq2.c0, hq2.c1⟩
  have CD : Hid (∀ W' hc, Hid (∃ mc rc, K.Hs K.upV K.ltK w.heap.size W' hc mc rc (L.map kN) ∧ Below w.heap.size w W' ∧ ∀ k, Mine hc mc rc k → k < W'.heap.size) → Calls Try.prog 53 #[.pointer (some ⟨q.hd, 0, none⟩)] W' fun E w' => ∃ hd, E = .returned (.pointer (some ⟨hd, 0, none⟩)) ∧ Hid (∃ mc rc md rd, K.Hs K.upV K.ltK w.heap.size w' hc mc rc (L.map kN) ∧ K.Hs (K.downV q.fb) K.ltD w.heap.size w' hd md rd (L.map kN) ∧ Below w.heap.size w w' ∧ ∀ k, Mine hc mc rc k → Mine hd md rd k → False) ∧ w'.cell? ⟨q.qb, 0, none⟩ = some (.pointer (some ⟨q.hu, 0, none⟩)) ∧ w'.cell? ⟨q.qb, 1, none⟩ = some (.pointer (some ⟨q.hd, 0, none⟩))) := fun W' hc hh => by
    obtain ⟨mc, rc, h1, b, hin⟩ := hh.out
    have hq : Qs B W' q L := h.kept (kept_lies (S := fun _ => False) b) (fun _ _ x => x)
    refine (K.copy_any (K.downV q.fb) K.ltD B W' q.hd q.md q.rd (L.map kN) hq.down dif ok ln).mono ?_
    rintro E w' ⟨hd', md, rd, rfl, h2, k⟩
    have b2 : Below w.heap.size w w' := b.trans (k.below b.size (fun _ x => x.elim))
    have hq2 : Qs B w' q L := h.kept (kept_lies (S := fun _ => False) b2) (fun _ _ x => x)
    exact ⟨hd', rfl, ⟨mc, rc, md, rd, h1.kept k (fun _ _ x => x) (fun _ _ x => x.elim), K.Hs.lower h2 b.size, b2, fun j ha hb => by have := hin j ha; have := h2.base j hb; omega⟩, hq2.c0, hq2.c1⟩
  have FIN : Hid (∀ W' hc hd, Hid (∃ mc rc md rd, K.Hs K.upV K.ltK w.heap.size W' hc mc rc (L.map kN) ∧ K.Hs (K.downV q.fb) K.ltD w.heap.size W' hd md rd (L.map kN) ∧ Below w.heap.size w W' ∧ ∀ k, Mine hc mc rc k → Mine hd md rd k → False) →
      ∃ r : QB, r.qb = W'.heap.size ∧ Qs B (W'.alloc (.cells #[.pointer (some ⟨hc, 0, none⟩), .pointer (some ⟨hd, 0, none⟩)] 88)) r L ∧ Kept (fun _ => False) w (W'.alloc (.cells #[.pointer (some ⟨hc, 0, none⟩), .pointer (some ⟨hd, 0, none⟩)] 88)) ∧ (∀ k, r.own k → w.heap.size ≤ k ∨ k = q.fb) ∧ r.fb = q.fb ∧ ∀ k, r.turns k ∨ k = r.qb → w.heap.size ≤ k) := fun W' hc hd hh => by
    obtain ⟨mc, rc, md, rd, h1, h2, b, hap⟩ := hh.out
    have g : Grew W' (W'.alloc (.cells #[.pointer (some ⟨hc, 0, none⟩), .pointer (some ⟨hd, 0, none⟩)] 88)) := (Grew.refl W').alloc _
    have hbox : K.FBox (W'.alloc (.cells #[.pointer (some ⟨hc, 0, none⟩), .pointer (some ⟨hd, 0, none⟩)] 88)) q.fb := ((b.trans (g.below.mono b.size)).block q.fb h.box.lt).trans h.box
    have tn : ∀ k, (Mine hc mc rc k ∨ Mine hd md rd k) ∨ k = W'.heap.size → w.heap.size ≤ k := fun k hk => by
      rcases hk with (hk | hk) | rfl
      · exact h1.base k hk
      · exact h2.base k hk
      · exact b.size
    refine ⟨⟨W'.heap.size, hc, mc, rc, hd, md, rd, q.fb⟩, rfl, ⟨heap_alloc_new _ _, K.Hs.lower (h1.grew g) hB, K.Hs.lower (h2.grew g) hB, hbox, hap, Nat.le_trans hB b.size, h.base.2⟩, (kept_lies b).trans (g.kept _), ?_, rfl, tn⟩
    rintro k (hk | hk | hk)
    · exact .inl (tn k (.inl hk))
    · exact .inl (tn k (.inr hk))
    · exact .inr hk
  have c0 := h.c0
  have c1 := h.c1
  clear h hd hok hl hB dif ok ln
  go_enter Try.func21, Try.ntmps21
  go_wp2_with fail
  go_region_held3 (fun w' => w'.cell? ⟨q.qb, 0, none⟩ = some (.pointer (some ⟨q.hu, 0, none⟩)) ∧ w'.cell? ⟨q.qb, 1, none⟩ = some (.pointer (some ⟨q.hd, 0, none⟩)))
    (first | exact ⟨c0, c1⟩ | exact ⟨s0, s1⟩ | exact ⟨u0, u1⟩ | exact keep2 ⟨u0, u1⟩ (below_al _ _))
    (first
      | (go_at_call 53; (refine (CD.out _ _ hq9).mono ?_); rintro E w8 ⟨hd8, rfl, hq8, u0, u1⟩)
      | (go_at_call 53; (refine (CU.out _ (grewN w 1).below).mono ?_); rintro E w9 ⟨hc9, rfl, hq9, s0, s1⟩))
  obtain ⟨r, hr, f1⟩ := FIN.out _ _ _ hq8
  go_wp2
  go_ret
  refine ⟨r, ?_, f1⟩
  rw [hr]
  rfl

end Go.Proofs.Ytcipilggddpnpaa
