/-
  The law's does, of queues: Drop of a server that is there; does as one contract.
-/
import Derived.Test.YtcipilggddpnpaaR4e
namespace Go.Proofs.Ytcipilggddpnpaa
open Go.RowKit Go.Shelf Go.Maps
set_option linter.unusedVariables false
set_option linter.unusedSimpArgs false

set_option maxHeartbeats 4000000 in
set_option maxRecDepth 20000 in
theorem does4_drop {X : Nat} {W : World} {q : QB} {rf : Nat} {S : List Ent} (h : Pq X W q rf S) (hl : S.length + 20 < 1099511627776) (t id : Int) (a : Option Addr) (n cap : Nat) (hn : has S id = true) :
    Calls Try.prog 19 #[.pointer (some ⟨q.qb, 0, none⟩), .pointer (some ⟨rf, 0, none⟩), .agg #[.int .i64 2, .int .i64 t, .int .i64 id, .slice a n cap]] W fun E w' => E = .returned (.bool true) ∧ Did4 X W w' q rf S.length := by
  obtain ⟨W0, hW0⟩ : ∃ W0, W.alloc (.cells #[.int .i64 2, .int .i64 t, .int .i64 id, .slice a n cap] 51) = W0 := ⟨_, rfl⟩
  have b0 : Below W.heap.size W W0 := by rw [← hW0]; exact (Below.refl _ _).alloc (Nat.le_refl _) _
  have o0 : Op4 W0 W.heap.size 2 t id a n cap := by rw [← hW0]; exact heap_alloc_new _ _
  have M0 : Hid (Mid4 X W W0 q rf S W.heap.size 2 t id a n cap) := ⟨h.lies b0, o0, b0.mono h.base⟩
  have OFF : Hid ((∀ k, q.own k → k < W.heap.size) ∧ rf < W.heap.size ∧ W.heap.size < W0.heap.size) := ⟨fun k hk => h.queue.lt k hk, h.ref.lt, o0.lt⟩
  have HW := Lib.hid hW0
  rcases find_any h.diff id with ⟨_, i, hi, hr, hf⟩ | ⟨e, _⟩
  · have CR := Lib.hid (refAt_any X W0 rf S (by omega) M0.out.pq.ref id)
    rw [hf] at CR
    obtain ⟨at_, hat⟩ : ∃ at_, (S.getD i (0, 0)).2 = at_ := ⟨_, rfl⟩
    have hgd : S.getD i (0, 0) = (id, at_) := by rw [← hr, ← hat]; rfl
    have hmem : (id, at_) ∈ S := by
      rw [← hgd]
      exact mem_getD hi
    have CG : Hid (∀ W', Below W0.heap.size W0 W' → Calls Try.prog 30 #[.pointer (some ⟨q.qb, 0, none⟩), .int .i64 id] W' fun E w' => E = .returned (.tuple #[.agg #[.int .i64 at_, .int .i64 id], .int .i64 0]) ∧ Below W'.heap.size W' w') := fun W' b =>
      (qget_there (M0.out.lies b).pq.queue (id, at_) hmem).mono fun _ _ ⟨e, g⟩ => ⟨e, g.below⟩
    have CD : Hid (∀ W', Below W0.heap.size W0 W' → Calls Try.prog 48 #[.pointer (some ⟨q.qb, 0, none⟩), .int .i64 id] W' fun E w' => E = .returned (.tuple #[.agg #[.int .i64 at_, .int .i64 id], .int .i64 0]) ∧ LeftQ X W' w' q q (S.erase (id, at_))) := fun W' b =>
      qdrop_there (M0.out.lies b).pq.queue (id, at_) hmem
    have HA : Hid (∀ W', RefIs X W' rf S → ∃ a cap g, W'.cell? ⟨rf, 0, none⟩ = some (.slice a S.length cap) ∧ a = some ⟨g, 0, none⟩ ∧ W'.cell? ⟨g, i * 2, none⟩ = some (.int .i64 at_) ∧ W'.cell? ⟨g, i * 2 + 1, none⟩ = some (.int .i64 id)) := fun W' r => by
      obtain ⟨a, cap, e1, e2⟩ := r.at
      obtain ⟨g, e3, e4, e5⟩ := e2 i hi
      rw [hr] at e5
      exact ⟨a, cap, g, e1, e3, by rw [← hat]; exact e4, e5⟩
    have CX : Hid (∀ W', X ≤ W'.heap.size → RefIs X W' rf S → Calls Try.prog 49 #[.pointer (some ⟨rf, 0, none⟩), .int .i64 id] W' fun E w' => (∃ z, E = .returned (.tuple #[.int .i64 z, .int .i64 0])) ∧ RefIs X w' rf (S.eraseIdx i) ∧ Kept (fun k => k = rf) W' w') := fun W' hX r =>
      (refDrop_there X W' rf S (by omega) hX r id i hi hf).mono fun _ _ ⟨e, h1, h2⟩ => ⟨⟨_, e⟩, h1, h2⟩
    have DONE : Hid (∀ W6 w7, Qs X W6 q (S.erase (id, at_)) → RefIs X W6 rf S → RefIs X w7 rf (S.eraseIdx i) → Kept (fun k => k = rf) W6 w7 → Below X W W6 → Did4 X W w7 q rf S.length) := fun W6 w7 hq h6 h7 hk hb => by
      have eb : S.eraseIdx i = but S id := by rw [but_at h.diff hi, hr]
      have pe : (S.erase (id, at_)).Perm (S.eraseIdx i) := by
        have := erase_is hi
        rw [hgd] at this
        exact this
      have hX : X ≤ W6.heap.size := Nat.le_trans h.base hb.size
      refine ⟨q, S.eraseIdx i, ⟨(hq.besideR h6 hk).perm pe, h7, ?_, ?_, ?_, Nat.le_trans hX hk.size, h.rb⟩, rfl, ?_, hb.trans (hk.below hX (fun j e => by rw [e]; exact h.rb))⟩
      · rw [eb]; exact sorted_filter h.sorted _
      · rw [eb]; exact diff_but h.diff _
      · rw [eb]; exact fun x hx => h.good x (List.mem_filter.1 hx).1
      · rw [eb]
        have := but_len S id
        omega
    have t1 : decide ((i : Int) < 0) = false := decide_eq_false (by omega)
    have t2 : (i : Int) < (S.length : Int) := by omega
    have t3 : decide (i < S.length) = true := decide_eq_true hi
    obtain ⟨⟨k0, _⟩, k2, _⟩ := o0.cells
    have HX := Lib.hid h.base
    clear h b0 hW0 hl hn o0 hf hr hat hmem hgd
    generalize S.length = len at *
    go_enter Try.func19, Try.ntmps19
    go_wp2_with fail
    rw [HW.out]
    refine CR.out.mono ?_
    rintro E w1 ⟨rfl, hw1⟩
    subst hw1
    go_wp2_with fail
    refine (CG.out _ (Below.refl _ _)).mono ?_
    rintro E w2 ⟨rfl, b2⟩
    obtain ⟨W3, hW3⟩ : ∃ W3, w2.alloc (.cells #[.int .i64 at_, .int .i64 id] 37) = W3 := ⟨_, rfl⟩
    have HW3 := Lib.hid hW3
    have B3 : Hid (Below w1.heap.size w1 W3) := by rw [← hW3]; exact b2.trans ((below_al w2 _).mono b2.size)
    have K3 : Hid (B2 W3 w2.heap.size at_ id) := by rw [← hW3]; exact B2.start w2 at_ id
    have L2 := Lib.hid b2.size
    obtain ⟨⟨j0, _⟩, j2, _⟩ := (M0.out.lies B3.out).op.cells
    clear b2 k0 k2 hW3
    go_upto_region 8 with (fail)
    rw [HW3.out]
    go_wp2_with fail
    refine (CD.out _ B3.out).mono ?_
    rintro E w4 ⟨rfl, l4⟩
    obtain ⟨W5, hW5⟩ : ∃ W5, (w4.setCell ⟨w2.heap.size, 0, none⟩ (.int .i64 at_)).setCell ⟨w2.heap.size, 1, none⟩ (.int .i64 id) = W5 := ⟨_, rfl⟩
    have HW5 := Lib.hid hW5
    have nt : ∀ k, q.own k → k < w1.heap.size := fun k hk => Nat.lt_trans (OFF.out.1 k hk) OFF.out.2.2
    have K4 : B2 w4 w2.heap.size at_ id := K3.out.kept l4.kept (fun hs => by have := nt _ (.inl hs); have := L2.out; omega)
    have kq : Kept q.turns w1 W5 := by
      rw [← hW5]
      exact (((kept_lies B3.out).trans l4.kept).setCell (p := ⟨w2.heap.size, 0, none⟩) (.inr L2.out) _).setCell (p := ⟨w2.heap.size, 1, none⟩) (.inr L2.out) _
    have S5 : Hid (Qs X W5 q (S.erase (id, at_)) ∧ RefIs X W5 rf S ∧ Op4 W5 W.heap.size 2 t id a n cap ∧ B2 W5 w2.heap.size at_ id ∧ Below X W W5) := by
      refine ⟨?_, M0.out.pq.ref.besideQ M0.out.pq.queue kq, M0.out.op.kept kq (fun hs => by have := OFF.out.1 _ (.inl hs); omega), ?_, M0.out.low.trans (kq.below M0.out.pq.base (fun k hk => M0.out.pq.queue.from k (.inl hk)))⟩
      · rw [← hW5]
        refine l4.queue.kept (((Kept.refl (fun k => k = w2.heap.size) w4).setCell (p := ⟨w2.heap.size, 0, none⟩) (.inl rfl) (.int .i64 at_)).setCell (p := ⟨w2.heap.size, 1, none⟩) (.inl rfl) (.int .i64 id)) (fun b hb e => by have := nt b hb; have := L2.out; omega)
      · rw [← hW5]
        exact K4.set at_ id
    obtain ⟨x0, x1⟩ := K4.cells
    obtain ⟨f0, f1⟩ := K4.thaw
    clear l4 kq K4 hW5 j0 j2 nt
    go_upto_region 10 with (fail)
    rw [HW5.out]
    clear x0 x1 f0 f1
    obtain ⟨W6, hW6⟩ : ∃ W6, W5.alloc (.cells #[.int .i64 at_, .int .i64 id] 37) = W6 := ⟨_, rfl⟩
    have HW6 := Lib.hid hW6
    have b6 : Below W5.heap.size W5 W6 := by rw [← hW6]; exact below_al W5 _
    have K6 : Hid (B2 W6 W5.heap.size at_ id) := by rw [← hW6]; exact B2.start W5 at_ id
    have S6 : Hid (Qs X W6 q (S.erase (id, at_)) ∧ RefIs X W6 rf S ∧ Op4 W6 W.heap.size 2 t id a n cap ∧ B2 W6 w2.heap.size at_ id ∧ Below X W W6) :=
      ⟨S5.out.1.kept (kept_lies (S := fun _ => False) b6) (fun _ _ x => x), S5.out.2.1.lies b6, S5.out.2.2.1.lies b6, S5.out.2.2.2.1.next b6, S5.out.2.2.2.2.trans (b6.mono (Nat.le_trans HX.out S5.out.2.2.2.2.size))⟩
    obtain ⟨ra, rc, g, y0, rfl, y1, y2⟩ := HA.out W5 S5.out.2.1
    clear b6 hW6
    go_upto_region 13 with (fail)
    rw [HW6.out]
    clear y0 y1 y2
    obtain ⟨⟨j0, _⟩, j2, _⟩ := S6.out.2.2.1.cells
    go_wp2_with fail
    refine (CX.out _ (Nat.le_trans HX.out S6.out.2.2.2.2.size) S6.out.2.1).mono ?_
    rintro E w7 ⟨⟨z, rfl⟩, r7, k7⟩
    have D7 := Lib.hid (DONE.out W6 w7 S6.out.1 S6.out.2.1 r7 k7 S6.out.2.2.2.2)
    obtain ⟨x0, x1⟩ := (S6.out.2.2.2.1.kept k7 (fun e => by have := OFF.out.2.1; have := OFF.out.2.2; have := L2.out; omega)).cells
    obtain ⟨y0, y1⟩ := (K6.out.kept k7 (fun e => by have := OFF.out.2.1; have := S5.out.2.2.1.lt; omega)).cells
    clear r7 k7 j0 j2
    go_wp2
    go_ret
    exact ⟨rfl, D7.out⟩
  · rw [e] at hn; cases hn

/-- One call of both. -/
theorem does4_any {X : Nat} {W : World} {q : QB} {rf : Nat} {S l : List Ent} (h : Pq X W q rf S) (hl : S.length + 20 < 1099511627776) (k t id : Int) (hx : Is64 id ∧ Is64 t) (a : Option Addr) (cap : Nat) (hk : KeysIn X W a l) (h20 : l.length ≤ 20) (hcap : l.length ≤ cap) :
    Calls Try.prog 19 #[.pointer (some ⟨q.qb, 0, none⟩), .pointer (some ⟨rf, 0, none⟩), .agg #[.int .i64 k, .int .i64 t, .int .i64 id, .slice a l.length cap]] W fun E w' => E = .returned (.bool true) ∧ Did4 X W w' q rf S.length := by
  by_cases h0 : k = 0
  · subst h0
    exact does4_put h hl t id a cap hk h20 hcap
  by_cases h1 : k = 1
  · subst h1
    exact does4_move h hl t id hx a _ cap
  by_cases hn : has S id = true
  · by_cases h2 : k = 2
    · subst h2
      exact does4_drop h hl t id a _ cap hn
    · exact does4_get h hl k t id ⟨h0, h1⟩ h2 a _ cap hn
  · exact does4_none h hl k t id ⟨h0, h1⟩ hx a _ cap (by simpa using hn)
end Go.Proofs.Ytcipilggddpnpaa
