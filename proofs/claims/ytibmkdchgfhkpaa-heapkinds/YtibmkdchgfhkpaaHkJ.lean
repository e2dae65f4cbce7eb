/-
  Heap[api.Key]: New, Take.
-/
import Derived.Test.YtibmkdchgfhkpaaHkI
namespace Go.Proofs.Ytibmkdchgfhkpaa.K
open Go.RowKit Go.Sort Go.Shelf Go.Maps
set_option linter.unusedVariables false
set_option linter.unusedSimpArgs false

set_option maxHeartbeats 1000000 in
set_option maxRecDepth 20000 in
theorem new_any (g : Nat) (cb : Array Value) (w : World) :
    Calls Try.prog 25 #[.func (.func g) #[] cb] w fun e w' => e = .returned (.tuple #[.pointer (some ⟨w.heap.size + 1, 0, none⟩), .int .i64 0]) ∧ HP w' (w.heap.size + 1) w.heap.size none (.func (.func g) #[] cb) [] ∧ Grew w w' := by
  have hnf : ∀ (f : Fn) (b c : Array Value) (w : World), (binOp .eql 60 (.func f b c) Value.nilFunc).run Try.prog w = .ok (.bool false) w := fun _ _ _ _ => rfl
  have hmm := @run_makeMap Try.prog
  go_enter Try.func25, Try.ntmps25
  go_wp2
  go_ret2
  refine ⟨rfl, .inl ⟨rfl, rfl, ⟨?_⟩, ?_⟩, ((Grew.refl w).alloc _).alloc _⟩
  · have := heap_alloc_new (w.alloc (.map #[] 0)) (.cells #[.func (.func g) #[] cb, .slice none 0 0, .map (some w.heap.size)] 82)
    simpa using this
  · exact (World.ownsMap_made w _ _ _).alloc _

set_option maxHeartbeats 2000000 in
set_option maxRecDepth 20000 in
theorem take_some (g : Nat) (cb : Array Value) (lt : Ky → Ky → Bool) (hl : LessIs g cb lt) (hW : Hp.Weak lt) (w : World) (hb mb rb cap : Nat) (R : List Ent) (h : HeapIs w hb rb mb cap (.func (.func g) #[] cb) R) (hy : Hp.Heapy (ahd lt) (gt R) R.length) (h0 : 0 < R.length) :
    Calls Try.prog 27 #[.pointer (some ⟨hb, 0, none⟩)] w fun e w' => e = .returned (.tuple #[.int .i64 (rid R 0), kv (rky R 0), .int .i64 0]) ∧ ∃ R', (R.getD 0 (0, 0, 0) :: R').Perm R ∧ Hp.Heapy (ahd lt) (gt R') R'.length ∧
      HeapIs w' hb rb mb cap (.func (.func g) #[] cb) R' ∧ Kept (Mine hb mb (some rb)) w w' := by
  have hbl := h.obj.lt
  have hrl := h.row.lt
  have hml := h.mb_lt
  obtain ⟨W0, hW0⟩ : ∃ W0, w.alloc (.cells #[.int .i64 0, .int .i64 0] 36) = W0 := ⟨_, rfl⟩
  have g0 : Grew w W0 := by rw [← hW0]; exact (Grew.refl w).alloc _
  have hs0 : W0.heap.size = w.heap.size + 1 := by rw [← hW0]; simp
  have u0 : ∀ W, Grew W0 W → W.cell? ⟨w.heap.size, 0, none⟩ = some (.int .i64 0) ∧ W.cell? ⟨w.heap.size, 1, none⟩ = some (.int .i64 0) ∧ W.frozen? ⟨w.heap.size, 0, none⟩ = false ∧ W.frozen? ⟨w.heap.size, 1, none⟩ = false := fun W k => by
    have e : w.heap.size < W0.heap.size := by omega
    refine ⟨?_, ?_, ?_, ?_⟩
    · rw [k.cell (by exact e), ← hW0]; simp [go_sem]
    · rw [k.cell (by exact e), ← hW0]; simp [go_sem]
    · rw [k.frozen (by exact e), ← hW0]; simp [go_sem]
    · rw [k.frozen (by exact e), ← hW0]; simp [go_sem]
  have U0 := Lib.hid u0
  have C := Lib.hid (peek_some W0 hb mb rb cap _ R (h.grew g0) h0)
  have hx1 : hb ≠ w.heap.size := by omega
  have hx2 : rb ≠ w.heap.size := by omega
  have hx3 : mb ≠ w.heap.size := by omega
  have hmine : ¬ Mine hb mb (some rb) w.heap.size := by
    rintro (e | e | e)
    · omega
    · omega
    · cases e; omega
  have C2 : ∀ W1 W2 : World, Grew W0 W1 → (W1.setCell ⟨w.heap.size, 0, none⟩ (.int .i64 (rky R 0).1)).setCell ⟨w.heap.size, 1, none⟩ (.int .i64 (rky R 0).2) = W2 → Hid (Calls Try.prog 45 #[.pointer (some ⟨hb, 0, none⟩), .int .i64 (rid R 0)] W2 fun e w' => e = .returned (.tuple #[.agg #[.int .i64 (rky R 0).1, .int .i64 (rky R 0).2], .int .i64 0]) ∧ (∃ R', (R.getD 0 (0, 0, 0) :: R').Perm R ∧ Hp.Heapy (ahd lt) (gt R') R'.length ∧
      HeapIs w' hb rb mb cap (.func (.func g) #[] cb) R' ∧ Kept (Mine hb mb (some rb)) w w') ∧ w'.cell? ⟨w.heap.size, 0, none⟩ = some (.int .i64 (rky R 0).1) ∧ w'.cell? ⟨w.heap.size, 1, none⟩ = some (.int .i64 (rky R 0).2) ∧ w'.frozen? ⟨w.heap.size, 0, none⟩ = false ∧ w'.frozen? ⟨w.heap.size, 1, none⟩ = false) := fun W1 W2 k1 e2 => by
    have k2 : Grew w W2 := by rw [← e2]; exact ((g0.trans k1).setCell (Nat.le_refl _) _).setCell (Nat.le_refl _) _
    have hz2 : w.heap.size < W2.heap.size := by
      have := k1.size
      rw [← e2]
      simp only [World.setCell, Array.size_modify]
      omega
    obtain ⟨q0, q1, q2, q3⟩ := U0.out W1 k1
    have s0 : W2.cell? ⟨w.heap.size, 0, none⟩ = some (.int .i64 (rky R 0).1) := by rw [← e2]; simp [go_sem, q0, q1]
    have s1 : W2.cell? ⟨w.heap.size, 1, none⟩ = some (.int .i64 (rky R 0).2) := by rw [← e2]; simp [go_sem, q0, q1]
    have s2 : W2.frozen? ⟨w.heap.size, 0, none⟩ = false := by rw [← e2]; simp [go_sem, q2]
    have s3 : W2.frozen? ⟨w.heap.size, 1, none⟩ = false := by rw [← e2]; simp [go_sem, q3]
    refine (drop_there g cb lt hl hW W2 hb mb rb cap R (h.grew k2) hy 0 h0).mono ?_
    rintro e w' ⟨rfl, R', p1, p2, p3, p4⟩
    exact ⟨rfl, ⟨R', p1, p2, p3, (k2.kept _).trans p4⟩, (p4.cell (p := ⟨w.heap.size, 0, none⟩) hz2 hmine).trans s0, (p4.cell (p := ⟨w.heap.size, 1, none⟩) hz2 hmine).trans s1, (p4.frozen (p := ⟨w.heap.size, 0, none⟩) hz2 hmine).trans s2, (p4.frozen (p := ⟨w.heap.size, 1, none⟩) hz2 hmine).trans s3⟩
  have hkv : kv (rky R 0) = .agg #[.int .i64 (rky R 0).1, .int .i64 (rky R 0).2] := rfl
  rw [hkv] at C ⊢
  clear h h0 hl hW hy hkv u0 hbl hrl hml hs0 g0 hmine
  generalize rid R 0 = id at *
  generalize (rky R 0).1 = k at *
  generalize (rky R 0).2 = k2 at *
  go_enter Try.func27, Try.ntmps27
  go_wp2_with (go_at_call 44; refine C.out.mono ?_; rintro e w1 ⟨rfl, hg⟩; obtain ⟨q0, q1, q2, q3⟩ := U0.out w1 hg)
  refine (C2 w1 _ hg rfl).out.mono ?_
  rintro e w2 ⟨rfl, ⟨R', P⟩, t0, t1, t2, t3⟩
  have HP := Lib.hid P
  clear P q0 q1 q2 q3 hW0 C2
  go_wp2_with fail
  go_region
  go_wp2
  have z : ∀ X : World, X.cell? ⟨w.heap.size, 0, none⟩ = some (.int .i64 k) → X.cell? ⟨w.heap.size, 1, none⟩ = some (.int .i64 k2) → ((X.setCell ⟨w.heap.size, 0, none⟩ (.int .i64 k)).setCell ⟨w.heap.size, 1, none⟩ (.int .i64 k2)).cell? ⟨w.heap.size, 0, none⟩ = some (.int .i64 k) ∧ ((X.setCell ⟨w.heap.size, 0, none⟩ (.int .i64 k)).setCell ⟨w.heap.size, 1, none⟩ (.int .i64 k2)).cell? ⟨w.heap.size, 1, none⟩ = some (.int .i64 k2) := fun X a b => ⟨by simp [go_sem, a, b], by simp [go_sem, a, b]⟩
  obtain ⟨z1, z2⟩ := z w2 t0 t1
  obtain ⟨z3, z4⟩ := z _ z1 z2
  refine bodyPost_ret (v := .tuple #[.int .i64 id, .agg #[.int .i64 k, .int .i64 k2], .int .i64 0]) (by simp [results, Try.f27, go_sem, z3, z4]) rfl ⟨rfl, ?_⟩
  obtain ⟨p1, p2, p3, p4⟩ := HP.out
  refine ⟨R', p1, p2, ?_, ?_⟩
  · refine p3.keptBy ?_ ?_ ?_
    · show ((((w2.setCell _ _).setCell _ _).setCell _ _).setCell _ _).heap[hb]? = _
      rw [Below.heap_setCell _ _ _ _ (by exact hx1), Below.heap_setCell _ _ _ _ (by exact hx1), Below.heap_setCell _ _ _ _ (by exact hx1), Below.heap_setCell _ _ _ _ (by exact hx1)]
    · show ((((w2.setCell _ _).setCell _ _).setCell _ _).setCell _ _).heap[rb]? = _
      rw [Below.heap_setCell _ _ _ _ (by exact hx2), Below.heap_setCell _ _ _ _ (by exact hx2), Below.heap_setCell _ _ _ _ (by exact hx2), Below.heap_setCell _ _ _ _ (by exact hx2)]
    · show ((((w2.setCell _ _).setCell _ _).setCell _ _).setCell _ _).heap[mb]? = _
      rw [Below.heap_setCell _ _ _ _ (by exact hx3), Below.heap_setCell _ _ _ _ (by exact hx3), Below.heap_setCell _ _ _ _ (by exact hx3), Below.heap_setCell _ _ _ _ (by exact hx3)]
  · exact ((((p4.setCell (.inr (Nat.le_refl _)) _).setCell (.inr (Nat.le_refl _)) _).setCell (.inr (Nat.le_refl _)) _).setCell (.inr (Nat.le_refl _)) _).drew

end Go.Proofs.Ytibmkdchgfhkpaa.K
