/-
  Heap[api.Key]: New, Get, Change, Drop of one that is not there.
-/
import Derived.Test.YtcipilggddpnpaaKhI
namespace Go.Proofs.Ytcipilggddpnpaa.K
open Go.RowKit Go.Sort Go.Shelf Go.Maps
set_option linter.unusedVariables false
set_option linter.unusedSimpArgs false

set_option maxHeartbeats 1000000 in
set_option maxRecDepth 20000 in
theorem new_any (g : Nat) (cb : Array Value) (w : World) :
    Calls Try.prog 42 #[.func (.func g) #[] cb] w fun e w' => e = .returned (.tuple #[.pointer (some ⟨w.heap.size + 1, 0, none⟩), .int .i64 0]) ∧ HP w' (w.heap.size + 1) w.heap.size none (.func (.func g) #[] cb) [] ∧ Grew w w' := by
  have hnf : ∀ (f : Fn) (b c : Array Value) (w : World), (binOp .eql 85 (.func f b c) Value.nilFunc).run Try.prog w = .ok (.bool false) w := fun _ _ _ _ => rfl
  have hmm := @run_makeMap Try.prog
  go_enter Try.func42, Try.ntmps42
  go_wp2
  go_ret2
  refine ⟨rfl, .inl ⟨rfl, rfl, ⟨?_⟩, ?_⟩, ((Grew.refl w).alloc _).alloc _⟩
  · have := heap_alloc_new (w.alloc (.map #[] 0)) (.cells #[.func (.func g) #[] cb, .slice none 0 0, .map (some w.heap.size)] 106)
    simpa using this
  · exact (World.ownsMap_made w _ _ _).alloc _

theorem RowAt.set1 {w : World} {rb cap : Nat} {R : List Ent} (h : RowAt w rb cap R) {i : Nat} (hi : i < R.length) (y z : Int) :
    RowAt ((w.setCell ⟨rb, i * 3 + 1, none⟩ (.int .i64 y)).setCell ⟨rb, i * 3 + 2, none⟩ (.int .i64 z)) rb cap (R.set i (rid R i, y, z)) := by
  obtain ⟨⟨cur, h1, h2, h5⟩, h3, h4⟩ := h
  refine ⟨⟨(cur.setIfInBounds (i * 3 + 1) (.int .i64 y)).setIfInBounds (i * 3 + 2) (.int .i64 z), ?_, by simp [h2], ?_⟩, by simpa using h3, h4⟩
  · simp [World.setCell, Array.getElem?_modify, h1]
  · intro j hj
    have hj' : j < R.length := by simpa using hj
    have sz : i * 3 + 2 < cur.size := by omega
    have h6 := h5 j hj'
    unfold rid rky at h6 ⊢
    rw [getD_set _ _ _ _ hi]
    simp only [Array.getElem?_setIfInBounds]
    by_cases e : j = i
    · subst e
      rw [if_neg (by omega), if_neg (by omega), if_pos rfl, if_neg (by omega), if_pos rfl, if_pos (by omega), if_pos rfl, if_pos (by simp; omega)]
      exact ⟨h6.1, rfl, rfl⟩
    · rw [if_neg e, if_neg (by omega), if_neg (by omega), if_neg (by omega), if_neg (by omega), if_neg (by omega), if_neg (by omega)]
      exact h6

theorem HeapIs.set1 {w : World} {hb rb mb cap : Nat} {fv : Value} {R : List Ent} (h : HeapIs w hb rb mb cap fv R) {i : Nat} (hi : i < R.length) (y z : Int) (hy : Is64 y ∧ Is64 z) : HeapIs ((w.setCell ⟨rb, i * 3 + 1, none⟩ (.int .i64 y)).setCell ⟨rb, i * 3 + 2, none⟩ (.int .i64 z)) hb rb mb cap fv (R.set i (rid R i, y, z)) := by
  obtain ⟨D, hM, hP, hS⟩ := h.map
  have hl : (R.set i (rid R i, y, z)).length = R.length := by simp
  have hr : ∀ j, rid (R.set i (rid R i, y, z)) j = rid R j := fun j => by
    unfold rid
    rw [getD_set _ _ _ _ hi]
    by_cases e : j = i
    · rw [if_pos e, e]
    · rw [if_neg e]
  have hk : ∀ b, b ≠ rb → ((w.setCell ⟨rb, i * 3 + 1, none⟩ (.int .i64 y)).setCell ⟨rb, i * 3 + 2, none⟩ (.int .i64 z)).heap[b]? = w.heap[b]? := fun b hb => by
    rw [Below.heap_setCell _ _ _ _ (by exact hb), Below.heap_setCell _ _ _ _ (by exact hb)]
  refine ⟨by rw [hl]; exact h.obj.kept (hk hb h.apart), h.row.set1 hi y z, ⟨D, by rw [hl]; exact hM.keptBy (hk mb h.mb_ne.2), ⟨fun j hj => ?_, fun id hn => ?_⟩, by rw [hl]; exact hS⟩, h.apart, by rw [hl]; exact h.small, fun j hj => ?_, fun j hj => ?_⟩
  · rw [hr j]; exact hP.at_ j (by rw [← hl]; exact hj)
  · exact hP.no id fun j hj x => hn j (by rw [hl]; exact hj) (by rw [hr j, x])
  · rw [hr j]; exact h.ids j (by rw [← hl]; exact hj)
  · unfold rky
    rw [getD_set _ _ _ _ hi]
    by_cases e : j = i
    · rw [if_pos e]; exact hy
    · rw [if_neg e]; exact h.keys j (by rw [← hl]; exact hj)

set_option maxHeartbeats 1000000 in
set_option maxRecDepth 20000 in
theorem get_there (w : World) (hb mb rb cap : Nat) (fv : Value) (R : List Ent) (h : HeapIs w hb rb mb cap fv R) (i : Nat) (hi : i < R.length) :
    Calls Try.prog 57 #[.pointer (some ⟨hb, 0, none⟩), .int .i64 (rid R i)] w fun e w' => e = .returned (.tuple #[kv (rky R i), .int .i64 0]) ∧ Grew w w' := by
  obtain ⟨W, hW⟩ : ∃ W, w.alloc (.cells #[.int .i64 0, .int .i64 0] 37) = W := ⟨_, rfl⟩
  have hG : Grew w W := by rw [← hW]; exact (Grew.refl w).alloc _
  have C := Lib.hid (HP.find_there (.inr ⟨rb, cap, rfl, h.grew hG⟩) hi)
  have c1 := (h.grew hG).obj.c1
  have r1 := (h.grew hG).row.cell1 hi
  have r2 := (h.grew hG).row.cell2 hi
  have hi' : (i : Int) < (R.length : Int) := by omega
  have d2 : W.cell? ⟨w.heap.size, 0, none⟩ = some (.int .i64 0) := by rw [← hW]; simp [go_sem]
  have d3 : W.cell? ⟨w.heap.size, 1, none⟩ = some (.int .i64 0) := by rw [← hW]; simp [go_sem]
  have d4 : W.frozen? ⟨w.heap.size, 0, none⟩ = false := by rw [← hW]; simp [go_sem]
  have d5 : W.frozen? ⟨w.heap.size, 1, none⟩ = false := by rw [← hW]; simp [go_sem]
  have hkv : kv (rky R i) = .agg #[.int .i64 (rky R i).1, .int .i64 (rky R i).2] := rfl
  rw [hkv]
  have HG := Lib.hid hG
  clear h hG hkv
  generalize rid R i = id at *
  generalize (rky R i).1 = k at *
  generalize (rky R i).2 = k2 at *
  generalize R.length = n at *
  go_enter Try.func57, Try.ntmps57
  go_wp2_with (go_at_call 79; (try rw [hW]); refine C.out.mono ?_; rintro e w' ⟨rfl, rfl⟩)
  refine bodyPost_ret (v := .tuple #[.agg #[.int .i64 k, .int .i64 k2], .int .i64 0]) (by simp [results, Try.f57, go_sem, d2, d3]) rfl ⟨rfl, ?_⟩
  exact (HG.out.setCell (Nat.le_refl _) _).setCell (Nat.le_refl _) _

set_option maxHeartbeats 1000000 in
set_option maxRecDepth 20000 in
theorem get_none (w : World) (hb mb : Nat) (ro : Option Nat) (fv : Value) (R : List Ent) (h : HP w hb mb ro fv R) (id : Int) (hid : Is64 id) (hn : ∀ i, i < R.length → rid R i ≠ id) :
    Calls Try.prog 57 #[.pointer (some ⟨hb, 0, none⟩), .int .i64 id] w fun e w' => e = .returned (.tuple #[kv (0, 0), .int .i64 14]) ∧ Grew w w' := by
  obtain ⟨W, hW⟩ : ∃ W, w.alloc (.cells #[.int .i64 0, .int .i64 0] 37) = W := ⟨_, rfl⟩
  have hG : Grew w W := by rw [← hW]; exact (Grew.refl w).alloc _
  have C := Lib.hid ((h.grew hG).find_none hid hn)
  have d2 : W.cell? ⟨w.heap.size, 0, none⟩ = some (.int .i64 0) := by rw [← hW]; simp [go_sem]
  have d3 : W.cell? ⟨w.heap.size, 1, none⟩ = some (.int .i64 0) := by rw [← hW]; simp [go_sem]
  have d4 : W.frozen? ⟨w.heap.size, 0, none⟩ = false := by rw [← hW]; simp [go_sem]
  have d5 : W.frozen? ⟨w.heap.size, 1, none⟩ = false := by rw [← hW]; simp [go_sem]
  have HG := Lib.hid hG
  clear h hG hn hid
  go_enter Try.func57, Try.ntmps57
  go_wp2_with (go_at_call 79; (try rw [hW]); refine C.out.mono ?_; rintro e w' ⟨rfl, rfl⟩)
  refine bodyPost_ret (v := .tuple #[kv (0, 0), .int .i64 14]) (by simp [results, Try.f57, go_sem, d2, d3]) rfl ⟨rfl, ?_⟩
  exact (HG.out.setCell (Nat.le_refl _) _).setCell (Nat.le_refl _) _

set_option maxHeartbeats 1000000 in
set_option maxRecDepth 20000 in
theorem drop_none (w : World) (hb mb : Nat) (ro : Option Nat) (fv : Value) (R : List Ent) (h : HP w hb mb ro fv R) (id : Int) (hid : Is64 id) (hn : ∀ i, i < R.length → rid R i ≠ id) :
    Calls Try.prog 73 #[.pointer (some ⟨hb, 0, none⟩), .int .i64 id] w fun e w' => e = .returned (.tuple #[kv (0, 0), .int .i64 14]) ∧ Grew w w' := by
  obtain ⟨W, hW⟩ : ∃ W, w.alloc (.cells #[.int .i64 0, .int .i64 0] 37) = W := ⟨_, rfl⟩
  have hG : Grew w W := by rw [← hW]; exact (Grew.refl w).alloc _
  have C := Lib.hid ((h.grew hG).find_none hid hn)
  have d2 : W.cell? ⟨w.heap.size, 0, none⟩ = some (.int .i64 0) := by rw [← hW]; simp [go_sem]
  have d3 : W.cell? ⟨w.heap.size, 1, none⟩ = some (.int .i64 0) := by rw [← hW]; simp [go_sem]
  have d4 : W.frozen? ⟨w.heap.size, 0, none⟩ = false := by rw [← hW]; simp [go_sem]
  have d5 : W.frozen? ⟨w.heap.size, 1, none⟩ = false := by rw [← hW]; simp [go_sem]
  have HG := Lib.hid hG
  clear h hG hn hid
  go_enter Try.func73, Try.ntmps73
  go_wp2_with (go_at_call 79; (try rw [hW]); refine C.out.mono ?_; rintro e w' ⟨rfl, rfl⟩)
  refine bodyPost_ret (v := .tuple #[kv (0, 0), .int .i64 14]) (by simp [results, Try.f73, go_sem, d2, d3]) rfl ⟨rfl, ?_⟩
  exact (HG.out.setCell (Nat.le_refl _) _).setCell (Nat.le_refl _) _

set_option maxHeartbeats 1000000 in
theorem change_none (w : World) (hb mb : Nat) (ro : Option Nat) (fv : Value) (R : List Ent) (h : HP w hb mb ro fv R) (id : Int) (k : Ky) (hid : Is64 id) (hn : ∀ i, i < R.length → rid R i ≠ id) :
    Calls Try.prog 59 #[.pointer (some ⟨hb, 0, none⟩), .int .i64 id, kv k] w fun e w' => e = .returned (.int .i64 14) ∧ Grew w w' := by
  obtain ⟨k, k2⟩ := k
  have hG : Grew w (w.alloc (.cells #[.int .i64 k, .int .i64 k2] 37)) := (Grew.refl w).alloc _
  have C := Lib.hid ((h.grew hG).find_none hid hn)
  have HG := Lib.hid hG
  clear h hn hid hG
  go_enter Try.func59, Try.ntmps59
  go_wp2_with (go_at_call 79; refine C.out.mono ?_; rintro e w' ⟨rfl, rfl⟩)
  go_ret
  exact ⟨rfl, HG.out⟩

set_option maxHeartbeats 2000000 in
set_option maxRecDepth 20000 in
theorem change_there (g : Nat) (cb : Array Value) (lt : Ky → Ky → Bool) (w : World) (hb mb rb cap : Nat) (hl : LessIs g cb lt w (Mine hb mb (some rb))) (hW : Hp.Weak lt) (R : List Ent) (h : HeapIs w hb rb mb cap (.func (.func g) #[] cb) R) (hy : Hp.Heapy (ahd lt) (gt R) R.length) (i : Nat) (hi : i < R.length) (y z : Int) (hy64 : Is64 y ∧ Is64 z) :
    Calls Try.prog 59 #[.pointer (some ⟨hb, 0, none⟩), .int .i64 (rid R i), kv (y, z)] w fun e w' => e = .returned (.int .i64 0) ∧ ∃ R', R'.Perm (R.set i (rid R i, y, z)) ∧ Hp.Heapy (ahd lt) (gt R') R'.length ∧
      HeapIs w' hb rb mb cap (.func (.func g) #[] cb) R' ∧ Kept (Mine hb mb (some rb)) w w' := by
  obtain ⟨W, hWe⟩ : ∃ W, w.alloc (.cells #[.int .i64 y, .int .i64 z] 37) = W := ⟨_, rfl⟩
  have hG : Grew w W := by rw [← hWe]; exact (Grew.refl w).alloc _
  have hrl := h.row.lt
  have hml := h.mb_lt
  have h := h.grew hG
  have C1 := Lib.hid (HP.find_there (.inr ⟨rb, cap, rfl, h⟩) hi)
  have c1 := h.obj.c1
  have r1 := h.row.cell1 hi
  have r2 := h.row.cell2 hi
  have f1 := h.row.thaw
  have x1 : W.cell? ⟨w.heap.size, 0, none⟩ = some (.int .i64 y) := by rw [← hWe]; simp [go_sem]
  have x2 : W.cell? ⟨w.heap.size, 1, none⟩ = some (.int .i64 z) := by rw [← hWe]; simp [go_sem]
  have hi' : (i : Int) < (R.length : Int) := by omega
  have hri : Hp.Rises (ahd lt) (gt (R.set i (rid R i, y, z))) (R.set i (rid R i, y, z)).length i False := by
    have hls : (R.set i (rid R i, y, z)).length = R.length := by simp
    rw [hls]
    refine hy.turned (ahd_weak hW) hi (fun j hj => ?_) False (fun x => x)
    show (R.set i (rid R i, y, z)).getD j (0, 0, 0) = _
    rw [getD_set _ _ _ _ hi, if_neg hj]
  obtain ⟨W2, hW2⟩ : ∃ W2, ((W.setCell ⟨rb, i * 3 + 1, none⟩ (.int .i64 y)).setCell ⟨rb, i * 3 + 2, none⟩ (.int .i64 z)).drew = W2 := ⟨_, rfl⟩
  have h2 : HeapIs W2 hb rb mb cap (.func (.func g) #[] cb) (R.set i (rid R i, y, z)) := by rw [← hW2]; exact (h.set1 hi y z hy64).grew (Grew.refl _).drew
  have hK : Kept (Mine hb mb (some rb)) w W2 := by
    rw [← hW2]
    exact (((hG.kept _).setCell (p := ⟨rb, i * 3 + 1, none⟩) (.inl (.inr (.inr rfl))) _).setCell (p := ⟨rb, i * 3 + 2, none⟩) (.inl (.inr (.inr rfl))) _).drew
  have hTwo : ∀ b, Two rb mb b → Mine hb mb (some rb) b ∨ w.heap.size ≤ b := fun k hk => by rcases hk with e | e; exact .inl (.inr (.inr (by rw [e]))); exact .inl (.inr (.inl e))
  have C2 := Lib.hid (settle_any g cb lt w (Mine hb mb (some rb)) hl hW hb rb mb cap _ i (by simpa using hi) hri W2 h2 hK hTwo)
  have HK : Hid (Kept (Mine hb mb (some rb)) w W2 ∧ ∀ b, Two rb mb b → Mine hb mb (some rb) b ∨ w.heap.size ≤ b) := ⟨hK, hTwo⟩
  have HW2 := Lib.hid hW2
  clear h h2 hri hl hW hy hK hTwo hG hW2 hrl hml
  generalize hR : R.set i (rid R i, y, z) = R1 at *
  have HR := Lib.hid hR
  clear hR
  generalize rid R i = id at *
  generalize (rky R i).1 = k at *
  generalize (rky R i).2 = k2 at *
  generalize R.length = n at *
  go_enter Try.func59, Try.ntmps59
  go_wp2_with (go_at_call 79; (try rw [hWe]); refine C1.out.mono ?_; rintro e w' ⟨rfl, hw'⟩; subst hw')
  go_region
  rw [HW2.out]
  clear c1 r1 r2 f1 x1 x2
  go_wp2_with (go_at_call 80; refine C2.out.mono ?_; rintro e w2 ⟨rfl, R', p1, p2, p3, p4⟩; have P := Lib.hid (And.intro p1 (And.intro p2 (And.intro p3 p4))); clear p1 p2 p3 p4)
  go_ret
  exact ⟨rfl, R', P.out.1, by rw [P.out.1.length_eq]; exact P.out.2.1, P.out.2.2.1, kept_then HK.out.1 P.out.2.2.2 HK.out.2⟩
end Go.Proofs.Ytcipilggddpnpaa.K
