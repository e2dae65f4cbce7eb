/-
  The reference's heap: Put, Change.
-/
import Derived.Test.YtcipilggddpnpaaRfC
namespace Go.Proofs.Ytcipilggddpnpaa
open Go.RowKit Go.Sort Go.Shelf Go.Maps
set_option linter.unusedVariables false
set_option linter.unusedSimpArgs false

theorem RefIs.grew {B : Nat} {w w' : World} {rf : Nat} {L : List Ent} (h : RefIs B w rf L) (g : Grew w w') : RefIs B w' rf L := by
  obtain ⟨a, cap, h1, h2⟩ := h
  exact ⟨a, cap, (g.block (Array.getElem?_eq_some_iff.1 h1).1).trans h1, own_kept h2 (fun k e => g.block (own_lt h2 k e))⟩
theorem RefIs.lt {B : Nat} {w : World} {rf : Nat} {L : List Ent} (h : RefIs B w rf L) : rf < w.heap.size := by
  obtain ⟨a, cap, h1, h2⟩ := h
  exact (Array.getElem?_eq_some_iff.1 h1).1

set_option maxHeartbeats 1000000 in
theorem refPut_neg (w : World) (rf : Nat) (x y : Int) (hx : x < 0) :
    Calls Try.prog 71 #[.pointer (some ⟨rf, 0, none⟩), .agg #[.int .i64 y, .int .i64 x]] w fun e w' => e = .returned (.int .i64 1) ∧ Grew w w' := by
  have h : decide (x < 0) = true := decide_eq_true hx
  have hG := Lib.hid ((Grew.refl w).alloc (.cells #[.int .i64 y, .int .i64 x] 37))
  go_enter Try.func71, Try.ntmps71
  go_wp2
  go_ret
  exact ⟨rfl, hG.out⟩

set_option maxHeartbeats 1000000 in
theorem refPut_there (B : Nat) (w : World) (rf : Nat) (L : List Ent) (hs : L.length ≤ 1099511627776) (h : RefIs B w rf L) (x y : Int) (hx : ¬ x < 0) (i : Nat) (hf : findR L x L.length 0 = (i : Int)) :
    Calls Try.prog 71 #[.pointer (some ⟨rf, 0, none⟩), .agg #[.int .i64 y, .int .i64 x]] w fun e w' => e = .returned (.int .i64 15) ∧ Grew w w' := by
  have h0 : decide (x < 0) = false := decide_eq_false hx
  have h1 : decide ((i : Int) ≥ 0) = true := decide_eq_true (by omega)
  have g := (Grew.refl w).alloc (.cells #[.int .i64 y, .int .i64 x] 37)
  have hG := Lib.hid g
  have C := Lib.hid (refAt_any B _ rf L hs (h.grew g) x)
  rw [hf] at C
  clear h g hf
  go_enter Try.func71, Try.ntmps71
  go_wp2_with (go_at_call 47; (with_reducible refine C.out.mono ?_); rintro e w' ⟨rfl, rfl⟩)
  go_ret
  exact ⟨rfl, hG.out⟩

set_option maxHeartbeats 1000000 in
theorem refPut_new (B : Nat) (w : World) (rf : Nat) (L : List Ent) (hs : L.length < 1099511627776) (hB : B ≤ w.heap.size) (h : RefIs B w rf L) (x y : Int) (hx : ¬ x < 0) (hf : findR L x L.length 0 = -1) :
    Calls Try.prog 71 #[.pointer (some ⟨rf, 0, none⟩), .agg #[.int .i64 y, .int .i64 x]] w fun e w' => e = .returned (.int .i64 0) ∧ RefIs B w' rf (layR (x, y) L) ∧ Kept (fun k => k = rf) w w' := by
  have h0 : decide (x < 0) = false := decide_eq_false hx
  obtain ⟨W0, hW0⟩ : ∃ W0, w.alloc (.cells #[.int .i64 y, .int .i64 x] 37) = W0 := ⟨_, rfl⟩
  have g : Grew w W0 := by rw [← hW0]; exact (Grew.refl w).alloc _
  have c0 : W0.cell? ⟨w.heap.size, 0, none⟩ = some (.int .i64 y) := by rw [← hW0]; simp [go_sem]
  have c1 : W0.cell? ⟨w.heap.size, 1, none⟩ = some (.int .i64 x) := by rw [← hW0]; simp [go_sem]
  have C := Lib.hid (refAt_any B _ rf L (by omega) (h.grew g) x)
  have C2 := Lib.hid (lay_any B W0 rf L hs (Nat.le_trans hB g.size) (h.grew g) x y)
  have KG := Lib.hid (g.kept (fun k => k = rf))
  rw [hf] at C
  clear h g hf
  go_enter Try.func71, Try.ntmps71
  go_wp2_with (first | (go_at_call 47; (try rw [hW0]); (with_reducible refine C.out.mono ?_); rintro e w' ⟨rfl, hw'⟩; subst hw') | (go_at_call 93; (with_reducible refine C2.out.mono ?_); rintro e w2 ⟨rfl, h2⟩; have H2 := Lib.hid h2; clear h2))
  go_ret
  exact ⟨rfl, H2.out.1, KG.out.trans H2.out.2⟩

set_option maxHeartbeats 1000000 in
theorem refChange_none (B : Nat) (w : World) (rf : Nat) (L : List Ent) (hs : L.length ≤ 1099511627776) (h : RefIs B w rf L) (x y : Int) (hf : findR L x L.length 0 = -1) :
    Calls Try.prog 72 #[.pointer (some ⟨rf, 0, none⟩), .agg #[.int .i64 y, .int .i64 x]] w fun e w' => e = .returned (.int .i64 14) ∧ Grew w w' := by
  have g := (Grew.refl w).alloc (.cells #[.int .i64 y, .int .i64 x] 37)
  have hG := Lib.hid g
  have C := Lib.hid (refDrop_none B _ rf L hs (h.grew g) x hf)
  clear h g hf
  go_enter Try.func72, Try.ntmps72
  go_wp2_with (go_at_call 49; (with_reducible refine C.out.mono ?_); rintro e w' ⟨rfl, rfl⟩)
  go_ret
  exact ⟨rfl, hG.out⟩

theorem Kept.sub {S : Nat → Prop} {a b c : World} (h : Kept S a b) (k : Kept S b c) : Kept S a c := h.trans k

set_option maxHeartbeats 1000000 in
theorem refChange_there (B : Nat) (w : World) (rf : Nat) (L : List Ent) (hs : L.length ≤ 1099511627776) (hB : B ≤ w.heap.size) (h : RefIs B w rf L) (x y : Int) (i : Nat) (hi : i < L.length) (hf : findR L x L.length 0 = (i : Int)) :
    Calls Try.prog 72 #[.pointer (some ⟨rf, 0, none⟩), .agg #[.int .i64 y, .int .i64 x]] w fun e w' => e = .returned (.int .i64 0) ∧ RefIs B w' rf (layR (x, y) (L.eraseIdx i)) ∧ Kept (fun k => k = rf) w w' := by
  obtain ⟨W0, hW0⟩ : ∃ W0, w.alloc (.cells #[.int .i64 y, .int .i64 x] 37) = W0 := ⟨_, rfl⟩
  have g : Grew w W0 := by rw [← hW0]; exact (Grew.refl w).alloc _
  have z0 : W0.heap.size = w.heap.size + 1 := by rw [← hW0]; simp
  have c0 : W0.cell? ⟨w.heap.size, 0, none⟩ = some (.int .i64 y) := by rw [← hW0]; simp [go_sem]
  have c1 : W0.cell? ⟨w.heap.size, 1, none⟩ = some (.int .i64 x) := by rw [← hW0]; simp [go_sem]
  have hrf := h.lt
  have C := Lib.hid (refDrop_there B W0 rf L hs (Nat.le_trans hB g.size) (h.grew g) x i hi hf)
  have hl : (L.eraseIdx i).length < 1099511627776 := by rw [List.length_eraseIdx, if_pos hi]; omega
  have C2 : Hid (∀ w1, RefIs B w1 rf (L.eraseIdx i) → Kept (fun k => k = rf) W0 w1 → (w1.cell? ⟨w.heap.size, 0, none⟩ = some (.int .i64 y) ∧ w1.cell? ⟨w.heap.size, 1, none⟩ = some (.int .i64 x)) ∧ Hid (Calls Try.prog 93 #[.pointer (some ⟨rf, 0, none⟩), .agg #[.int .i64 y, .int .i64 x]] w1 fun e w' => e = .returned (.tuple #[]) ∧ RefIs B w' rf (layR (x, y) (L.eraseIdx i)) ∧ Kept (fun k => k = rf) w w')) := fun w1 h1 k1 => by
    refine ⟨⟨by rw [k1.cell (by show w.heap.size < _; omega) (by show ¬ w.heap.size = rf; omega)]; exact c0, by rw [k1.cell (by show w.heap.size < _; omega) (by show ¬ w.heap.size = rf; omega)]; exact c1⟩, ?_⟩
    refine (lay_any B w1 rf (L.eraseIdx i) hl (by have := k1.size; omega) h1 x y).mono ?_
    rintro e w' ⟨rfl, p1, p2⟩
    exact ⟨rfl, p1, (g.kept _).trans (k1.trans p2)⟩
  generalize rky L i = old at *
  clear h g hf z0 hl hrf
  go_enter Try.func72, Try.ntmps72
  go_wp2_with (first | (go_at_call 49; (try rw [hW0]); (with_reducible refine C.out.mono ?_); rintro e w1 ⟨rfl, h1, k1⟩; have C3 := (C2.out w1 h1 k1).2; obtain ⟨e0, e1⟩ := (C2.out w1 h1 k1).1; clear h1 k1) | (go_at_call 93; (with_reducible refine C3.out.mono ?_); rintro e w2 ⟨rfl, h2⟩; have H2 := Lib.hid h2; clear h2))
  go_ret
  exact ⟨rfl, H2.out⟩
end Go.Proofs.Ytcipilggddpnpaa
