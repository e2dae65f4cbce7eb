/-
  Heap[api.Key]: how a heap lies in memory (its row of entries, its map of places), and what ahead answers.
-/
import Derived.Test.YtcipilggddpnpaaKhA
import Derived.Maps.OwnSet
import Derived.Deep.QuietTactic
import Derived.BigQuiet
namespace Go.Proofs.Ytcipilggddpnpaa.K
open Go.RowKit Go.Sort Go.Shelf
set_option linter.unusedVariables false

def rid (R : List Ent) (i : Nat) : Int := (R.getD i (0, 0, 0)).1
def rky (R : List Ent) (i : Nat) : Ky := (R.getD i (0, 0, 0)).2

/-- Block rb is a row of entries: R, and room for cap of them. -/
structure RowAt (w : World) (rb cap : Nat) (R : List Ent) : Prop where
  cells : ∃ cur, w.heap[rb]? = some (.cells cur 110 (0, 0)) ∧ cur.size = cap * 3 ∧ ∀ i, i < R.length → cur[i * 3]? = some (.int .i64 (rid R i)) ∧ cur[i * 3 + 1]? = some (.int .i64 (rky R i).1) ∧ cur[i * 3 + 2]? = some (.int .i64 (rky R i).2)
  len : R.length ≤ cap
  room : cap ≤ maxLen

theorem RowAt.kept {w w' : World} {rb cap : Nat} {R : List Ent} (h : RowAt w rb cap R) (hb : w'.heap[rb]? = w.heap[rb]?) : RowAt w' rb cap R := by
  obtain ⟨⟨cur, h1, h2⟩, h3, h4⟩ := h
  exact ⟨⟨cur, hb.trans h1, h2⟩, h3, h4⟩
theorem RowAt.lt {w : World} {rb cap : Nat} {R : List Ent} (h : RowAt w rb cap R) : rb < w.heap.size := by
  obtain ⟨⟨cur, h1, h2⟩, h3, h4⟩ := h
  exact (Array.getElem?_eq_some_iff.1 h1).1
theorem RowAt.cell0 {w : World} {rb cap : Nat} {R : List Ent} (h : RowAt w rb cap R) {i : Nat} (hi : i < R.length) : w.cell? ⟨rb, i * 3, none⟩ = some (.int .i64 (rid R i)) := by
  obtain ⟨⟨cur, h1, h2, h5⟩, h3, h4⟩ := h
  simp [World.cell?, h1, (h5 i hi).1]
theorem RowAt.cell1 {w : World} {rb cap : Nat} {R : List Ent} (h : RowAt w rb cap R) {i : Nat} (hi : i < R.length) : w.cell? ⟨rb, i * 3 + 1, none⟩ = some (.int .i64 (rky R i).1) := by
  obtain ⟨⟨cur, h1, h2, h5⟩, h3, h4⟩ := h
  simp [World.cell?, h1, (h5 i hi).2.1]
theorem RowAt.cell2 {w : World} {rb cap : Nat} {R : List Ent} (h : RowAt w rb cap R) {i : Nat} (hi : i < R.length) : w.cell? ⟨rb, i * 3 + 2, none⟩ = some (.int .i64 (rky R i).2) := by
  obtain ⟨⟨cur, h1, h2, h5⟩, h3, h4⟩ := h
  simp [World.cell?, h1, (h5 i hi).2.2]
theorem RowAt.thaw {w : World} {rb cap : Nat} {R : List Ent} (h : RowAt w rb cap R) (o : Nat) : w.frozen? ⟨rb, o, none⟩ = false := by
  obtain ⟨⟨cur, h1, h2, h5⟩, h3, h4⟩ := h
  simp [World.frozen?, h1]

/-- The heap's own block: its order, its row, its map. -/
structure Obj3 (w : World) (hb : Nat) (fv rv mv : Value) : Prop where
  cells : w.heap[hb]? = some (.cells #[fv, rv, mv] 106 (0, 0))

theorem Obj3.kept {w w' : World} {hb : Nat} {fv rv mv : Value} (h : Obj3 w hb fv rv mv) (he : w'.heap[hb]? = w.heap[hb]?) : Obj3 w' hb fv rv mv := ⟨he.trans h.1⟩
theorem Obj3.lt {w : World} {hb : Nat} {fv rv mv : Value} (h : Obj3 w hb fv rv mv) : hb < w.heap.size := (Array.getElem?_eq_some_iff.1 h.1).1
theorem Obj3.c0 {w : World} {hb : Nat} {fv rv mv : Value} (h : Obj3 w hb fv rv mv) : w.cell? ⟨hb, 0, none⟩ = some fv := by simp [World.cell?, h.1]
theorem Obj3.c1 {w : World} {hb : Nat} {fv rv mv : Value} (h : Obj3 w hb fv rv mv) : w.cell? ⟨hb, 1, none⟩ = some rv := by simp [World.cell?, h.1]
theorem Obj3.c2 {w : World} {hb : Nat} {fv rv mv : Value} (h : Obj3 w hb fv rv mv) : w.cell? ⟨hb, 2, none⟩ = some mv := by simp [World.cell?, h.1]
theorem Obj3.thaw {w : World} {hb : Nat} {fv rv mv : Value} (h : Obj3 w hb fv rv mv) (o : Nat) : w.frozen? ⟨hb, o, none⟩ = false := by simp [World.frozen?, h.1]
theorem Obj3.put {w : World} {hb : Nat} {fv rv mv : Value} (h : Obj3 w hb fv rv mv) (rv' : Value) : Obj3 (w.setCell ⟨hb, 1, none⟩ rv') hb fv rv' mv := by
  constructor
  simp [World.setCell, Array.getElem?_modify, h.1]

set_option maxHeartbeats 1000000 in
theorem ahead_any (g : Nat) (cb : Array Value) (lt : Ky → Ky → Bool) (w0 : World) (S : Nat → Prop) (hl : LessIs g cb lt w0 S) (hb rb cap : Nat) (mv : Value) (R : List Ent) (a b : Nat) (ha : a < R.length) (hbl : b < R.length) (w : World)
    (hO : Obj3 w hb (.func (.func g) #[] cb) (.slice (some ⟨rb, 0, none⟩) R.length cap) mv) (hR : RowAt w rb cap R) (hk : Kept S w0 w) :
    Calls Try.prog 115 #[.pointer (some ⟨hb, 0, none⟩), .int .i64 a, .int .i64 b] w fun e w' => e = .returned (.bool (ahd lt (R.getD a (0, 0, 0)) (R.getD b (0, 0, 0)))) ∧ Grew w w' := by
  have mixed : Try.prog.follows .mixedOrders = true := by kernel_rfl
  have c1 : ∀ n os, (grow (w.drewN n) os).cell? ⟨hb, 1, none⟩ = some (.slice (some ⟨rb, 0, none⟩) R.length cap) := fun n os => cell_grown hO.lt hO.c1 n os
  have ca0 : ∀ n os, (grow (w.drewN n) os).cell? ⟨rb, a * 3, none⟩ = some (.int .i64 (rid R a)) := fun n os => cell_grown hR.lt (hR.cell0 ha) n os
  have ca1 : ∀ n os, (grow (w.drewN n) os).cell? ⟨rb, a * 3 + 1, none⟩ = some (.int .i64 (rky R a).1) := fun n os => cell_grown hR.lt (hR.cell1 ha) n os
  have ca2 : ∀ n os, (grow (w.drewN n) os).cell? ⟨rb, a * 3 + 2, none⟩ = some (.int .i64 (rky R a).2) := fun n os => cell_grown hR.lt (hR.cell2 ha) n os
  have cb0 : ∀ n os, (grow (w.drewN n) os).cell? ⟨rb, b * 3, none⟩ = some (.int .i64 (rid R b)) := fun n os => cell_grown hR.lt (hR.cell0 hbl) n os
  have cb1 : ∀ n os, (grow (w.drewN n) os).cell? ⟨rb, b * 3 + 1, none⟩ = some (.int .i64 (rky R b).1) := fun n os => cell_grown hR.lt (hR.cell1 hbl) n os
  have cb2 : ∀ n os, (grow (w.drewN n) os).cell? ⟨rb, b * 3 + 2, none⟩ = some (.int .i64 (rky R b).2) := fun n os => cell_grown hR.lt (hR.cell2 hbl) n os
  have C : ∀ n os, Hid (Calls Try.prog 76 #[.pointer (some ⟨hb, 0, none⟩), .agg #[.int .i64 (rid R a), .int .i64 (rky R a).1, .int .i64 (rky R a).2], .agg #[.int .i64 (rid R b), .int .i64 (rky R b).1, .int .i64 (rky R b).2]] (grow (w.drewN n) os) fun e w' => e = .returned (.int .i64 (cmpE lt (R.getD a (0, 0, 0)) (R.getD b (0, 0, 0)))) ∧ ∃ q os', w' = grow ((grow (w.drewN n) os).drewN q) os') := fun n os =>
    compare_any g cb lt w0 S hl hb (R.getD a (0, 0, 0)) (R.getD b (0, 0, 0)) _ (by rw [size_grow]; exact Nat.lt_of_lt_of_le hO.lt (Nat.le_add_right _ _)) (cell_grown hO.lt hO.c0 n os) (hk.trans (Grew.kept ⟨n, os, rfl⟩ S))
  have hd : ahd lt (R.getD a (0, 0, 0)) (R.getD b (0, 0, 0)) = decide (cmpE lt (R.getD a (0, 0, 0)) (R.getD b (0, 0, 0)) < 0) := rfl
  rw [hd]
  clear hd
  generalize cmpE lt (R.getD a (0, 0, 0)) (R.getD b (0, 0, 0)) = z at *
  generalize rid R a = ia at *
  generalize (rky R a).1 = ka at *
  generalize (rky R a).2 = ka2 at *
  generalize rid R b = ib at *
  generalize (rky R b).1 = kb at *
  generalize (rky R b).2 = kb2 at *
  have ha' : (a : Int) < (R.length : Int) := by omega
  have hb' : (b : Int) < (R.length : Int) := by omega
  generalize R.length = n at *
  clear hO hR hl hk
  go_enter Try.func115, Try.ntmps115
  go_wp2_with fail
  go_quiet_grown (first | (go_at_call 76; refine Calls.grown_of (C _ _).out))
  go_wp2
  go_ret
  exact ⟨rfl, nq, osq, rfl⟩
end Go.Proofs.Ytcipilggddpnpaa.K
