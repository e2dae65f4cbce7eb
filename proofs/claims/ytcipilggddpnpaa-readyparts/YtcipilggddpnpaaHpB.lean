/-
  Heap[int]: how a heap lies in memory (its row of entries, its map of places), and what ahead answers.
-/
import Derived.Test.YtcipilggddpnpaaHpA
import Derived.Test.YtcipilggddpnpaaBase
import Derived.Maps.OwnSet
import Derived.Deep.QuietTactic
import Derived.BigQuiet
namespace Go.Proofs.Ytcipilggddpnpaa
open Go.RowKit Go.Sort Go.Shelf
set_option linter.unusedVariables false

/-- But for the blocks of S, and new ones, the world is as it was. -/
structure Kept (S : Nat → Prop) (w w' : World) : Prop where
  os : w'.os = w.os
  tape : w'.tape = w.tape
  output : w'.output = w.output
  size : w.heap.size ≤ w'.heap.size
  block : ∀ k, k < w.heap.size → ¬ S k → w'.heap[k]? = w.heap[k]?

theorem Kept.refl (S : Nat → Prop) (w : World) : Kept S w w := ⟨rfl, rfl, rfl, Nat.le_refl _, fun _ _ _ => rfl⟩
theorem Kept.trans {S : Nat → Prop} {a b c : World} (h : Kept S a b) (k : Kept S b c) : Kept S a c :=
  ⟨k.os.trans h.os, k.tape.trans h.tape, k.output.trans h.output, Nat.le_trans h.size k.size, fun i hi hs => (k.block i (Nat.lt_of_lt_of_le hi h.size) hs).trans (h.block i hi hs)⟩
theorem Kept.mono {S T : Nat → Prop} {a b : World} (h : Kept S a b) (hs : ∀ k, k < a.heap.size → S k → T k) : Kept T a b :=
  ⟨h.os, h.tape, h.output, h.size, fun k hk ht => h.block k hk (fun s => ht (hs k hk s))⟩
theorem Grew.kept {a b : World} (h : Grew a b) (S : Nat → Prop) : Kept S a b :=
  ⟨h.below.os, h.below.tape, h.below.output, h.below.size, fun k hk _ => h.block hk⟩
theorem Kept.cell {S : Nat → Prop} {a b : World} (h : Kept S a b) {p : Addr} (hp : p.block < a.heap.size) (hs : ¬ S p.block) : b.cell? p = a.cell? p := World.cell?_of_block (h.block _ hp hs)
theorem Kept.frozen {S : Nat → Prop} {a b : World} (h : Kept S a b) {p : Addr} (hp : p.block < a.heap.size) (hs : ¬ S p.block) : b.frozen? p = a.frozen? p := World.frozen?_of_block (h.block _ hp hs)
theorem Kept.setCell {S : Nat → Prop} {a b : World} (h : Kept S a b) {p : Addr} (hp : S p.block ∨ a.heap.size ≤ p.block) (u : Value) : Kept S a (b.setCell p u) :=
  ⟨h.os, h.tape, h.output, by simpa [World.setCell] using h.size, fun k hk hs => by
    rw [Below.heap_setCell _ _ _ _ (by rintro rfl; rcases hp with hp | hp; exact hs hp; omega)]; exact h.block k hk hs⟩
theorem Kept.alloc {S : Nat → Prop} {a b : World} (h : Kept S a b) (o : Obj) : Kept S a (b.alloc o) := h.trans (((Grew.refl b).alloc o).kept S)
theorem Kept.drew {S : Nat → Prop} {a b : World} (h : Kept S a b) : Kept S a b.drew := ⟨h.os, h.tape, h.output, h.size, h.block⟩
theorem Kept.grown {S : Nat → Prop} {a b c : World} {row : Option Nat} (h : Kept S a b) (hg : b.grownBy c row) (hr : ∀ k, row = some k → S k ∨ a.heap.size ≤ k) : Kept S a c :=
  ⟨hg.os.trans h.os, hg.tape.trans h.tape, hg.output.trans h.output, Nat.le_trans h.size hg.size, fun k hk hs => by
    rw [hg.block k (Nat.lt_of_lt_of_le hk h.size) (fun e => by rcases hr k e.symm with h1 | h1; exact hs h1; omega)]
    exact h.block k hk hs⟩
theorem Kept.below {S : Nat → Prop} {a b : World} {B : Nat} (h : Kept S a b) (hB : B ≤ a.heap.size) (hs : ∀ k, S k → B ≤ k) : Below B a b :=
  ⟨h.os, h.tape, h.output, h.size, fun k hk => h.block k (by omega) (fun s => by have := hs k s; omega)⟩

def rid (R : List Ent) (i : Nat) : Int := (R.getD i (0, 0)).1
def rky (R : List Ent) (i : Nat) : Int := (R.getD i (0, 0)).2

/-- Block rb is a row of entries: R, and room for cap of them. -/
structure RowAt (w : World) (rb cap : Nat) (R : List Ent) : Prop where
  cells : ∃ cur, w.heap[rb]? = some (.cells cur 74 (0, 0)) ∧ cur.size = cap * 2 ∧ ∀ i, i < R.length → cur[i * 2]? = some (.int .i64 (rid R i)) ∧ cur[i * 2 + 1]? = some (.int .i64 (rky R i))
  len : R.length ≤ cap
  room : cap ≤ maxLen

theorem RowAt.kept {w w' : World} {rb cap : Nat} {R : List Ent} (h : RowAt w rb cap R) (hb : w'.heap[rb]? = w.heap[rb]?) : RowAt w' rb cap R := by
  obtain ⟨⟨cur, h1, h2⟩, h3, h4⟩ := h
  exact ⟨⟨cur, hb.trans h1, h2⟩, h3, h4⟩
theorem RowAt.lt {w : World} {rb cap : Nat} {R : List Ent} (h : RowAt w rb cap R) : rb < w.heap.size := by
  obtain ⟨⟨cur, h1, h2⟩, h3, h4⟩ := h
  exact (Array.getElem?_eq_some_iff.1 h1).1
theorem RowAt.cell0 {w : World} {rb cap : Nat} {R : List Ent} (h : RowAt w rb cap R) {i : Nat} (hi : i < R.length) : w.cell? ⟨rb, i * 2, none⟩ = some (.int .i64 (rid R i)) := by
  obtain ⟨⟨cur, h1, h2, h5⟩, h3, h4⟩ := h
  simp [World.cell?, h1, (h5 i hi).1]
theorem RowAt.cell1 {w : World} {rb cap : Nat} {R : List Ent} (h : RowAt w rb cap R) {i : Nat} (hi : i < R.length) : w.cell? ⟨rb, i * 2 + 1, none⟩ = some (.int .i64 (rky R i)) := by
  obtain ⟨⟨cur, h1, h2, h5⟩, h3, h4⟩ := h
  simp [World.cell?, h1, (h5 i hi).2]
theorem RowAt.thaw {w : World} {rb cap : Nat} {R : List Ent} (h : RowAt w rb cap R) (o : Nat) : w.frozen? ⟨rb, o, none⟩ = false := by
  obtain ⟨⟨cur, h1, h2, h5⟩, h3, h4⟩ := h
  simp [World.frozen?, h1]

/-- The heap's own block: its order, its row, its map. -/
structure Obj3 (w : World) (hb : Nat) (fv rv mv : Value) : Prop where
  cells : w.heap[hb]? = some (.cells #[fv, rv, mv] 69 (0, 0))

theorem Obj3.kept {w w' : World} {hb : Nat} {fv rv mv : Value} (h : Obj3 w hb fv rv mv) (he : w'.heap[hb]? = w.heap[hb]?) : Obj3 w' hb fv rv mv := ⟨he.trans h.1⟩
theorem Obj3.lt {w : World} {hb : Nat} {fv rv mv : Value} (h : Obj3 w hb fv rv mv) : hb < w.heap.size := (Array.getElem?_eq_some_iff.1 h.1).1
theorem Obj3.c0 {w : World} {hb : Nat} {fv rv mv : Value} (h : Obj3 w hb fv rv mv) : w.cell? ⟨hb, 0, none⟩ = some fv := by simp [World.cell?, h.1]
theorem Obj3.c1 {w : World} {hb : Nat} {fv rv mv : Value} (h : Obj3 w hb fv rv mv) : w.cell? ⟨hb, 1, none⟩ = some rv := by simp [World.cell?, h.1]
theorem Obj3.c2 {w : World} {hb : Nat} {fv rv mv : Value} (h : Obj3 w hb fv rv mv) : w.cell? ⟨hb, 2, none⟩ = some mv := by simp [World.cell?, h.1]
theorem Obj3.thaw {w : World} {hb : Nat} {fv rv mv : Value} (h : Obj3 w hb fv rv mv) (o : Nat) : w.frozen? ⟨hb, o, none⟩ = false := by simp [World.frozen?, h.1]
theorem Obj3.put {w : World} {hb : Nat} {fv rv mv : Value} (h : Obj3 w hb fv rv mv) (rv' : Value) : Obj3 (w.setCell ⟨hb, 1, none⟩ rv') hb fv rv' mv := by
  constructor
  simp [World.setCell, Array.getElem?_modify, h.1]

set_option maxHeartbeats 1000000 in
theorem ahead_any (g : Nat) (cb : Array Value) (lt : Int → Int → Bool) (hl : LessIs g cb lt) (hb rb cap : Nat) (mv : Value) (R : List Ent) (a b : Nat) (ha : a < R.length) (hbl : b < R.length) (w : World)
    (hO : Obj3 w hb (.func (.func g) #[] cb) (.slice (some ⟨rb, 0, none⟩) R.length cap) mv) (hR : RowAt w rb cap R) :
    Calls Try.prog 61 #[.pointer (some ⟨hb, 0, none⟩), .int .i64 a, .int .i64 b] w fun e w' => e = .returned (.bool (ahd lt (R.getD a (0, 0)) (R.getD b (0, 0)))) ∧ Grew w w' := by
  have mixed : Try.prog.follows .mixedOrders = true := by kernel_rfl
  have c1 : ∀ n os, (grow (w.drewN n) os).cell? ⟨hb, 1, none⟩ = some (.slice (some ⟨rb, 0, none⟩) R.length cap) := fun n os => cell_grown hO.lt hO.c1 n os
  have ca0 : ∀ n os, (grow (w.drewN n) os).cell? ⟨rb, a * 2, none⟩ = some (.int .i64 (rid R a)) := fun n os => cell_grown hR.lt (hR.cell0 ha) n os
  have ca1 : ∀ n os, (grow (w.drewN n) os).cell? ⟨rb, a * 2 + 1, none⟩ = some (.int .i64 (rky R a)) := fun n os => cell_grown hR.lt (hR.cell1 ha) n os
  have cb0 : ∀ n os, (grow (w.drewN n) os).cell? ⟨rb, b * 2, none⟩ = some (.int .i64 (rid R b)) := fun n os => cell_grown hR.lt (hR.cell0 hbl) n os
  have cb1 : ∀ n os, (grow (w.drewN n) os).cell? ⟨rb, b * 2 + 1, none⟩ = some (.int .i64 (rky R b)) := fun n os => cell_grown hR.lt (hR.cell1 hbl) n os
  have C : ∀ n os, Hid (Calls Try.prog 40 #[.pointer (some ⟨hb, 0, none⟩), .agg #[.int .i64 (rid R a), .int .i64 (rky R a)], .agg #[.int .i64 (rid R b), .int .i64 (rky R b)]] (grow (w.drewN n) os) fun e w' => e = .returned (.int .i64 (cmpE lt (R.getD a (0, 0)) (R.getD b (0, 0)))) ∧ ∃ q os', w' = grow ((grow (w.drewN n) os).drewN q) os') := fun n os =>
    compare_any g cb lt hl hb (R.getD a (0, 0)) (R.getD b (0, 0)) _ (by rw [size_grow]; exact Nat.lt_of_lt_of_le hO.lt (Nat.le_add_right _ _)) (cell_grown hO.lt hO.c0 n os)
  have hd : ahd lt (R.getD a (0, 0)) (R.getD b (0, 0)) = decide (cmpE lt (R.getD a (0, 0)) (R.getD b (0, 0)) < 0) := rfl
  rw [hd]
  clear hd
  generalize cmpE lt (R.getD a (0, 0)) (R.getD b (0, 0)) = z at *
  generalize rid R a = ia at *
  generalize rky R a = ka at *
  generalize rid R b = ib at *
  generalize rky R b = kb at *
  have ha' : (a : Int) < (R.length : Int) := by omega
  have hb' : (b : Int) < (R.length : Int) := by omega
  generalize R.length = n at *
  clear hO hR hl
  go_enter Try.func61, Try.ntmps61
  go_wp2_with fail
  go_quiet_grown (first | (go_at_call 40; refine Calls.grown_of (C _ _).out))
  go_wp2
  go_ret
  exact ⟨rfl, nq, osq, rfl⟩
end Go.Proofs.Ytcipilggddpnpaa
