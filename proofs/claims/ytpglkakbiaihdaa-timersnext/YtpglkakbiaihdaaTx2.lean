/-
  Several texts as one.
-/
import Derived.Test.YtpglkakbiaihdaaRfD
import Derived.Test.YtpglkakbiaihdaaTx1
import Derived.Test.YtpglkakbiaihdaaKin
import Derived.BigQuiet
import Derived.Test.YtpglkakbiaihdaaQx1
import Derived.Deep.LoopGhost
import Derived.IntWalk
import Derived.Deep.QuietTactic
import Derived.Deep.Cut
import Derived.Test.YtpglkakbiaihdaaIsRow
import Derived.Test.YtpglkakbiaihdaaHpT
import Derived.Deep.RegionHeld3
/-
  The reference's row behind a Put or a Drop: as a list.
-/
namespace Go.Proofs.Ytpglkakbiaihdaa
open Go.RowKit Go.Sort
set_option linter.unusedVariables false
set_option linter.unusedSimpArgs false

theorem layR_perm (k : Ent) : ∀ L, (layR k L).Perm (k :: L)
  | [] => List.Perm.refl _
  | x :: r => by
    rw [layR]
    split
    · exact ((layR_perm k r).cons x).trans (List.Perm.swap _ _ _)
    · exact List.Perm.refl _
theorem layR_sorted (k : Ent) : ∀ {L}, Sorted L → (∀ x ∈ L, x.1 ≠ k.1) → Sorted (layR k L)
  | [], _, _ => List.pairwise_singleton _ _
  | x :: r, h, hd => by
    rw [layR]
    have h1 := List.pairwise_cons.1 h
    split
    next ha =>
      refine List.pairwise_cons.2 ⟨fun z hz => ?_, layR_sorted k h1.2 (fun z hz => hd z (List.mem_cons_of_mem _ hz))⟩
      rcases List.mem_cons.1 ((layR_perm k r).mem_iff.1 hz) with rfl | hz
      · exact ha
      · exact h1.1 z hz
    next ha =>
      have hkx : ah k x = true := by
        rcases ah_total (hd x (by simp)) with e | e
        · exact absurd e ha
        · exact e
      refine List.pairwise_cons.2 ⟨fun z hz => ?_, h⟩
      rcases List.mem_cons.1 hz with rfl | hz
      · exact hkx
      · exact ah_weak.tr hkx (h1.1 z hz)
theorem layR_diff (k : Ent) {L : List Ent} (h : Diff L) (hd : ∀ x ∈ L, x.1 ≠ k.1) : Diff (layR k L) :=
  ((layR_perm k L).pairwise_iff (R := fun a b : Ent => a.1 ≠ b.1) (fun {a b} (h : a.1 ≠ b.1) => h.symm)).2 (List.pairwise_cons.2 ⟨fun x hx => (hd x hx).symm, h⟩)
theorem layR_len (k : Ent) (L : List Ent) : (layR k L).length = L.length + 1 := by rw [(layR_perm k L).length_eq]; rfl
theorem erase_perm : ∀ {L : List Ent} {i : Nat}, i < L.length → (L.getD i (0, 0) :: L.eraseIdx i).Perm L
  | x :: r, 0, _ => List.Perm.refl _
  | x :: r, i + 1, h => by
    simp only [List.eraseIdx_cons_succ, List.getD_cons_succ]
    exact (List.Perm.swap _ _ _).trans ((erase_perm (L := r) (by simpa using h)).cons x)
theorem erase_is {L : List Ent} {i : Nat} (hi : i < L.length) : (L.erase (L.getD i (0, 0))).Perm (L.eraseIdx i) :=
  List.Perm.cons_inv ((List.perm_cons_erase (mem_getD hi)).symm.trans (erase_perm hi).symm)
theorem erase_ids {L : List Ent} (h : Diff L) {i : Nat} (hi : i < L.length) : ∀ x ∈ L.eraseIdx i, x.1 ≠ rid L i := by
  have h1 : Diff (L.getD i (0, 0) :: L.eraseIdx i) := ((erase_perm hi).pairwise_iff (R := fun a b : Ent => a.1 ≠ b.1) (fun {a b} (h : a.1 ≠ b.1) => h.symm)).2 h
  intro x hx e
  exact (List.pairwise_cons.1 h1).1 x hx e.symm

end Go.Proofs.Ytpglkakbiaihdaa

/-
  The reference's timers: what they are in memory; its Time, Drop, Arm.
-/
namespace Go.Proofs.Ytpglkakbiaihdaa
open Go.RowKit Go.Shelf Go.Maps
set_option linter.unusedVariables false
set_option linter.unusedSimpArgs false

theorem rtime_any (t : Int) (w : World) :
    Calls Try.prog 96 #[.int .i64 t] w fun e w' => e = .returned (.int .i64 (timeE t)) ∧ w = w' := by
  by_cases h : t < 0
  · rw [timeE_neg h]
    go_enter Try.func96, Try.ntmps96
    go_wp2
    go_ret
    exact ⟨rfl, rfl⟩
  by_cases h1 : 1099511627776 ≤ t
  · rw [timeE_far h1]
    go_enter Try.func96, Try.ntmps96
    go_wp2
    go_ret
    exact ⟨rfl, rfl⟩
  · rw [timeE_ok (by omega) (by omega)]
    go_enter Try.func96, Try.ntmps96
    go_wp2
    go_ret
    exact ⟨rfl, rfl⟩

/-- Is a number there? -/
def has (S : List Ent) (id : Int) : Bool := S.any (fun y => y.1 == id)
theorem has_yes {S : List Ent} {id : Int} : has S id = true ↔ ∃ y ∈ S, y.1 = id := by
  unfold has
  rw [List.any_eq_true]
  simp
theorem has_no {S : List Ent} {id : Int} : has S id = false ↔ ∀ y ∈ S, y.1 ≠ id := by
  unfold has
  rw [List.any_eq_false]
  simp
/-- All but one. -/
abbrev but (S : List Ent) (id : Int) : List Ent := S.filter (fun y => y.1 != id)
theorem but_at : ∀ {S : List Ent} {i : Nat}, Diff S → i < S.length → S.eraseIdx i = but S (rid S i)
  | [], i, _, h => absurd h (Nat.not_lt_zero _)
  | x :: r, 0, hd, _ => by
    obtain ⟨h1, _⟩ := List.pairwise_cons.1 hd
    show r = List.filter (fun y => y.1 != x.1) (x :: r)
    rw [List.filter_cons_of_neg (by simp), filter_all (fun y hy => (h1 y hy).symm)]
  | x :: r, i + 1, hd, h => by
    obtain ⟨h1, h2⟩ := List.pairwise_cons.1 hd
    have hi : i < r.length := by simpa using h
    have hne : x.1 ≠ rid r i := h1 _ (mem_getD hi)
    show x :: r.eraseIdx i = List.filter (fun y => y.1 != rid r i) (x :: r)
    rw [List.filter_cons_of_pos (by simpa using hne), but_at h2 hi]
theorem find_any {S : List Ent} (hd : Diff S) (id : Int) : (has S id = true ∧ ∃ i, i < S.length ∧ rid S i = id ∧ findR S id S.length 0 = (i : Int)) ∨ (has S id = false ∧ findR S id S.length 0 = -1) := by
  by_cases h : ∃ y ∈ S, y.1 = id
  · refine .inl ⟨has_yes.2 h, ?_⟩
    obtain ⟨y, hy, rfl⟩ := h
    obtain ⟨i, hi, e⟩ := List.getElem_of_mem hy
    have er : rid S i = y.1 := by
      unfold rid
      rw [List.getD_eq_getElem?_getD, List.getElem?_eq_getElem hi, ← e]; rfl
    exact ⟨i, hi, er, er ▸ hd.find hi⟩
  · have hn : ∀ y ∈ S, y.1 ≠ id := fun y hy e => h ⟨y, hy, e⟩
    exact .inr ⟨has_no.2 hn, findR_no hn⟩

theorem rdrop_any (B : Nat) (w : World) (rf : Nat) (S : List Ent) (hs : S.length ≤ 1099511627776) (hB : B ≤ w.heap.size) (h : RefIs B w rf S) (hd : Diff S) (id : Int) :
    Calls Try.prog 67 #[.pointer (some ⟨rf, 0, none⟩), .int .i64 id] w fun e w' => (∃ k, e = .returned (.tuple #[.int .i64 k, .int .i64 (if has S id then 0 else 14)])) ∧ RefIs B w' rf (but S id) ∧ Kept (fun k => k = rf) w w' := by
  rcases find_any hd id with ⟨h1, i, hi, hr, hf⟩ | ⟨h1, hf⟩
  · rw [h1]
    refine (refDrop_there B w rf S hs hB h id i hi hf).mono ?_
    rintro e w' ⟨rfl, h2, h3⟩
    rw [but_at hd hi, hr] at h2
    exact ⟨⟨_, rfl⟩, h2, h3⟩
  · rw [h1]
    refine (refDrop_none B w rf S hs h id hf).mono ?_
    rintro e w' ⟨rfl, rfl⟩
    rw [but, filter_all (has_no.1 h1)]
    exact ⟨⟨_, rfl⟩, h, Kept.refl _ _⟩

/-- The reference's timers at rq, over its heap at rh. -/
structure Rq (B : Nat) (W : World) (rq rh : Nat) (m n o : Int) (S : List Ent) : Prop where
  obj : W.heap[rq]? = some (.cells #[.int .i64 m, .pointer (some ⟨rh, 0, none⟩), .int .i64 n, .int .i64 o] 125 (0, 0))
  ref : RefIs B W rh S
  base : B ≤ rq
theorem Rq.lt {B : Nat} {W : World} {rq rh : Nat} {m n o : Int} {S : List Ent} (h : Rq B W rq rh m n o S) : rq < W.heap.size := (Array.getElem?_eq_some_iff.1 h.obj).1
theorem Rq.cells {B : Nat} {W : World} {rq rh : Nat} {m n o : Int} {S : List Ent} (h : Rq B W rq rh m n o S) : W.cell? ⟨rq, 0, none⟩ = some (.int .i64 m) ∧ W.cell? ⟨rq, 1, none⟩ = some (.pointer (some ⟨rh, 0, none⟩)) ∧ W.cell? ⟨rq, 2, none⟩ = some (.int .i64 n) ∧ W.cell? ⟨rq, 3, none⟩ = some (.int .i64 o) := by
  refine ⟨?_, ?_, ?_, ?_⟩ <;> simp [World.cell?, h.obj]
theorem Rq.thaw {B : Nat} {W : World} {rq rh : Nat} {m n o : Int} {S : List Ent} (h : Rq B W rq rh m n o S) : W.frozen? ⟨rq, 2, none⟩ = false ∧ W.frozen? ⟨rq, 3, none⟩ = false := by
  refine ⟨?_, ?_⟩ <;> simp [World.frozen?, h.obj]
theorem Rq.ne {B : Nat} {W : World} {rq rh : Nat} {m n o : Int} {S : List Ent} (h : Rq B W rq rh m n o S) : rq ≠ rh := by
  rintro rfl
  obtain ⟨a, cap, h1, _⟩ := h.ref
  rw [h.obj] at h1
  simp at h1
theorem RefIs.lies {B : Nat} {w w' : World} {rf : Nat} {L : List Ent} (h : RefIs B w rf L) (b : Below w.heap.size w w') : RefIs B w' rf L := by
  obtain ⟨a, cap, h1, h2⟩ := h
  exact ⟨a, cap, (b.block rf (Array.getElem?_eq_some_iff.1 h1).1).trans h1, own_kept h2 (fun g e => b.block g (own_lt h2 g e))⟩
theorem Rq.lies {B : Nat} {W W' : World} {rq rh : Nat} {m n o : Int} {S : List Ent} (h : Rq B W rq rh m n o S) (b : Below W.heap.size W W') : Rq B W' rq rh m n o S :=
  ⟨(b.block rq h.lt).trans h.obj, h.ref.lies b, h.base⟩
/-- Behind a call of its heap. -/
theorem Rq.turn {B : Nat} {W W' : World} {rq rh : Nat} {m n o : Int} {S S' : List Ent} (h : Rq B W rq rh m n o S) (r : RefIs B W' rh S') (k : Kept (fun k => k = rh) W W') : Rq B W' rq rh m n o S' :=
  ⟨(k.block rq h.lt (fun e => h.ne e)).trans h.obj, r, h.base⟩

/-- What an Arm answers. -/
def armR (m : Int) (S : List Ent) (x : Ent) : Int := if x.1 < 0 then 1 else if timeE x.2 ≠ 0 then timeE x.2 else if has S x.1 = false ∧ m ≤ (S.length : Int) then 13 else 0
/-- What is armed behind it, in order. -/
def armT (m : Int) (S : List Ent) (x : Ent) : List Ent := if armR m S x = 0 then layR x (but S x.1) else S

theorem but_len (S : List Ent) (id : Int) : (but S id).length ≤ S.length := List.length_filter_le _ _
theorem diff_but {S : List Ent} (h : Diff S) (id : Int) : Diff (but S id) := h.filter _

set_option maxHeartbeats 2000000 in
set_option maxRecDepth 20000 in
/-- .. where nothing is wrong with the number, and the time. -/
theorem rarm_on {B : Nat} {w : World} {rq rh : Nat} {m n o : Int} {S : List Ent} (h : Rq B w rq rh m n o S) (hd : Diff S) (hl : S.length < 1099511627776) (hB : B ≤ w.heap.size) (id at_ : Int) (hid : 0 ≤ id) (hat : timeE at_ = 0) (hroom : ¬ (has S id = false ∧ m ≤ (S.length : Int))) :
    Calls Try.prog 79 #[.pointer (some ⟨rq, 0, none⟩), .int .i64 id, .int .i64 at_] w fun E w' => E = .returned (.int .i64 0) ∧ RefIs B w' rh (layR (id, at_) (but S id)) ∧ Kept (fun k => k = rh) w w' := by
  have CT : ∀ W, Hid (Calls Try.prog 96 #[.int .i64 at_] W fun e w' => e = .returned (.int .i64 0) ∧ W = w') := fun W => by
    have := rtime_any at_ W
    rw [hat] at this
    exact this
  obtain ⟨r, hr⟩ : ∃ r, findR S id S.length 0 = r := ⟨_, rfl⟩
  have CA : ∀ q' : LiesB w, Hid (Calls Try.prog 65 #[.pointer (some ⟨rh, 0, none⟩), .int .i64 id] q'.v fun E w' => E = .returned (.int .i64 r) ∧ LyingB w w') := fun q' =>
    (hr ▸ refAt_any B q'.v rh S (by omega) (h.ref.lies q'.h) id).mono fun _ w' ⟨he, hw⟩ => ⟨he, q', hw⟩
  have CD : Hid (∀ W, Below w.heap.size w W → Calls Try.prog 67 #[.pointer (some ⟨rh, 0, none⟩), .int .i64 id] W fun e w' => (∃ k c, e = .returned (.tuple #[.int .i64 k, .int .i64 c])) ∧ Hid (RefIs B w' rh (but S id) ∧ Kept (fun k => k = rh) w w')) := fun W b =>
    (rdrop_any B W rh S (by omega) (Nat.le_trans hB b.size) (h.ref.lies b) hd id).mono fun e w' ⟨⟨k, he⟩, h2, h3⟩ => ⟨⟨k, _, he⟩, h2, (kept_lies b).trans h3⟩
  have CP : Hid (∀ W, Hid (RefIs B W rh (but S id) ∧ Kept (fun k => k = rh) w W) → Calls Try.prog 97 #[.pointer (some ⟨rh, 0, none⟩), .agg #[.int .i64 at_, .int .i64 id]] W fun e w' => e = .returned (.int .i64 0) ∧ Hid (RefIs B w' rh (layR (id, at_) (but S id)) ∧ Kept (fun k => k = rh) w w')) := fun W hW =>
    (refPut_new B W rh (but S id) (by have := but_len S id; omega) (Nat.le_trans hB hW.out.2.size) hW.out.1 id at_ (by omega) (findR_no (fun x hx => by simpa using (List.mem_filter.1 hx).2))).mono fun e w' ⟨he, h2, h3⟩ => ⟨he, h2, hW.out.2.trans h3⟩
  have RC : Hid (∀ W, Below w.heap.size w W → W.cell? ⟨rq, 1, none⟩ = some (.pointer (some ⟨rh, 0, none⟩))) := fun W b => (h.lies b).cells.2.1
  have RK : Hid (∀ W, Kept (fun k => k = rh) w W → W.cell? ⟨rq, 1, none⟩ = some (.pointer (some ⟨rh, 0, none⟩))) := fun W k => by
    have e := (k.block rq h.lt (fun e => h.ne e)).trans h.obj
    simp [World.cell?, e]
  have h0 : decide (id < 0) = false := decide_eq_false (by omega)
  have HL : Hid (∃ a cap, ∀ q : LiesB w, q.v.cell? ⟨rh, 0, none⟩ = some (.slice a S.length cap)) := by
    obtain ⟨a, cap, h1, h2⟩ := h.ref
    exact ⟨a, cap, fun q => by have e := (q.h.block rh (Array.getElem?_eq_some_iff.1 h1).1).trans h1; simp [World.cell?, e]⟩
  have f0 := fun q : LiesB w => (h.lies q.h).cells.1
  have f1 := fun q : LiesB w => (h.lies q.h).cells.2.1
  obtain ⟨c0, c1, c2, c3⟩ := h.cells
  obtain ⟨a, cap, f2⟩ := HL.out
  have F2 := Lib.hid f2
  have hroom' : (decide (r < 0) = false) ∨ (decide (r < 0) = true ∧ decide ((S.length : Int) ≥ m) = false ∧ decide (m ≤ (S.length : Int)) = false) := by
    rcases find_any hd id with ⟨h1, i, hi, hrr, hf⟩ | ⟨h1, hf⟩
    · exact .inl (decide_eq_false (by omega))
    · have hm : ¬ m ≤ (S.length : Int) := fun e => hroom ⟨h1, e⟩
      exact .inr ⟨decide_eq_true (by omega), decide_eq_false (by omega), decide_eq_false (by omega)⟩
  clear h hd hr hroom hat hB hl
  generalize S.length = len at *
  generalize but S id = S2 at *
  generalize layR (id, at_) S2 = S3 at *
  go_enter Try.func79, Try.ntmps79
  go_wp2_with fail
  refine (CT _).out.mono ?_
  rintro E w1 ⟨rfl, rfl⟩
  haveI hin : Inhabited (LiesB w) := ⟨⟨w, Below.refl _ _⟩⟩
  rcases hroom' with g1 | ⟨g1, g2, g3⟩
  · go_wp2_with fail
    refine region_lies mixedT (by kernel_rfl) ?_
    repeat (go_big_quiet_step (first | (go_at_call 65; (with_reducible exact (CA _).out))))
    refine wpQuiet_nil ?_
    rintro _ ⟨q6, rfl⟩
    have c1 := RC.out _ q6.h
    clear f0 f1 f2 c0 c2 c3 hin CA
    go_wp2_with fail
    refine (CD.out _ q6.h).mono ?_
    rintro E w2 ⟨⟨k, c, rfl⟩, h2⟩
    have c1 := RK.out _ h2.out.2
    go_wp2_with fail
    refine (CP.out _ h2).mono ?_
    rintro E w3 ⟨rfl, h3⟩
    go_wp2
    go_ret
    exact ⟨rfl, h3.out⟩
  · go_wp2_with fail
    refine region_lies mixedT (by kernel_rfl) ?_
    repeat (go_big_quiet_step (first | (go_at_call 65; (with_reducible exact (CA _).out))))
    refine wpQuiet_nil ?_
    rintro _ ⟨q6, rfl⟩
    have c1 := RC.out _ q6.h
    clear f0 f1 f2 c0 c2 c3 hin CA
    go_wp2_with fail
    refine (CD.out _ q6.h).mono ?_
    rintro E w2 ⟨⟨k, c, rfl⟩, h2⟩
    have c1 := RK.out _ h2.out.2
    go_wp2_with fail
    refine (CP.out _ h2).mono ?_
    rintro E w3 ⟨rfl, h3⟩
    go_wp2
    go_ret
    exact ⟨rfl, h3.out⟩
end Go.Proofs.Ytpglkakbiaihdaa

/-
  The reference's timers: Arm as one contract; Until and Due.
-/
namespace Go.Proofs.Ytpglkakbiaihdaa
open Go.RowKit Go.Shelf Go.Maps
set_option linter.unusedVariables false
set_option linter.unusedSimpArgs false

set_option maxHeartbeats 1000000 in
theorem rarm_neg {w : World} {rq : Nat} (id at_ : Int) (hid : id < 0) :
    Calls Try.prog 79 #[.pointer (some ⟨rq, 0, none⟩), .int .i64 id, .int .i64 at_] w fun E w' => E = .returned (.int .i64 1) ∧ w = w' := by
  have h0 : decide (id < 0) = true := decide_eq_true hid
  go_enter Try.func79, Try.ntmps79
  go_wp2
  go_ret
  exact ⟨rfl, rfl⟩
set_option maxHeartbeats 1000000 in
theorem rarm_bad {w : World} {rq : Nat} (id at_ : Int) (hid : 0 ≤ id) (hat : timeE at_ ≠ 0) :
    Calls Try.prog 79 #[.pointer (some ⟨rq, 0, none⟩), .int .i64 id, .int .i64 at_] w fun E w' => E = .returned (.int .i64 (timeE at_)) ∧ w = w' := by
  have C1 : ∀ W, Hid (Calls Try.prog 96 #[.int .i64 at_] W fun E w' => E = .returned (.int .i64 (timeE at_)) ∧ W = w') := fun W => rtime_any at_ W
  have h0 : decide (id < 0) = false := decide_eq_false (by omega)
  have h1 : (timeE at_ != 0) = true := by simpa using hat
  clear hat
  generalize timeE at_ = r at *
  go_enter Try.func79, Try.ntmps79
  go_wp2_with fail
  refine (C1 _).out.mono ?_
  rintro E w1 ⟨rfl, rfl⟩
  go_wp2
  go_ret
  exact ⟨rfl, rfl⟩
set_option maxHeartbeats 2000000 in
set_option maxRecDepth 20000 in
theorem rarm_full {B : Nat} {w : World} {rq rh : Nat} {m n o : Int} {S : List Ent} (h : Rq B w rq rh m n o S) (hd : Diff S) (hl : S.length < 1099511627776) (id at_ : Int) (hid : 0 ≤ id) (hat : timeE at_ = 0) (h1 : has S id = false) (h2 : m ≤ (S.length : Int)) :
    Calls Try.prog 79 #[.pointer (some ⟨rq, 0, none⟩), .int .i64 id, .int .i64 at_] w fun E w' => E = .returned (.int .i64 13) ∧ Below w.heap.size w w' := by
  have CT : ∀ W, Hid (Calls Try.prog 96 #[.int .i64 at_] W fun e w' => e = .returned (.int .i64 0) ∧ W = w') := fun W => by
    have := rtime_any at_ W
    rw [hat] at this
    exact this
  have hf : findR S id S.length 0 = -1 := findR_no (has_no.1 h1)
  have CA : ∀ q' : LiesB w, Hid (Calls Try.prog 65 #[.pointer (some ⟨rh, 0, none⟩), .int .i64 id] q'.v fun E w' => E = .returned (.int .i64 (-1)) ∧ LyingB w w') := fun q' =>
    (hf ▸ refAt_any B q'.v rh S (by omega) (h.ref.lies q'.h) id).mono fun _ w' ⟨he, hw⟩ => ⟨he, q', hw⟩
  have h0 : decide (id < 0) = false := decide_eq_false (by omega)
  have g1 : decide ((-1 : Int) < 0) = true := rfl
  have g2 : decide ((S.length : Int) ≥ m) = true := decide_eq_true h2
  have g3 : decide (m ≤ (S.length : Int)) = true := decide_eq_true h2
  have HL : Hid (∃ a cap, ∀ q : LiesB w, q.v.cell? ⟨rh, 0, none⟩ = some (.slice a S.length cap)) := by
    obtain ⟨a, cap, h1, h2⟩ := h.ref
    exact ⟨a, cap, fun q => by have e := (q.h.block rh (Array.getElem?_eq_some_iff.1 h1).1).trans h1; simp [World.cell?, e]⟩
  have f0 := fun q : LiesB w => (h.lies q.h).cells.1
  have f1 := fun q : LiesB w => (h.lies q.h).cells.2.1
  obtain ⟨a, cap, f2⟩ := HL.out
  clear h hd hat hf h1 h2 hl HL
  generalize S.length = len at *
  go_enter Try.func79, Try.ntmps79
  go_wp2_with fail
  refine (CT _).out.mono ?_
  rintro E w1 ⟨rfl, rfl⟩
  haveI hin : Inhabited (LiesB w) := ⟨⟨w, Below.refl _ _⟩⟩
  go_wp2_with fail
  refine region_lies mixedT (by kernel_rfl) ?_
  repeat (go_big_quiet_step (first | (go_at_call 65; (with_reducible exact (CA _).out))))
  refine wpQuiet_nil ?_
  rintro _ ⟨q6, rfl⟩
  clear f0 f1 f2 hin CA
  go_wp2
  go_ret
  exact ⟨rfl, q6.h⟩

theorem rarm_any {B : Nat} {w : World} {rq rh : Nat} {m n o : Int} {S : List Ent} (h : Rq B w rq rh m n o S) (hd : Diff S) (hl : S.length < 1099511627776) (hB : B ≤ w.heap.size) (x : Ent) :
    Calls Try.prog 79 #[.pointer (some ⟨rq, 0, none⟩), .int .i64 x.1, .int .i64 x.2] w fun E w' => E = .returned (.int .i64 (armR m S x)) ∧ Rq B w' rq rh m n o (armT m S x) ∧ Kept (fun k => k = rh) w w' := by
  by_cases hid : x.1 < 0
  · have e : armR m S x = 1 := if_pos hid
    have t : armT m S x = S := if_neg (by rw [e]; decide)
    rw [e, t]
    exact (rarm_neg x.1 x.2 hid).mono fun E w' ⟨he, hw⟩ => ⟨he, hw ▸ h, hw ▸ Kept.refl _ _⟩
  by_cases hat : timeE x.2 = 0
  · by_cases hf : has S x.1 = false ∧ m ≤ (S.length : Int)
    · have e : armR m S x = 13 := by unfold armR; rw [if_neg hid, if_neg (by simp [hat]), if_pos hf]
      have t : armT m S x = S := if_neg (by rw [e]; decide)
      rw [e, t]
      exact (rarm_full h hd hl x.1 x.2 (by omega) hat hf.1 hf.2).mono fun E w' ⟨he, hw⟩ => ⟨he, h.lies hw, kept_lies hw⟩
    · have e : armR m S x = 0 := by unfold armR; rw [if_neg hid, if_neg (by simp [hat]), if_neg hf]
      have t : armT m S x = layR x (but S x.1) := if_pos e
      rw [e, t]
      exact (rarm_on h hd hl hB x.1 x.2 (by omega) hat hf).mono fun E w' ⟨he, h2, h3⟩ => ⟨he, h.turn h2 h3, h3⟩
  · have e : armR m S x = timeE x.2 := by unfold armR; rw [if_neg hid, if_pos hat]
    have t : armT m S x = S := if_neg (by rw [e]; exact hat)
    rw [e, t]
    exact (rarm_bad x.1 x.2 (by omega) hat).mono fun E w' ⟨he, hw⟩ => ⟨he, hw ▸ h, hw ▸ Kept.refl _ _⟩

/-- What a slice of the reference's row holds. -/
def SliceOf (w : World) (v : Value) (n : Nat) (S : List Ent) : Prop := ∃ a cap, v = .slice a n cap ∧ n ≤ S.length ∧ ((a = none ∧ n = 0 ∧ cap = 0) ∨ ∃ g, a = some ⟨g, 0, none⟩ ∧ ∀ j u, (flatR S)[j]? = some u → w.cell? ⟨g, j, none⟩ = some u)

set_option maxHeartbeats 2000000 in
set_option maxRecDepth 20000 in
theorem runtil_any {B : Nat} {w : World} {rh : Nat} {S : List Ent} (h : RefIs B w rh S) (hl : S.length < 1099511627776) (t : Int) :
    Calls Try.prog 30 #[.pointer (some ⟨rh, 0, none⟩), .int .i64 t] w fun E w' => ∃ v, E = .returned v ∧ SliceOf w v (untilN t S) S ∧ w = w' := by
  obtain ⟨a, cap, h1, h2⟩ := h
  have hc : w.cell? ⟨rh, 0, none⟩ = some (.slice a S.length cap) := by simp [World.cell?, h1]
  have hN := untilN_le t S
  have LT := Lib.hid (untilN_lt t S)
  have AT := Lib.hid (untilN_at t S)
  have HR : Hid (S.length ≤ cap ∧ ∀ i, i < S.length → ∃ g, a = some ⟨g, 0, none⟩ ∧ w.cell? ⟨g, i * 2, none⟩ = some (.int .i64 (S.getD i (0, 0)).2)) := by
    refine ⟨?_, fun i hi => ?_⟩
    · rcases h2.2 with ⟨e, hn⟩ | ⟨g, c, cur, e, _, h3, h4, h5, h6, h7⟩
      · omega
      · simp only [Value.slice.injEq] at e
        omega
    · obtain ⟨a', cap', e, hh⟩ := RefIs.at (⟨a, cap, h1, h2⟩ : RefIs B w rh S)
      rw [hc] at e
      cases e
      obtain ⟨g, e, k1, _⟩ := hh i hi
      exact ⟨g, e, k1⟩
  have HS : Hid (∀ n, n ≤ S.length → SliceOf w (.slice a n cap) n S) := fun n hn => by
    refine ⟨a, cap, rfl, hn, ?_⟩
    rcases h2.2 with ⟨e, h0⟩ | ⟨g, c, cur, e, _, h3, h4, h5, h6, h7⟩
    · simp only [Value.slice.injEq] at e
      obtain ⟨rfl, _, rfl⟩ := e
      exact .inl ⟨rfl, by omega, rfl⟩
    · simp only [Value.slice.injEq] at e
      obtain ⟨rfl, _, rfl⟩ := e
      refine .inr ⟨g, rfl, fun j u hj => ?_⟩
      have hlt : j < S.length * 2 := by rw [← len_flatR]; exact (List.getElem?_eq_some_iff.1 hj).1
      have := h2.cellAt j (by omega)
      rw [this]; exact hj
  clear h1 h2
  obtain ⟨len, hlen⟩ : ∃ len, S.length = len := ⟨_, rfl⟩
  obtain ⟨N, hNN⟩ : ∃ N, untilN t S = N := ⟨_, rfl⟩
  rw [hNN] at hN LT AT ⊢
  rw [hlen] at hN AT HR HS hc hl
  clear hlen hNN
  go_enter Try.func30, Try.ntmps30
  go_wp2_with fail
  go_loopg [5] N (fun gk s5 wr => ∃ i : Nat, s5 = .int .i64 i ∧ i ≤ N ∧ N - i ≤ gk ∧ wr = w)
  case atStart => exact ⟨0, rfl, Nat.zero_le _, Nat.le_refl _, rfl⟩
  case round =>
    obtain ⟨i, rfl, hi, hgk, rfl⟩ := hrel
    by_cases hlen : i < len
    · have t1 : decide ((i : Int) < (len : Int)) = true := decide_eq_true (by omega)
      have t2 : decide (i < len) = true := decide_eq_true hlen
      have t3 : (i : Int) < (len : Int) := by omega
      obtain ⟨g, rfl, c1⟩ := HR.out.2 i hlen
      by_cases hiN : i < N
      · have h3 := LT.out i hiN
        generalize (S.getD i (0, 0)).2 = tm at *
        have t4 : decide (tm ≤ t) = true := decide_eq_true h3
        clear h3
        go_wp2
        go_roundg (N - (i + 1))
        case measure => omega
        case rel => exact ⟨i + 1, by go_num, by omega, Nat.le_refl _, rfl⟩
      · obtain rfl : i = N := by omega
        have h3 := AT.out hlen
        generalize (S.getD i (0, 0)).2 = tm at *
        have t4 : decide (tm ≤ t) = false := decide_eq_false (by omega)
        have t5 : decide (i ≤ cap) = true := decide_eq_true (by have := HR.out.1; omega)
        have t6 : (i : Int) ≤ (cap : Int) := by have := HR.out.1; omega
        clear h3
        go_wp2
        go_ret
        exact ⟨_, rfl, HS.out i (by omega), rfl⟩
    · obtain rfl : i = len := by omega
      have hNi : N = i := by omega
      have t1 : decide ((i : Int) < (i : Int)) = false := decide_eq_false (by omega)
      have t2 : decide (i < i) = false := decide_eq_false (by omega)
      have t5 : decide (i ≤ cap) = true := decide_eq_true HR.out.1
      have t6 : (i : Int) ≤ (cap : Int) := by have := HR.out.1; omega
      go_wp2
      go_ret
      rw [hNi]
      exact ⟨_, rfl, HS.out i (Nat.le_refl _), rfl⟩
end Go.Proofs.Ytpglkakbiaihdaa

/-
  The reference's timers: Due.
-/
namespace Go.Proofs.Ytpglkakbiaihdaa
open Go.RowKit Go.Shelf Go.Maps
set_option linter.unusedVariables false
set_option linter.unusedSimpArgs false

theorem Rq.setNow {B : Nat} {W : World} {rq rh : Nat} {m n o : Int} {S : List Ent} (h : Rq B W rq rh m n o S) (n' : Int) : Rq B (W.setCell ⟨rq, 2, none⟩ (.int .i64 n')) rq rh m n' o S := by
  have hk := (Kept.refl (fun k => k = rq) W).setCell (p := ⟨rq, 2, none⟩) (.inl rfl) (.int .i64 n')
  refine ⟨?_, h.ref.kept hk (fun b o e ho => ?_), h.base⟩
  · have := h.obj
    simp [World.setCell, Array.getElem?_modify, this]
  · subst e
    rw [h.obj] at ho
    cases ho
    exact ⟨by show some _ ≠ some _; decide, by show some _ ≠ some _; decide⟩
theorem Rq.setWorst {B : Nat} {W : World} {rq rh : Nat} {m n o : Int} {S : List Ent} (h : Rq B W rq rh m n o S) (o' : Int) : Rq B (W.setCell ⟨rq, 3, none⟩ (.int .i64 o')) rq rh m n o' S := by
  have hk := (Kept.refl (fun k => k = rq) W).setCell (p := ⟨rq, 3, none⟩) (.inl rfl) (.int .i64 o')
  refine ⟨?_, h.ref.kept hk (fun b o e ho => ?_), h.base⟩
  · have := h.obj
    simp [World.setCell, Array.getElem?_modify, this]
  · subst e
    rw [h.obj] at ho
    cases ho
    exact ⟨by show some _ ≠ some _; decide, by show some _ ≠ some _; decide⟩
theorem flatR_take_at {S : List Ent} {n i : Nat} (hi : i < n) (hn : n ≤ S.length) : (flatR (S.take n))[i * 2]? = some (.int .i64 (S.getD i (0, 0)).2) ∧ (flatR (S.take n))[i * 2 + 1]? = some (.int .i64 (S.getD i (0, 0)).1) := by
  have h := flatR_get (S.take n) i (by rw [List.length_take]; omega)
  have e : (S.take n).getD i (0, 0) = S.getD i (0, 0) := by
    rw [List.getD_eq_getElem?_getD, List.getD_eq_getElem?_getD, List.getElem?_take, if_pos hi]
  unfold rky rid at h
  rw [e] at h
  exact h
/-- A slice of the reference's row, copied. -/
theorem slice_copied {w : World} {v : Value} {n : Nat} {S : List Ent} (h : SliceOf w v n S) (hl : S.length ≤ 1099511627776) :
    ∃ a c w', (Builtin.append_ #[46, 46] 46 #[.slice none 0 0, v]).run Try.prog w = .ok (.slice a n c) w' ∧ w'.ownsRow w.heap.size 37 2 (.slice a n c) n (flatR (S.take n)) ∧ w.grownBy w' none := by
  obtain ⟨i0, hi0, hz0, hz1, hz2⟩ := info_parts (P := Try.prog) (e := 37) (z := .agg #[.int .i64 0, .int .i64 0]) (size := 2) (bytes := 16) (by kernel_rfl)
  obtain ⟨a, cap, rfl, hn, ha⟩ := h
  have hown : w.ownsRow w.heap.size 37 2 (.slice none 0 0) 0 [] := ⟨rfl, .inl ⟨rfl, rfl⟩⟩
  rcases ha with ⟨rfl, rfl, rfl⟩ | ⟨g, rfl, hg⟩
  · exact ⟨none, 0, w, run_append_owned_none (P := Try.prog) (w := w) w.heap.size 46 46 37 i0 2 Try.underlying46 hi0 _ 0 [] hown, ⟨rfl, .inl ⟨rfl, rfl⟩⟩, ⟨rfl, rfl, rfl, Nat.le_refl _, fun _ _ _ => rfl⟩⟩
  · have hlt : (flatR (S.take n)).length = n * 2 := by rw [len_flatR, List.length_take]; omega
    obtain ⟨v, w', r1, r2, r3, _, _⟩ := run_append_own_at (P := Try.prog) (w := w) w.heap.size 46 46 37 i0 (.agg #[.int .i64 0, .int .i64 0]) 2 16 Try.underlying46 hi0 hz0 hz1 hz2 rfl (by decide) (.slice none 0 0) 0 [] hown ⟨g, 0, none⟩ n cap (flatR (S.take n)) hlt (fun j u hj => by
      rw [Addr.add_lit]
      rw [Nat.zero_add]
      refine hg j u ?_
      rw [flatR_take] at hj
      rw [List.getElem?_take] at hj
      split at hj
      · simpa using hj
      · cases hj) (flatR_one _) (by unfold maxLen; omega) (by omega) (Nat.le_refl _)
    rw [Nat.zero_add, List.nil_append] at r2
    obtain ⟨a', c', rfl⟩ := own_form r2
    exact ⟨a', c', w', r1, r2, r3⟩

theorem wpList_append_ran {P : Program} {w : World} {ops : Array Oper} {rest : List Oper} {o : Oper} {a : Act} {Q : Exit → Act → World → Prop} (hgd : o.guard = none) (s x : Operand) (t ty : TypeId)
    (ho : o.op = .call { callee := .builtin .append, args := #[s, x], argTypes := #[t, t] }) (hty : o.type = ty) (vs vx v' : Value) (w' : World) (hs : a.eval s = vs) (hx : a.eval x = vx) (hr : (Builtin.append_ #[t, t] ty #[vs, vx]).run P w = .ok v' w')
    (h : wpList P ops Q rest (a.put o.dst v') w') : wpList P ops Q (o :: rest) a w := by
  refine wpList_plain hgd fun K hK => ?_
  subst hty
  unfold Oper.wp execOp
  simp only [ho, resolve, invoke, builtin, Sem.run_bind, Sem.run_pure, Result.andThen_ok, List.map_toArray, List.map_cons, List.map_nil, hs, hx, hr]
  exact hK _ _ h

set_option maxHeartbeats 1000000 in
theorem rdue_bad {w : World} {rq : Nat} (t : Int) (ht : timeE t ≠ 0) :
    Calls Try.prog 80 #[.pointer (some ⟨rq, 0, none⟩), .int .i64 t] w fun E w' => E = .returned (.tuple #[.slice none 0 0, .int .i64 (timeE t)]) ∧ w = w' := by
  have C1 : ∀ W, Hid (Calls Try.prog 96 #[.int .i64 t] W fun E w' => E = .returned (.int .i64 (timeE t)) ∧ W = w') := fun W => rtime_any t W
  have h1 : (timeE t != 0) = true := by simpa using ht
  clear ht
  generalize timeE t = r at *
  go_enter Try.func80, Try.ntmps80
  go_wp2_with fail
  refine (C1 _).out.mono ?_
  rintro E w1 ⟨rfl, rfl⟩
  go_wp2
  refine bodyPost_ret (v := .tuple #[.slice none 0 0, .int .i64 r]) (by simp [results, Try.f80, go_sem]) rfl ⟨rfl, rfl⟩
set_option maxHeartbeats 1000000 in
theorem rdue_early {B : Nat} {w : World} {rq rh : Nat} {m n o : Int} {S : List Ent} (h : Rq B w rq rh m n o S) (t : Int) (ht : timeE t = 0) (hn : t < n) :
    Calls Try.prog 80 #[.pointer (some ⟨rq, 0, none⟩), .int .i64 t] w fun E w' => E = .returned (.tuple #[.slice none 0 0, .int .i64 10]) ∧ w = w' := by
  have C1 : ∀ W, Hid (Calls Try.prog 96 #[.int .i64 t] W fun E w' => E = .returned (.int .i64 0) ∧ W = w') := fun W => by
    have := rtime_any t W
    rw [ht] at this
    exact this
  have h1 : decide (t < n) = true := decide_eq_true hn
  obtain ⟨c0, c1, c2, c3⟩ := h.cells
  clear ht h hn
  go_enter Try.func80, Try.ntmps80
  go_wp2_with fail
  refine (C1 _).out.mono ?_
  rintro E w1 ⟨rfl, rfl⟩
  go_wp2
  refine bodyPost_ret (v := .tuple #[.slice none 0 0, .int .i64 10]) (by simp [results, Try.f80, go_sem]) rfl ⟨rfl, rfl⟩

/-- How late the latest one is. -/
def worstR (t o : Int) (D : List Ent) : Int := D.foldl (fun m x => max m (t - x.2)) o
/-- Between two rounds of Due. -/
structure DueM (B : Nat) (w W : World) (rq rh : Nat) (m t o : Int) (S : List Ent) (N i : Nat) (v : Value) : Prop where
  rq' : Rq B W rq rh m t (worstR t o (S.take i)) (S.drop i)
  row : W.ownsRow w.heap.size 37 2 v N (flatR (S.take N))
  kept : Kept (fun k => k = rh ∨ k = rq) w W
  old : rh < w.heap.size ∧ rq < w.heap.size
theorem DueM.lies {B : Nat} {w W W' : World} {rq rh : Nat} {m t o : Int} {S : List Ent} {N i : Nat} {v : Value} (h : DueM B w W rq rh m t o S N i v) (b : Below W.heap.size W W') : DueM B w W' rq rh m t o S N i v :=
  ⟨h.rq'.lies b, own_kept h.row (fun g e => b.block g (own_lt h.row g e)), h.kept.trans (kept_lies b), h.old⟩
theorem but_head {S : List Ent} (hd : Diff S) {i : Nat} (hi : i < S.length) : but (S.drop i) (rid S i) = S.drop (i + 1) := by
  have e : S.drop i = (rid S i, rky S i) :: S.drop (i + 1) := drop_at hi
  have hp : Diff (S.drop i) := hd.sublist (List.drop_sublist i S)
  rw [e] at hp ⊢
  obtain ⟨h1, _⟩ := List.pairwise_cons.1 hp
  unfold but
  rw [List.filter_cons_of_neg (by simp), filter_all (fun y hy => (h1 y hy).symm)]
theorem DueM.dropped {B : Nat} {w W W' : World} {rq rh : Nat} {m t o : Int} {S : List Ent} {N i : Nat} {v : Value} (h : DueM B w W rq rh m t o S N i v) (hd : Diff S) (hi : i < S.length) (r : RefIs B W' rh (but (S.drop i) (rid S i))) (k : Kept (fun k => k = rh) W W') (o' : Int) (ho : o' = worstR t o (S.take (i + 1))) :
    DueM B w (W'.setCell ⟨rq, 3, none⟩ (.int .i64 o')) rq rh m t o S N (i + 1) v := by
  subst ho
  rw [but_head hd hi] at r
  have r1 := h.rq'.turn r k
  refine ⟨?_, ?_, ?_, h.old⟩
  · exact (r1.setWorst _)
  · have r2 := own_kept h.row (fun g e => k.block g (own_lt h.row g e) (fun e' => by have := own_block h.row g e; have := h.old; omega))
    exact own_kept r2 (fun g e => Below.heap_setCell _ _ _ _ (fun e' => by have := own_block h.row g e; have := h.old; have e2 : g = rq := e'; omega))
  · exact (h.kept.trans (k.mono (fun _ _ e => .inl e))).setCell (p := ⟨rq, 3, none⟩) (.inl (.inr rfl)) _

set_option maxHeartbeats 4000000 in
set_option maxRecDepth 20000 in
theorem rdue_on {B : Nat} {w : World} {rq rh : Nat} {m n o : Int} {S : List Ent} (h : Rq B w rq rh m n o S) (hd : Diff S) (hl : S.length < 1099511627776) (hB : B ≤ w.heap.size) (hg : ∀ x ∈ S, timeE x.2 = 0) (t : Int) (ht : timeE t = 0) (hn : n ≤ t) :
    Calls Try.prog 80 #[.pointer (some ⟨rq, 0, none⟩), .int .i64 t] w fun E w' => ∃ a c, E = .returned (.tuple #[.slice a (untilN t S) c, .int .i64 0]) ∧ DueM B w w' rq rh m t o S (untilN t S) (untilN t S) (.slice a (untilN t S) c) := by
  have mixed : Try.prog.follows .mixedOrders = true := by kernel_rfl
  have hold : rh < w.heap.size ∧ rq < w.heap.size := ⟨by obtain ⟨a, cap, h1, _⟩ := h.ref; exact (Array.getElem?_eq_some_iff.1 h1).1, h.lt⟩
  have C1 : ∀ W, Hid (Calls Try.prog 96 #[.int .i64 t] W fun E w' => E = .returned (.int .i64 0) ∧ W = w') := fun W => by
    have := rtime_any t W
    rw [ht] at this
    exact this
  have h1 : decide (t < n) = false := decide_eq_false (by omega)
  have ht2 := timeE_may5 ht
  obtain ⟨c0, c1, c2, c3⟩ := h.cells
  obtain ⟨th, _⟩ := h.thaw
  obtain ⟨W1, hW1⟩ : ∃ W1, w.setCell ⟨rq, 2, none⟩ (.int .i64 t) = W1 := ⟨_, rfl⟩
  have R1 : Hid (Rq B W1 rq rh m t o S ∧ Kept (fun k => k = rh ∨ k = rq) w W1 ∧ w.heap.size = W1.heap.size) := by
    rw [← hW1]
    exact ⟨h.setNow t, (Kept.refl _ w).setCell (p := ⟨rq, 2, none⟩) (.inl (.inr rfl)) _, by simp [World.setCell]⟩
  have C2 := Lib.hid (runtil_any R1.out.1.ref hl t)
  have c4 := R1.out.1.cells.2.1
  have HH : Hid (Diff S ∧ S.length < 1099511627776 ∧ B ≤ w.heap.size ∧ (∀ x ∈ S, timeE x.2 = 0) ∧ rh < w.heap.size ∧ rq < w.heap.size) := ⟨hd, hl, hB, hg, hold⟩
  have HN := Lib.hid (untilN_le t S)
  have HW := Lib.hid hW1
  clear h hd hl hB hg hn ht hold hW1
  generalize untilN t S = N at *
  go_enter Try.func80, Try.ntmps80
  go_wp2_with fail
  refine (C1 _).out.mono ?_
  rintro E w1 ⟨rfl, rfl⟩
  go_wp2_with fail
  rw [HW.out]
  go_wp2_with fail
  refine C2.out.mono ?_
  rintro E w2 ⟨v, rfl, hs, hw2⟩
  subst hw2
  obtain ⟨a, c, w3, hrun, hrow, hgrow⟩ := slice_copied hs (by have := HH.out.2.1; omega)
  have HRUN := Lib.hid hrun
  have M3 : Hid (DueM B w w3 rq rh m t o S N 0 (.slice a N c)) := by
    have b : Below W1.heap.size W1 w3 := ((Kept.refl (fun _ => False) W1).grown hgrow (fun i e => by cases e)).below (Nat.le_refl _) (fun _ x => x.elim)
    refine ⟨?_, ?_, R1.out.2.1.trans (kept_lies b), HH.out.2.2.2.2⟩
    · exact R1.out.1.lies b
    · rw [R1.out.2.2]; exact hrow
  clear hrun hrow hgrow hs C2 R1 c0 c1 c2 c3 c4 th HW
  go_wp2_with (at_builtin; refine wpList_append_ran rfl _ _ 46 46 rfl rfl _ _ _ _ rfl rfl HRUN.out ?_)
  clear HRUN
  go_wp2_with fail
  go_loopg [8] N (fun gk s8 wr => ∃ i : Nat, s8 = .int .i64 i ∧ i ≤ N ∧ N - i ≤ gk ∧ Hid (DueM B w wr rq rh m t o S N i (.slice a N c)))
  case atStart => exact ⟨0, rfl, Nat.zero_le _, Nat.le_refl _, M3⟩
  case round =>
    rename World => W4
    obtain ⟨i, rfl, hi, hgk, HM⟩ := hrel
    clear M3
    by_cases hlt : i < N
    · have t1 : decide ((i : Int) < (N : Int)) = true := decide_eq_true (by omega)
      have t2 : decide (i < N) = true := decide_eq_true hlt
      have t3 : (i : Int) < (N : Int) := by omega
      have hiS : i < S.length := by have := HN.out; omega
      obtain ⟨g, rfl, hcells⟩ : ∃ g, a = some ⟨g, 0, none⟩ ∧ ∀ j u, (flatR (S.take N))[j]? = some u → W4.cell? ⟨g, j, none⟩ = some u := by
        have hr := HM.out.row
        rcases hr.2 with ⟨e, hn⟩ | ⟨g, cap, cur, e, hb, h3, r⟩
        · omega
        · cases e
          refine ⟨g, rfl, fun j u hj => ?_⟩
          have hlt : j < N * 2 := by have := (List.getElem?_eq_some_iff.1 hj).1; have := hr.1; omega
          have := hr.cellAt j (by omega)
          rw [this]; exact hj
      obtain ⟨f0, f1⟩ := flatR_take_at hlt HN.out
      have x0 := hcells _ _ f0
      have x1 := hcells _ _ f1
      obtain ⟨c0, c1, c2, c3⟩ := HM.out.rq'.cells
      have hgx := HH.out.2.2.2.1 _ (mem_getD hiS)
      have hx2 := timeE_may5 hgx
      have hid : rid S i = (S.getD i (0, 0)).1 := rfl
      have hdd : Diff (S.drop i) := HH.out.1.sublist (List.drop_sublist i S)
      have CD : ∀ k, Hid (Calls Try.prog 67 #[.pointer (some ⟨rh, 0, none⟩), .int .i64 (S.getD i (0, 0)).1] (W4.drewN k) fun E w' => (∃ j e, E = .returned (.tuple #[.int .i64 j, .int .i64 e])) ∧ Hid (RefIs B w' rh (but (S.drop i) (rid S i)) ∧ Kept (fun k => k = rh) W4 w')) := fun k =>
        (rdrop_any B (W4.drewN k) rh (S.drop i) (by have := HH.out.2.1; rw [List.length_drop]; omega) (Nat.le_trans HH.out.2.2.1 (by have := HM.out.kept.size; have := (grewN W4 k).size; omega)) (HM.out.rq'.ref.grew (grewN W4 k)) hdd _).mono fun E w' ⟨⟨j, he⟩, h2, h3⟩ => ⟨⟨j, _, he⟩, h2, (kept_lies (grewN W4 k).below).trans h3⟩
      have WS : Hid (max (worstR t o (S.take i)) (t - (S.getD i (0, 0)).2) = worstR t o (S.take (i + 1))) := by
        have e : S.take (i + 1) = S.take i ++ [S.getD i (0, 0)] := by
          rw [List.take_add_one, List.getD_eq_getElem?_getD, List.getElem?_eq_getElem hiS]; rfl
        unfold worstR
        rw [e, List.foldl_append]
        exact rfl
      have STEP : Hid (∀ W', RefIs B W' rh (but (S.drop i) (rid S i)) ∧ Kept (fun k => k = rh) W4 W' → Rq B W' rq rh m t (worstR t o (S.take i)) (S.drop (i + 1)) ∧ (∀ o', o' = worstR t o (S.take (i + 1)) → DueM B w (W'.setCell ⟨rq, 3, none⟩ (.int .i64 o')) rq rh m t o S N (i + 1) (.slice (some ⟨g, 0, none⟩) N c)) ∧ W'.cell? ⟨g, i * 2, none⟩ = some (.int .i64 (S.getD i (0, 0)).2)) := fun W' ⟨r, k⟩ => by
        refine ⟨?_, fun o' ho => HM.out.dropped HH.out.1 hiS r k o' ho, ?_⟩
        · have := HM.out.rq'.turn r k
          rwa [but_head HH.out.1 hiS] at this
        · have hlt := own_lt HM.out.row g rfl
          have hge := own_block HM.out.row g rfl
          exact (k.cell (p := ⟨g, i * 2, none⟩) hlt (by have := HM.out.old; show ¬ g = rh; omega)).trans x0
      clear hcells f0 f1 hdd hid
      obtain ⟨x, hx⟩ : ∃ x, S.getD i (0, 0) = x := ⟨_, rfl⟩
      rw [hx] at x0 x1 hgx hx2 CD WS STEP
      obtain ⟨y1, y2⟩ := x
      generalize hwo : worstR t o (S.take i) = o1 at *
      simp only [] at x0 x1 hgx hx2 CD WS STEP
      clear hx hwo hgx
      go_wp2_with fail
      refine plain_last 9 _ (Drawing W4) rfl rfl (by kernel_rfl) mixed (drawing_drew W4) ?_
      simp only [List.take_succ_cons, List.take_zero]
      repeat (go_big_quiet_step (fail))
      refine wpQuiet_nil ?_
      rintro _ ⟨mq, rfl⟩
      gi_wp2_with fail
      refine ⟨trivial, (callsIn_wide.2 (CD mq).out).mono ?_⟩
      rintro E w5 ⟨⟨j, e, rfl⟩, h5⟩
      obtain ⟨q5, _, x5⟩ := STEP.out w5 h5.out
      have H5 : Hid (∀ k, Rq B (w5.drewN k) rq rh m t o1 (S.drop (i + 1)) ∧ (∀ o', o' = worstR t o (S.take (i + 1)) → DueM B w ((w5.drewN k).setCell ⟨rq, 3, none⟩ (.int .i64 o')) rq rh m t o S N (i + 1) (.slice (some ⟨g, 0, none⟩) N c))) := fun k => by
        obtain ⟨p1, p2, _⟩ := STEP.out (w5.drewN k) ⟨h5.out.1.grew (grewN w5 k), h5.out.2.trans ((grewN w5 k).kept _)⟩
        exact ⟨p1, p2⟩
      obtain ⟨c0, c1, c2, c3⟩ := q5.cells
      clear h5 CD STEP x0 x1 q5
      have wr : IntKind.i64.wrap (t - y2) = t - y2 := IntWalk.i64_in _ (by omega)
      gi_wp2
      go_wp2_with fail
      refine plain_last 15 _ (Drawing w5) rfl rfl (by kernel_rfl) mixed (drawing_drew w5) ?_
      simp only [List.take_succ_cons, List.take_zero]
      repeat (go_big_quiet_step (fail))
      refine wpQuiet_nil ?_
      rintro _ ⟨nq, rfl⟩
      obtain ⟨q6, s6⟩ := H5.out nq
      have S6 := Lib.hid (s6 _ WS.out)
      obtain ⟨_, th⟩ := q6.thaw
      obtain ⟨c0, c1, c2, c3⟩ := q6.cells
      clear H5 q6 s6 x5 wr
      have hN40 : i < 1099511627776 := by have := HH.out.2.1; omega
      generalize w5.drewN nq = W6 at *
      gi_wp2_with fail
      go_wp2
      go_roundg (N - (i + 1))
      case measure => omega
      case rel => exact ⟨i + 1, by go_num, by omega, Nat.le_refl _, S6⟩
    · obtain rfl : i = N := by omega
      have t1 : decide ((i : Int) < (i : Int)) = false := decide_eq_false (by omega)
      have t2 : decide (i < i) = false := decide_eq_false (by omega)
      go_wp2
      refine bodyPost_ret (v := .tuple #[.slice a i c, .int .i64 0]) (by simp [results, Try.f80, go_sem]) rfl ⟨_, _, rfl, HM.out⟩
end Go.Proofs.Ytpglkakbiaihdaa

/-
  Two queues of timers side by side: what a call of one leaves of the other (for TimersAnew, TimersCopies, TimersNext).
-/
namespace Go.Proofs.Ytpglkakbiaihdaa
open Go.RowKit Go.Shelf Go.Maps
set_option linter.unusedVariables false
set_option linter.unusedSimpArgs false

/-- Timers at ta and at tb, without a common block. -/
structure Duo (w W : World) (ta : Nat) (qa : QB) (ma na oa : Int) (La : List Ent) (tb : Nat) (qb : QB) (mb nb ob : Int) (Lb : List Ent) : Prop where
  a : Ts w.heap.size W ta qa ma na oa La
  b : Ts w.heap.size W tb qb mb nb ob Lb
  ab : ∀ k, qa.own k ∨ k = ta → ¬ (qb.own k ∨ k = tb)
  low : Below w.heap.size w W
theorem Duo.symm {w W : World} {ta : Nat} {qa : QB} {ma na oa : Int} {La : List Ent} {tb : Nat} {qb : QB} {mb nb ob : Int} {Lb : List Ent} (h : Duo w W ta qa ma na oa La tb qb mb nb ob Lb) : Duo w W tb qb mb nb ob Lb ta qa ma na oa La :=
  ⟨h.b, h.a, fun k hb ha => h.ab k ha hb, h.low⟩
theorem Duo.lies {w W W' : World} {ta : Nat} {qa : QB} {ma na oa : Int} {La : List Ent} {tb : Nat} {qb : QB} {mb nb ob : Int} {Lb : List Ent} (h : Duo w W ta qa ma na oa La tb qb mb nb ob Lb) (b : Below W.heap.size W W') : Duo w W' ta qa ma na oa La tb qb mb nb ob Lb :=
  ⟨h.a.lies b, h.b.lies b, h.ab, h.low.trans (b.mono h.low.size)⟩
theorem Duo.ltB {w W : World} {ta : Nat} {qa : QB} {ma na oa : Int} {La : List Ent} {tb : Nat} {qb : QB} {mb nb ob : Int} {Lb : List Ent} (h : Duo w W ta qa ma na oa La tb qb mb nb ob Lb) : ∀ k, qb.own k ∨ k = tb → k < W.heap.size := fun k hk => by
  rcases hk with hk | rfl
  · exact h.b.queue.lt k hk
  · exact h.b.lt
/-- Behind a call of the first one's queue. -/
theorem Duo.turn {w W W' : World} {ta : Nat} {qa qa' : QB} {ma na oa : Int} {La La' : List Ent} {tb : Nat} {qb : QB} {mb nb ob : Int} {Lb : List Ent} (h : Duo w W ta qa ma na oa La tb qb mb nb ob Lb) (l : LeftQ w.heap.size W W' qa qa' La') (hd : La'.Pairwise (fun x y => x.1 ≠ y.1)) (hg : ∀ x ∈ La', (0 ≤ x.1 ∧ timeE x.2 = 0) ∧ Is64 x.1 ∧ Is64 x.2) :
    Duo w W' ta qa' ma na oa La' tb qb mb nb ob Lb := by
  refine ⟨h.a.left l hd hg, h.b.kept l.kept (fun k hk ht => h.ab k (.inl (.inl ht)) hk), fun k hk hb => ?_, h.low.trans (l.below h.a.queue h.low.size)⟩
  rcases hk with hk | rfl
  · rcases l.owns k hk with e | e
    · exact h.ab k (.inl e) hb
    · have := h.ltB k hb
      omega
  · exact h.ab k (.inr rfl) hb
/-- .. an Arm that is taken. -/
theorem Duo.arm {w W W' : World} {ta : Nat} {qa qa' : QB} {ma na oa : Int} {La : List Ent} {tb : Nat} {qb : QB} {mb nb ob : Int} {Lb : List Ent} {id at_ : Int} (h : Duo w W ta qa ma na oa La tb qb mb nb ob Lb) (l : LeftQ w.heap.size W W' qa qa' (armL La (id, at_))) (hid : 0 ≤ id) (hat : timeE at_ = 0) (hx : Is64 id ∧ Is64 at_) :
    Duo w W' ta qa' ma na oa (armL La (id, at_)) tb qb mb nb ob Lb :=
  h.turn l (armL_diff h.a.diff) (h.a.arm l hid hat hx).good
/-- .. a Cancel of one that is armed. -/
theorem Duo.cancel {w W W' : World} {ta : Nat} {qa : QB} {ma na oa : Int} {La : List Ent} {tb : Nat} {qb : QB} {mb nb ob : Int} {Lb : List Ent} (h : Duo w W ta qa ma na oa La tb qb mb nb ob Lb) (x : Ent) (l : LeftQ w.heap.size W W' qa qa (La.erase x)) : Duo w W' ta qa ma na oa (La.erase x) tb qb mb nb ob Lb :=
  h.turn l (h.a.diff.sublist List.erase_sublist) (fun y hy => h.a.good y (List.mem_of_mem_erase hy))
/-- .. a Due. -/
theorem Duo.due {w W W' : World} {ta : Nat} {qa : QB} {ma na na' oa oa' : Int} {La La' : List Ent} {tb : Nat} {qb : QB} {mb nb ob : Int} {Lb : List Ent} (h : Duo w W ta qa ma na oa La tb qb mb nb ob Lb) (t : Ts w.heap.size W' ta qa ma na' oa' La') (k : Kept (fun k => qa.turns k ∨ k = ta) W W') : Duo w W' ta qa ma na' oa' La' tb qb mb nb ob Lb :=
  ⟨t, h.b.kept k (fun b hb e => by
    rcases e with e | e
    · exact h.ab b (.inl (.inl e)) hb
    · exact h.ab b (.inr e) hb), h.ab, h.low.trans (k.below h.low.size (fun b hb => by
    rcases hb with hb | rfl
    · exact h.a.queue.from b (.inl hb)
    · exact h.a.base))⟩
/-- Two new ones. -/
theorem duo_new {w w1 w2 : World} {ta tb : Nat} {qa qb : QB} {m : Int} (ha : Ts w.heap.size w1 ta qa m 0 0 []) (ga : Below w.heap.size w w1) (hb : Ts w.heap.size w2 tb qb m 0 0 []) (gb : Grew w1 w2) (ob : w1.heap.size ≤ tb) (oq : ∀ k, qb.own k → w1.heap.size ≤ k) : Duo w w2 ta qa m 0 0 [] tb qb m 0 0 [] := by
  refine ⟨ha.grew gb, hb, fun k hk hk2 => ?_, ga.trans (gb.below.mono ga.size)⟩
  have h1 : k < w1.heap.size := by
    rcases hk with hk | rfl
    · exact ha.queue.lt k hk
    · exact ha.lt
  rcases hk2 with hk2 | rfl
  · have := oq k hk2
    omega
  · omega

/-- What two steps of the clock take away is what one step takes away, in the same order. -/
theorem due_twice {t1 t2 o o1 o2 p2 : Int} {L D1 L1 D2 L2 D L3 : List Ent} (ht : t1 ≤ t2) (h1 : DueI t1 o L D1 L1 o1) (l1 : ∀ y ∈ L1, t1 < y.2) (h2 : DueI t2 o1 L1 D2 L2 o2) (l2 : ∀ y ∈ L2, t2 < y.2) (h3 : DueI t2 o L D L3 p2) (l3 : ∀ y ∈ L3, t2 < y.2) : D1 ++ D2 = D := by
  have s : Sorted (D1 ++ D2) := List.pairwise_append.2 ⟨h1.sorted, h2.sorted, fun x hx y hy => h1.ahead x hx y (h2.perm.mem_iff.2 (List.mem_append_left _ hy))⟩
  have p : L.Perm ((D1 ++ D2) ++ L2) := by
    rw [List.append_assoc]
    exact h1.perm.trans (h2.perm.append_left D1)
  have f1 : (L.filter (fun x => decide (x.2 ≤ t2))).Perm (D1 ++ D2) := by
    have q := p.filter (fun x => decide (x.2 ≤ t2))
    rw [List.filter_append] at q
    have e1 : (D1 ++ D2).filter (fun x => decide (x.2 ≤ t2)) = D1 ++ D2 := List.filter_eq_self.2 fun x hx => by
      rcases List.mem_append.1 hx with hx | hx
      · have := h1.early x hx
        exact decide_eq_true (by omega)
      · exact decide_eq_true (h2.early x hx)
    have e2 : L2.filter (fun x => decide (x.2 ≤ t2)) = [] := List.filter_eq_nil_iff.2 fun x hx => by
      have := l2 x hx
      simp
      omega
    rw [e1, e2, List.append_nil] at q
    exact q
  have f2 : (L.filter (fun x => decide (x.2 ≤ t2))).Perm D := by
    have q := h3.perm.filter (fun x => decide (x.2 ≤ t2))
    rw [List.filter_append] at q
    have e1 : D.filter (fun x => decide (x.2 ≤ t2)) = D := List.filter_eq_self.2 fun x hx => decide_eq_true (h3.early x hx)
    have e2 : L3.filter (fun x => decide (x.2 ≤ t2)) = [] := List.filter_eq_nil_iff.2 fun x hx => by
      have := l3 x hx
      simp
      omega
    rw [e1, e2, List.append_nil] at q
    exact q
  exact sorted_eq (f1.symm.trans f2) s h3.sorted
end Go.Proofs.Ytpglkakbiaihdaa

/-
  TimersOnce: what it has in memory, and how what is armed and what the law marks hang together.
-/
namespace Go.Proofs.Ytpglkakbiaihdaa
open Go.RowKit Go.Shelf Go.Maps
set_option linter.unusedVariables false
set_option linter.unusedSimpArgs false

theorem made5 {w' : World} {sb n : Nat} (h : w'.ownsRow 0 4 1 (.slice (some ⟨sb, 0, none⟩) n n) n (madeCells (Value.bool false).cells (n * 1)).toList) : SeenAt w' sb n (fun _ => false) := by
  rcases h.2 with ⟨e, _⟩ | ⟨g, cap, cur, e, _, h1, h2, h3, h4, h5⟩
  · cases e
  · simp only [Value.slice.injEq, Option.some.injEq, Addr.mk.injEq, and_true, true_and] at e
    obtain ⟨rfl, rfl⟩ := e
    refine ⟨cur, h1, fun j hj => ?_⟩
    have e1 : (madeCells (Value.bool false).cells (n * 1)).toList = List.replicate (n * 1) (.bool false) := toList_madeCells_one _ _
    rw [e1] at h5
    have h6 : (cur.toList.take (n * 1))[j]? = some (.bool false) := by rw [h5, List.getElem?_replicate, if_pos (by omega)]
    rw [List.getElem?_take, if_pos (by omega)] at h6
    simpa using h6
theorem SeenAt.put {W : World} {sb n : Nat} {f : Nat → Bool} (h : SeenAt W sb n f) {j : Nat} (hj : j < n) (b : Bool) : SeenAt (W.setCell ⟨sb, j, none⟩ (.bool b)) sb n (fun k => if k = j then b else f k) := by
  obtain ⟨cur, h1, h2⟩ := h
  refine ⟨cur.setIfInBounds j (.bool b), by simp [World.setCell, Array.getElem?_modify, h1], fun k hk => ?_⟩
  have hsz : j < cur.size := (Array.getElem?_eq_some_iff.1 (h2 j hj)).1
  rw [Array.getElem?_setIfInBounds]
  by_cases e : j = k
  · subst e; simp [hsz]
  · rw [if_neg e, h2 k hk]
    show some (Value.bool (f k)) = some (Value.bool (if k = j then b else f k))
    rw [if_neg (fun x => e x.symm)]

/-- The timers, the law's row of bools, and all that was. -/
structure OnceM (w W : World) (tb : Nat) (q : QB) (now o : Int) (L : List Ent) (sb n : Nat) (fs : Nat → Bool) : Prop where
  ts : Ts w.heap.size W tb q 60 now o L
  seen : SeenAt W sb n fs
  off : ¬ q.own sb ∧ sb ≠ tb
  low : Below w.heap.size w W
  new : w.heap.size ≤ sb
theorem OnceM.lies {w W W' : World} {tb : Nat} {q : QB} {now o : Int} {L : List Ent} {sb n : Nat} {fs : Nat → Bool} (h : OnceM w W tb q now o L sb n fs) (b : Below W.heap.size W W') : OnceM w W' tb q now o L sb n fs :=
  ⟨h.ts.lies b, h.seen.kept (b.block sb h.seen.lt), h.off, h.low.trans (b.mono h.low.size), h.new⟩
theorem OnceM.put {w W : World} {tb : Nat} {q : QB} {now o : Int} {L : List Ent} {sb n : Nat} {fs : Nat → Bool} (h : OnceM w W tb q now o L sb n fs) {j : Nat} (hj : j < n) (b : Bool) : OnceM w (W.setCell ⟨sb, j, none⟩ (.bool b)) tb q now o L sb n (fun k => if k = j then b else fs k) :=
  ⟨h.ts.kept ((Kept.refl (fun k => k = sb) W).setCell (p := ⟨sb, j, none⟩) (.inl rfl) _) (fun b hb e => by
    subst e
    rcases hb with hb | hb
    · exact h.off.1 hb
    · exact h.off.2 hb), h.seen.put hj b, h.off, h.low.setCell h.new _, h.new⟩
theorem OnceM.arm {w W W' : World} {tb : Nat} {q q' : QB} {now o : Int} {L : List Ent} {sb n : Nat} {fs : Nat → Bool} {id at_ : Int} (h : OnceM w W tb q now o L sb n fs) (l : LeftQ w.heap.size W W' q q' (armL L (id, at_))) (hid : 0 ≤ id) (hat : timeE at_ = 0) (hx : Is64 id ∧ Is64 at_) : OnceM w W' tb q' now o (armL L (id, at_)) sb n fs := by
  have hlt := h.seen.lt
  refine ⟨h.ts.arm l hid hat hx, h.seen.kept (l.kept.block sb hlt (fun ht => h.off.1 (.inl ht))), ⟨fun ho => ?_, h.off.2⟩, h.low.trans (l.below h.ts.queue h.low.size), h.new⟩
  rcases l.owns sb ho with e | e
  · exact h.off.1 e
  · omega
theorem OnceM.due {w W W' : World} {tb : Nat} {q : QB} {now now' o o' : Int} {L Lc : List Ent} {sb n : Nat} {fs : Nat → Bool} (h : OnceM w W tb q now o L sb n fs) (t : Ts w.heap.size W' tb q 60 now' o' Lc) (k : Kept (fun k => q.turns k ∨ k = tb) W W') : OnceM w W' tb q now' o' Lc sb n fs := by
  refine ⟨t, h.seen.kept (k.block sb h.seen.lt (fun e => ?_)), h.off, h.low.trans (k.below h.low.size (fun b hb => ?_)), h.new⟩
  · rcases e with e | e
    · exact h.off.1 (.inl e)
    · exact h.off.2 e
  · rcases hb with hb | rfl
    · exact h.ts.queue.from b (.inl hb)
    · exact h.ts.base

/-- What is armed, and what the law marks. -/
def Link (ys : List Int) (fs : Nat → Bool) (L : List Ent) : Prop := (∀ x ∈ L, ∃ j, j < ys.length ∧ x = ((j : Int), ys.getD j 0)) ∧ ∀ j, j < ys.length → (fs j = true ↔ ((j : Int), ys.getD j 0) ∈ L)
theorem Link.perm {ys : List Int} {fs : Nat → Bool} {L L' : List Ent} (h : Link ys fs L) (p : L.Perm L') : Link ys fs L' :=
  ⟨fun x hx => h.1 x (p.mem_iff.2 hx), fun j hj => (h.2 j hj).trans p.mem_iff⟩
theorem Link.take {ys : List Int} {fs : Nat → Bool} {R : List Ent} {j : Nat} (h : Link ys fs (((j : Int), ys.getD j 0) :: R)) (hd : ((j : Int), ys.getD j 0) ∉ R) : Link ys (fun k => if k = j then false else fs k) R := by
  refine ⟨fun x hx => h.1 x (List.mem_cons_of_mem _ hx), fun k hk => ?_⟩
  show (if k = j then false else fs k) = true ↔ _
  by_cases e : k = j
  · subst e
    rw [if_pos rfl]
    exact ⟨(fun x => by cases x), fun x => absurd x hd⟩
  · rw [if_neg e, h.2 k hk, List.mem_cons]
    constructor
    · rintro (x | x)
      · have := congrArg Prod.fst x
        simp only at this
        omega
      · exact x
    · exact .inr
/-- While timers are armed, one behind the other. -/
def LinkTo (ys : List Int) (i : Nat) (fs : Nat → Bool) (L : List Ent) : Prop := Link ys fs L ∧ (∀ x ∈ L, x.1 < (i : Int)) ∧ L.length ≤ i ∧ ∀ j, i ≤ j → fs j = false
theorem linkTo_nil (ys : List Int) : LinkTo ys 0 (fun _ => false) [] :=
  ⟨⟨(fun x hx => by cases hx), fun j _ => ⟨(fun x => by cases x), (fun x => by cases x)⟩⟩, (fun x hx => by cases hx), Nat.le_refl _, fun _ _ => rfl⟩
theorem LinkTo.yes {ys : List Int} {i : Nat} {fs : Nat → Bool} {L : List Ent} (h : LinkTo ys i fs L) (hi : i < ys.length) : LinkTo ys (i + 1) (fun k => if k = i then true else fs k) (((i : Int), ys.getD i 0) :: L) := by
  refine ⟨⟨fun x hx => ?_, fun j hj => ?_⟩, fun x hx => ?_, by rw [List.length_cons]; have := h.2.2.1; omega, fun j hj => ?_⟩
  · rcases List.mem_cons.1 hx with rfl | hx
    · exact ⟨i, hi, rfl⟩
    · exact h.1.1 x hx
  · show (if j = i then true else fs j) = true ↔ _
    by_cases e : j = i
    · subst e
      rw [if_pos rfl]
      exact ⟨fun _ => List.mem_cons_self, fun _ => rfl⟩
    · rw [if_neg e, h.1.2 j hj, List.mem_cons]
      constructor
      · exact .inr
      · rintro (x | x)
        · have := congrArg Prod.fst x
          simp only at this
          omega
        · exact x
  · rcases List.mem_cons.1 hx with rfl | hx
    · show (i : Int) < _; omega
    · have := h.2.1 x hx; omega
  · show (if j = i then true else fs j) = false
    rw [if_neg (by omega)]
    exact h.2.2.2 j (by omega)
theorem LinkTo.no {ys : List Int} {i : Nat} {fs : Nat → Bool} {L : List Ent} (h : LinkTo ys i fs L) : LinkTo ys (i + 1) (fun k => if k = i then false else fs k) L := by
  have e : (fun k => if k = i then false else fs k) = fs := by
    funext k
    by_cases e : k = i
    · subst e
      rw [if_pos rfl, h.2.2.2 k (Nat.le_refl _)]
    · rw [if_neg e]
  rw [e]
  exact ⟨h.1, fun x hx => by have := h.2.1 x hx; omega, by have := h.2.2.1; omega, fun j hj => h.2.2.2 j (by omega)⟩

/-- A timer that was due, in a block of its own. -/
def Bf (W : World) (b : Nat) (x y z : Int) : Prop := W.heap[b]? = some (.cells #[.int .i64 x, .int .i64 y, .int .i64 z] 86 (0, 0))
theorem Bf.lt {W : World} {b : Nat} {x y z : Int} (h : Bf W b x y z) : b < W.heap.size := (Array.getElem?_eq_some_iff.1 h).1
theorem Bf.cells {W : World} {b : Nat} {x y z : Int} (h : Bf W b x y z) : W.cell? ⟨b, 0, none⟩ = some (.int .i64 x) ∧ W.cell? ⟨b, 1, none⟩ = some (.int .i64 y) ∧ W.cell? ⟨b, 2, none⟩ = some (.int .i64 z) := by
  unfold Bf at h
  refine ⟨?_, ?_, ?_⟩ <;> simp [World.cell?, h]
theorem Bf.next {W W' : World} {b : Nat} {x y z : Int} (h : Bf W b x y z) (hb : Below W.heap.size W W') : Bf W' b x y z := (hb.block b h.lt).trans h
theorem Bf.start (w : World) (x y z : Int) : Bf (w.alloc (.cells #[.int .i64 x, .int .i64 y, .int .i64 z] 86)) w.heap.size x y z := by
  unfold Bf
  show (w.heap.push _)[w.heap.size]? = _
  simp
theorem Bf.far {W : World} {b c : Nat} {x y z : Int} (h : Bf W b x y z) (hc : b ≠ c) (o : Nat) (v : Value) : Bf (W.setCell ⟨c, o, none⟩ v) b x y z := by
  unfold Bf at h ⊢
  rw [Below.heap_setCell _ _ _ _ hc]
  exact h

theorem flatF_at (now : Int) : ∀ (D : List Ent) (k : Nat), k < D.length → (flatF now D)[k * 3]? = some (.int .i64 (D.getD k (0, 0)).1) ∧ (flatF now D)[k * 3 + 1]? = some (.int .i64 (D.getD k (0, 0)).2) ∧ (flatF now D)[k * 3 + 2]? = some (.int .i64 (now - (D.getD k (0, 0)).2))
  | [], k, h => by simp at h
  | x :: r, 0, h => by simp [flatF]
  | x :: r, k + 1, h => by
    have := flatF_at now r k (by simpa using h)
    have e : (k + 1) * 3 = k * 3 + 1 + 1 + 1 := by omega
    rw [e]
    simpa [flatF] using this

/-- Where the law goes through what is due: k of them were looked at. -/
structure OnceK (w W : World) (tb : Nat) (q : QB) (now o o' : Int) (Lc D : List Ent) (sb n : Nat) (ys : List Int) (v : Value) (B6 lb k : Nat) (ow : Int) (fs : Nat → Bool) (lt ld : Int) : Prop where
  m : OnceM w W tb q now o' Lc sb n fs
  link : Link ys fs (D.drop k ++ Lc)
  worst : ow = (D.take k).foldl (fun m x => max m (now - x.2)) o
  row : W.ownsRow B6 86 3 v D.length (flatF now D)
  key : B2 W lb lt ld
  first : k = 0 → lt = -1
  prev : 0 < k → D.getD (k - 1) (0, 0) = (ld, lt)
  offq : ∀ b, q.own b ∨ b = tb → b < lb
  offs : sb < lb
  offr : ∀ g, v.ownBlock = some g → g < lb ∧ g ≠ sb
theorem OnceK.lies {w W W' : World} {tb : Nat} {q : QB} {now o o' : Int} {Lc D : List Ent} {sb n : Nat} {ys : List Int} {v : Value} {B6 lb k : Nat} {ow : Int} {fs : Nat → Bool} {lt ld : Int} (h : OnceK w W tb q now o o' Lc D sb n ys v B6 lb k ow fs lt ld) (b : Below W.heap.size W W') : OnceK w W' tb q now o o' Lc D sb n ys v B6 lb k ow fs lt ld :=
  ⟨h.m.lies b, h.link, h.worst, own_kept h.row (fun g e => b.block g (own_lt h.row g e)), h.key.next b, h.first, h.prev, h.offq, h.offs, h.offr⟩
/-- One more: it is marked no more, it is the last one, and how late it is counts. -/
theorem OnceK.step {w W : World} {tb : Nat} {q : QB} {now o o' : Int} {Lc D : List Ent} {sb n : Nat} {ys : List Int} {v : Value} {B6 lb k : Nat} {ow : Int} {fs : Nat → Bool} {lt ld : Int} (h : OnceK w W tb q now o o' Lc D sb n ys v B6 lb k ow fs lt ld) (hk : k < D.length) {jj : Nat} (hj : jj < n) (hx : D.getD k (0, 0) = ((jj : Int), ys.getD jj 0)) (hnd : (D ++ Lc).Nodup) :
    OnceK w (((W.setCell ⟨sb, jj, none⟩ (.bool false)).setCell ⟨lb, 0, none⟩ (.int .i64 (ys.getD jj 0))).setCell ⟨lb, 1, none⟩ (.int .i64 (jj : Int))) tb q now o o' Lc D sb n ys v B6 lb (k + 1) (max ow (now - ys.getD jj 0)) (fun m => if m = jj then false else fs m) (ys.getD jj 0) (jj : Int) := by
  have hdrop : D.drop k = ((jj : Int), ys.getD jj 0) :: D.drop (k + 1) := by
    rw [← hx, List.drop_eq_getElem_cons hk, List.getD_eq_getElem?_getD, List.getElem?_eq_getElem hk]
    rfl
  have ne1 : sb ≠ lb := Nat.ne_of_lt h.offs
  have kk : Kept (fun b => b = lb) (W.setCell ⟨sb, jj, none⟩ (.bool false)) (((W.setCell ⟨sb, jj, none⟩ (.bool false)).setCell ⟨lb, 0, none⟩ (.int .i64 (ys.getD jj 0))).setCell ⟨lb, 1, none⟩ (.int .i64 (jj : Int))) :=
    ((Kept.refl (fun b => b = lb) _).setCell (p := ⟨lb, 0, none⟩) (.inl rfl) _).setCell (p := ⟨lb, 1, none⟩) (.inl rfl) _
  have m1 := h.m.put hj false
  have hlb : w.heap.size ≤ lb := Nat.le_trans h.m.new (Nat.le_of_lt h.offs)
  refine ⟨⟨m1.ts.kept kk (fun b hb e => by have := h.offq b hb; omega), m1.seen.kept (kk.block sb m1.seen.lt (fun e => ne1 e)), m1.off, (m1.low.setCell hlb _).setCell hlb _, m1.new⟩, ?_, ?_, ?_, ?_, fun e => by omega, fun _ => by rw [Nat.add_sub_cancel]; exact hx, h.offq, h.offs, h.offr⟩
  · have l := h.link
    rw [hdrop, List.cons_append] at l
    refine l.take (fun hm => ?_)
    have hs : (D.drop k ++ Lc).Nodup := hnd.sublist ((List.drop_sublist k D).append_right Lc)
    rw [hdrop, List.cons_append] at hs
    exact (List.nodup_cons.1 hs).1 hm
  · have : D.take (k + 1) = D.take k ++ [D.getD k (0, 0)] := by
      rw [List.take_add_one, List.getD_eq_getElem?_getD, List.getElem?_eq_getElem hk]; rfl
    rw [this, List.foldl_append, ← h.worst, hx]
    rfl
  · refine own_kept h.row (fun g e => ?_)
    obtain ⟨o1, o2⟩ := h.offr g e
    rw [Below.heap_setCell _ _ _ _ (by show g ≠ lb; omega), Below.heap_setCell _ _ _ _ (by show g ≠ lb; omega), Below.heap_setCell _ _ _ _ (by show g ≠ sb; exact o2)]
  · exact (h.key.far (fun e => ne1 e.symm) _ _).set _ _

/-- What a row of timers holds, if there are any. -/
theorem rowN {w : World} {B n : Nat} {ra : Option Addr} {rc : Nat} {xs : List Value} (h : w.ownsRow B 86 3 (.slice ra n rc) n xs) (hn : 0 < n) : ∃ g, ra = some ⟨g, 0, none⟩ ∧ ∀ j u, xs[j]? = some u → w.cell? ⟨g, j, none⟩ = some u := by
  rcases h.2 with ⟨e, _⟩ | ⟨g, cap, cur, e, hb, h3, r⟩
  · cases e
    omega
  · cases e
    refine ⟨g, rfl, fun j u hj => ?_⟩
    have := h.cells rfl j u hj
    by_cases hj0 : j = 0
    · subst hj0
      simpa [Addr.add] using this
    · simpa [Addr.add, hj0] using this
theorem sorted_getD {D : List Ent} (h : Sorted D) {i j : Nat} (hij : i < j) (hj : j < D.length) : ah (D.getD i (0, 0)) (D.getD j (0, 0)) = true := by
  rw [List.getD_eq_getElem?_getD, List.getD_eq_getElem?_getD, List.getElem?_eq_getElem (by omega), List.getElem?_eq_getElem hj]
  exact List.pairwise_iff_getElem.1 h i j (by omega) hj hij
theorem mem_getD5 {D : List Ent} {k : Nat} (hk : k < D.length) : D.getD k (0, 0) ∈ D ∧ D.getD k (0, 0) ∈ D.drop k := by
  rw [List.getD_eq_getElem?_getD, List.getElem?_eq_getElem hk]
  exact ⟨List.getElem_mem hk, by rw [List.drop_eq_getElem_cons hk]; exact List.mem_cons_self⟩
end Go.Proofs.Ytpglkakbiaihdaa

/-
  TimersAnew: of a timer that is armed again the last time counts; Arm and Cancel as one contract each; the rows of two steps of the clock.
-/
namespace Go.Proofs.Ytpglkakbiaihdaa
open Go.RowKit Go.Shelf Go.Maps
set_option linter.unusedVariables false
set_option linter.unusedSimpArgs false

/-- What an Arm answers, where there is room. -/
def armE (x : Ent) : Int := if x.1 < 0 then 1 else timeE x.2
/-- What is armed behind it. -/
def armS (L : List Ent) (x : Ent) : List Ent := if armE x = 0 then armL L x else L
theorem armE_ok {x : Ent} (h : armE x = 0) : 0 ≤ x.1 ∧ timeE x.2 = 0 := by
  unfold armE at h
  by_cases hn : x.1 < 0
  · rw [if_pos hn] at h; omega
  · rw [if_neg hn] at h
    exact ⟨by omega, h⟩
theorem armS_length (L : List Ent) (x : Ent) : (armS L x).length ≤ L.length + 1 := by
  unfold armS
  split
  · unfold armL
    have := List.length_filter_le (fun y : Ent => y.1 != x.1) L
    rw [List.length_cons]
    omega
  · omega
theorem tarm_gen {B : Nat} {w : World} {tb : Nat} {q : QB} {m n o : Int} {L : List Ent} (h : Ts B w tb q m n o L) (hB : B ≤ w.heap.size) (x : Ent) (hx : Is64 x.1 ∧ Is64 x.2) (hr : L.length + 1 < 1099511627776) (hroom : (L.length : Int) < m) :
    Calls Try.prog 44 #[.pointer (some ⟨tb, 0, none⟩), .int .i64 x.1, .int .i64 x.2] w fun E w' => E = .returned (.int .i64 (armE x)) ∧ ∃ q', LeftQ B w w' q q' (armS L x) := by
  by_cases hn : x.1 < 0
  · have e : armE x = 1 := if_pos hn
    have s : armS L x = L := if_neg (by rw [e]; decide)
    rw [e, s]
    exact (tarm_neg x.1 x.2 hn).mono fun E w' ⟨he, hw⟩ => ⟨he, q, hw ▸ LeftQ.lies h.queue (Below.refl _ _)⟩
  · have e : armE x = timeE x.2 := if_neg hn
    by_cases ht : timeE x.2 = 0
    · have s : armS L x = armL L x := if_pos (by rw [e]; exact ht)
      rw [e, s, ht]
      exact tarm_ok h hB x.1 x.2 (by omega) ht hx hr (.inr hroom)
    · have s : armS L x = L := if_neg (by rw [e]; exact ht)
      rw [e, s]
      exact (tarm_bad x.1 x.2 (by omega) ht).mono fun E w' ⟨he, hw⟩ => ⟨he, q, hw ▸ LeftQ.lies h.queue (Below.refl _ _)⟩
theorem Duo.armed {w W W' : World} {ta : Nat} {qa qa' : QB} {ma na oa : Int} {La : List Ent} {tb : Nat} {qb : QB} {mb nb ob : Int} {Lb : List Ent} {x : Ent} (h : Duo w W ta qa ma na oa La tb qb mb nb ob Lb) (l : LeftQ w.heap.size W W' qa qa' (armS La x)) (hx : Is64 x.1 ∧ Is64 x.2) :
    Duo w W' ta qa' ma na oa (armS La x) tb qb mb nb ob Lb := by
  by_cases e : armE x = 0
  · have s : armS La x = armL La x := if_pos e
    rw [s] at l ⊢
    exact h.arm l (armE_ok e).1 (armE_ok e).2 hx
  · have s : armS La x = La := if_neg e
    rw [s] at l ⊢
    exact h.turn l h.a.diff h.a.good
/-- Cancel, whether it is armed or not. -/
theorem tcancel_gen {B : Nat} {w : World} {tb : Nat} {q : QB} {m n o : Int} {L : List Ent} (h : Ts B w tb q m n o L) (id : Int) (hid : Is64 id) :
    ∃ r, Calls Try.prog 45 #[.pointer (some ⟨tb, 0, none⟩), .int .i64 id] w fun E w' => E = .returned (.int .i64 r) ∧ LeftQ B w w' q q (L.filter (fun y => y.1 != id)) := by
  by_cases hex : ∃ y ∈ L, y.1 = id
  · obtain ⟨y, hy, rfl⟩ := hex
    exact ⟨0, (tcancel_there h y hy).mono fun E w' ⟨he, l⟩ => ⟨he, l.perm (erase_filter h.diff hy)⟩⟩
  · have hn : ∀ y ∈ L, y.1 ≠ id := fun y hy e => hex ⟨y, hy, e⟩
    rw [filter_all hn]
    exact ⟨14, (tcancel_none h id hid hn).mono fun E w' ⟨he, g⟩ => ⟨he, LeftQ.grew h.queue g⟩⟩
theorem Duo.cut {w W W' : World} {ta : Nat} {qa : QB} {ma na oa : Int} {La : List Ent} {tb : Nat} {qb : QB} {mb nb ob : Int} {Lb : List Ent} {id : Int} (h : Duo w W ta qa ma na oa La tb qb mb nb ob Lb) (l : LeftQ w.heap.size W W' qa qa (La.filter (fun y => y.1 != id))) : Duo w W' ta qa ma na oa (La.filter (fun y => y.1 != id)) tb qb mb nb ob Lb :=
  h.turn l (h.a.diff.filter _) (fun y hy => h.a.good y (List.mem_filter.1 hy).1)

/-- The last time at which a timer was armed. -/
def lastAt (ks : List Ent) (id : Int) : Int := ks.foldl (fun a k => if k.1 = id ∧ 0 ≤ k.2 ∧ k.2 < 1099511627776 then k.2 else a) (-1)
theorem lastAt_snoc (ks : List Ent) (k : Ent) (id : Int) : lastAt (ks ++ [k]) id = if k.1 = id ∧ 0 ≤ k.2 ∧ k.2 < 1099511627776 then k.2 else lastAt ks id := by
  unfold lastAt
  rw [List.foldl_append]
  rfl
theorem take_snoc {ks : List Ent} {i : Nat} (h : i < ks.length) : ks.take (i + 1) = ks.take i ++ [ks.getD i (0, 0)] := by
  rw [List.take_add_one, List.getD_eq_getElem?_getD, List.getElem?_eq_getElem h]; rfl
/-- Who is armed is so at its last time. -/
def LastK (ks L : List Ent) : Prop := ∀ x ∈ L, lastAt ks x.1 = x.2
theorem LastK.arm {ks L : List Ent} (h : LastK ks L) (h0 : ∀ x ∈ L, 0 ≤ x.1) (k : Ent) : LastK (ks ++ [k]) (armS L k) := by
  intro x hx
  rw [lastAt_snoc]
  by_cases e : armE k = 0
  · have s : armS L k = armL L k := if_pos e
    rw [s] at hx
    rcases List.mem_cons.1 hx with rfl | hm
    · have := timeE_may5 (armE_ok e).2
      rw [if_pos ⟨rfl, this⟩]
    · obtain ⟨hm, hne⟩ := List.mem_filter.1 hm
      have hne : x.1 ≠ k.1 := by simpa using hne
      rw [if_neg (fun hh => hne hh.1.symm)]
      exact h x hm
  · have s : armS L k = L := if_neg e
    rw [s] at hx
    rw [if_neg]
    · exact h x hx
    · rintro ⟨h1, h2, h3⟩
      apply e
      have := h0 x hx
      unfold armE
      rw [if_neg (by omega)]
      exact timeE_ok h2 h3

/-- Of the rows of two steps of the clock. -/
theorem flat_two (t1 t2 : Int) (ht : t1 ≤ t2) (D1 D2 : List Ent) (k : Nat) (hk : k < (D1 ++ D2).length) :
    (flatF t1 D1 ++ flatF t2 D2)[k * 3]? = some (.int .i64 ((D1 ++ D2).getD k (0, 0)).1) ∧ (flatF t1 D1 ++ flatF t2 D2)[k * 3 + 1]? = some (.int .i64 ((D1 ++ D2).getD k (0, 0)).2) ∧ ∃ z, (flatF t1 D1 ++ flatF t2 D2)[k * 3 + 2]? = some (.int .i64 z) ∧ z ≤ t2 - ((D1 ++ D2).getD k (0, 0)).2 := by
  by_cases h : k < D1.length
  · obtain ⟨f0, f1, f2⟩ := flatF_at t1 D1 k h
    have e : (D1 ++ D2).getD k (0, 0) = D1.getD k (0, 0) := by
      rw [List.getD_eq_getElem?_getD, List.getD_eq_getElem?_getD, List.getElem?_append_left h]
    have hl := len_flatF t1 D1
    rw [e, List.getElem?_append_left (by omega), List.getElem?_append_left (by omega), List.getElem?_append_left (by omega)]
    exact ⟨f0, f1, _, f2, by omega⟩
  · rw [List.length_append] at hk
    obtain ⟨f0, f1, f2⟩ := flatF_at t2 D2 (k - D1.length) (by omega)
    have e : (D1 ++ D2).getD k (0, 0) = D2.getD (k - D1.length) (0, 0) := by
      rw [List.getD_eq_getElem?_getD, List.getD_eq_getElem?_getD, List.getElem?_append_right (by omega)]
    have hl := len_flatF t1 D1
    rw [e, List.getElem?_append_right (by omega), List.getElem?_append_right (by omega), List.getElem?_append_right (by omega), hl, (by omega : k * 3 - D1.length * 3 = (k - D1.length) * 3), (by omega : k * 3 + 1 - D1.length * 3 = (k - D1.length) * 3 + 1), (by omega : k * 3 + 2 - D1.length * 3 = (k - D1.length) * 3 + 2)]
    exact ⟨f0, f1, _, f2, Int.le_refl _⟩
end Go.Proofs.Ytpglkakbiaihdaa

/-
  Timers and the reference's, side by side: what a call of one leaves of the other; each call of timers as one contract.
-/
namespace Go.Proofs.Ytpglkakbiaihdaa
open Go.RowKit Go.Shelf Go.Maps
set_option linter.unusedVariables false
set_option linter.unusedSimpArgs false

theorem Qs.kinds4 {B : Nat} {W : World} {q : QB} {L : List Ent} (h : Qs B W q L) : ∀ k, q.own k → ∃ ob, W.heap[k]? = some ob ∧ tyOf ob ≠ some 48 ∧ tyOf ob ≠ some 37 ∧ tyOf ob ≠ some 125 := by
  rintro k ((hm | hm) | rfl | rfl)
  · obtain ⟨ob, ho, ht⟩ := h.up.kinds k hm
    refine ⟨ob, ho, ?_⟩
    rcases ht with e | e | e <;> rw [e] <;> exact ⟨by decide, by decide, by decide⟩
  · obtain ⟨ob, ho, ht⟩ := h.down.kinds k hm
    refine ⟨ob, ho, ?_⟩
    rcases ht with e | e | e <;> rw [e] <;> exact ⟨by decide, by decide, by decide⟩
  · exact ⟨_, h.obj, by show some _ ≠ _; decide, by show some _ ≠ _; decide, by show some _ ≠ _; decide⟩
  · exact ⟨_, h.box, by show some _ ≠ _; decide, by show some _ ≠ _; decide, by show some _ ≠ _; decide⟩

/-- Timers and the reference's that hold the same, in order. -/
structure Pt (B : Nat) (W : World) (tb : Nat) (q : QB) (m n o : Int) (rq rh : Nat) (S : List Ent) : Prop where
  ts : Ts 0 W tb q m n o S
  rf : Rq B W rq rh m n o S
  sorted : Sorted S
  base : B ≤ W.heap.size
  turn : ∀ k, q.turns k ∨ k = tb → B ≤ k
theorem Ts.kinds4 {B : Nat} {W : World} {tb : Nat} {q : QB} {m n o : Int} {L : List Ent} (h : Ts B W tb q m n o L) : ∀ k, q.own k ∨ k = tb → ∃ ob, W.heap[k]? = some ob ∧ tyOf ob ≠ some 48 ∧ tyOf ob ≠ some 37 ∧ tyOf ob ≠ some 125 := by
  rintro k (hk | rfl)
  · exact h.queue.kinds4 k hk
  · exact ⟨_, h.obj, by show some _ ≠ _; decide, by show some _ ≠ _; decide, by show some _ ≠ _; decide⟩
/-- The reference behind a call of the timers. -/
theorem Rq.beside {B B' : Nat} {W W' : World} {tb : Nat} {q : QB} {m n o m' n' o' : Int} {rq rh : Nat} {L S : List Ent} (h : Rq B W rq rh m n o S) (t : Ts B' W tb q m' n' o' L) (k0 : Kept (fun k => q.turns k ∨ k = tb) W W') : Rq B W' rq rh m n o S := by
  have k : Kept (fun k => q.own k ∨ k = tb) W W' := k0.mono (fun _ _ e => e.imp .inl (fun x => x))
  refine ⟨(k.block rq h.lt (fun hs => ?_)).trans h.obj, h.ref.kept k (fun b ob hs hb => ?_), h.base⟩
  · obtain ⟨ob, ho, _, _, e⟩ := t.kinds4 rq hs
    rw [h.obj] at ho
    cases ho
    exact e rfl
  · obtain ⟨ob', ho, e1, e2, _⟩ := t.kinds4 b hs
    rw [hb] at ho
    cases ho
    exact ⟨e1, e2⟩
/-- The timers behind a call of the reference. -/
theorem Ts.beside {B B' : Nat} {W W' : World} {tb : Nat} {q : QB} {m n o m' n' o' : Int} {rq rh : Nat} {L S : List Ent} (h : Ts B W tb q m n o L) (r : Rq B' W rq rh m' n' o' S) (k : Kept (fun k => k = rh ∨ k = rq) W W') : Ts B W' tb q m n o L := by
  refine h.kept k (fun b hb hs => ?_)
  obtain ⟨ob, ho, e1, _, e3⟩ := h.kinds4 b hb
  rcases hs with rfl | rfl
  · obtain ⟨a, cap, h1, _⟩ := r.ref
    rw [h1] at ho
    cases ho
    exact e1 rfl
  · rw [r.obj] at ho
    cases ho
    exact e3 rfl
theorem LeftQ.keptO {B : Nat} {W W' : World} {q q' : QB} {L : List Ent} {tb : Nat} (l : LeftQ B W W' q q' L) : Kept (fun k => q.turns k ∨ k = tb) W W' := l.kept.mono (fun _ _ e => .inl e)

theorem armR_room {m : Int} {S : List Ent} {id : Int} (h : ¬ (has S id = false ∧ m ≤ (S.length : Int))) : Room m S id := by
  by_cases e : has S id = true
  · obtain ⟨y, hy, he⟩ := has_yes.1 e
    exact .inl ⟨y, hy, he⟩
  · have e' : has S id = false := by simpa using e
    exact .inr (by have : ¬ m ≤ (S.length : Int) := fun hh => h ⟨e', hh⟩; omega)
/-- Arm. -/
theorem tarm_all {B : Nat} {w : World} {tb : Nat} {q : QB} {m n o : Int} {S : List Ent} (h : Ts B w tb q m n o S) (hB : B ≤ w.heap.size) (x : Ent) (hx : Is64 x.1 ∧ Is64 x.2) (hr : S.length + 1 < 1099511627776) :
    Calls Try.prog 44 #[.pointer (some ⟨tb, 0, none⟩), .int .i64 x.1, .int .i64 x.2] w fun E w' => E = .returned (.int .i64 (armR m S x)) ∧ (∃ q', Ts B w' tb q' m n o (armT m S x) ∧ ∀ k, q'.turns k → q.turns k ∨ w.heap.size ≤ k) ∧ Kept (fun k => q.turns k ∨ k = tb) w w' := by
  have same : ∀ w', Below w.heap.size w w' → (∃ q', Ts B w' tb q' m n o S ∧ ∀ k, q'.turns k → q.turns k ∨ w.heap.size ≤ k) ∧ Kept (fun k => q.turns k ∨ k = tb) w w' := fun w' b => ⟨⟨q, h.lies b, fun _ x => .inl x⟩, kept_lies b⟩
  by_cases hid : x.1 < 0
  · have e : armR m S x = 1 := if_pos hid
    have t : armT m S x = S := if_neg (by rw [e]; decide)
    rw [e, t]
    exact (tarm_neg x.1 x.2 hid).mono fun E w' ⟨he, hw⟩ => ⟨he, same w' (hw ▸ Below.refl _ _)⟩
  by_cases hat : timeE x.2 = 0
  · by_cases hf : has S x.1 = false ∧ m ≤ (S.length : Int)
    · have e : armR m S x = 13 := by unfold armR; rw [if_neg hid, if_neg (by simp [hat]), if_pos hf]
      have t : armT m S x = S := if_neg (by rw [e]; decide)
      rw [e, t]
      have hroom : ¬ Room m S x.1 := by
        rintro (⟨y, hy, he⟩ | e2)
        · exact has_no.1 hf.1 y hy he
        · have := hf.2; omega
      refine (tarm_core x.1 x.2 13 (by omega) hat _ (tset_no h x.1 x.2 hx.1 hroom)).mono ?_
      rintro E w' ⟨rfl, l⟩
      exact ⟨rfl, ⟨q, h.left l h.diff h.good, fun _ x => .inl x⟩, l.keptO⟩
    · have e : armR m S x = 0 := by unfold armR; rw [if_neg hid, if_neg (by simp [hat]), if_neg hf]
      have t : armT m S x = layR x (but S x.1) := if_pos e
      rw [e, t]
      refine (tarm_ok h hB x.1 x.2 (by omega) hat hx hr (armR_room hf)).mono ?_
      rintro E w' ⟨rfl, q', l⟩
      have hp : (armL S (x.1, x.2)).Perm (layR x (but S x.1)) := (layR_perm x (but S x.1)).symm
      have ta := h.arm l (by omega) hat hx
      exact ⟨rfl, ⟨q', h.left (l.perm hp) ((List.Perm.pairwise_iff (R := fun x y : Ent => x.1 ≠ y.1) (fun h => h.symm) hp).1 ta.diff) (fun y hy => ta.good y (hp.mem_iff.2 hy)), fun k hk => l.moved k hk⟩, l.keptO⟩
  · have e : armR m S x = timeE x.2 := by unfold armR; rw [if_neg hid, if_pos hat]
    have t : armT m S x = S := if_neg (by rw [e]; exact hat)
    rw [e, t]
    exact (tarm_bad x.1 x.2 (by omega) hat).mono fun E w' ⟨he, hw⟩ => ⟨he, same w' (hw ▸ Below.refl _ _)⟩
theorem but_sorted {S : List Ent} (h : Sorted S) (id : Int) : Sorted (but S id) := List.Pairwise.filter _ h
theorem armT_sorted {m : Int} {S : List Ent} (h : Sorted S) (x : Ent) : Sorted (armT m S x) := by
  unfold armT
  split
  · exact layR_sorted x (but_sorted h _) (fun y hy => by simpa using (List.mem_filter.1 hy).2)
  · exact h
theorem armT_len (m : Int) (S : List Ent) (x : Ent) : (armT m S x).length ≤ S.length + 1 := by
  unfold armT
  split
  · rw [layR_len]
    have := but_len S x.1
    omega
  · omega

/-- Cancel. -/
theorem tcancel_all {B : Nat} {w : World} {tb : Nat} {q : QB} {m n o : Int} {S : List Ent} (h : Ts B w tb q m n o S) (id : Int) (hid : Is64 id) :
    Calls Try.prog 45 #[.pointer (some ⟨tb, 0, none⟩), .int .i64 id] w fun E w' => E = .returned (.int .i64 (if has S id then 0 else 14)) ∧ Ts B w' tb q m n o (but S id) ∧ Kept (fun k => q.turns k ∨ k = tb) w w' := by
  by_cases hex : has S id = true
  · rw [hex]
    obtain ⟨y, hy, rfl⟩ := has_yes.1 hex
    refine (tcancel_there h y hy).mono ?_
    rintro E w' ⟨rfl, l⟩
    exact ⟨rfl, h.left (l.perm (erase_filter h.diff hy)) (h.diff.filter _) (fun z hz => h.good z (List.mem_filter.1 hz).1), l.keptO⟩
  · have e : has S id = false := by simpa using hex
    rw [e]
    have hn := has_no.1 e
    rw [but, filter_all hn]
    exact (tcancel_none h id hid hn).mono fun E w' ⟨he, g⟩ => ⟨he, h.grew g, g.kept _⟩

set_option maxHeartbeats 1000000 in
theorem tdue_bad {w : World} {tb : Nat} (t : Int) (ht : timeE t ≠ 0) :
    Calls Try.prog 46 #[.pointer (some ⟨tb, 0, none⟩), .int .i64 t] w fun E w' => E = .returned (.tuple #[.slice none 0 0, .int .i64 (timeE t)]) ∧ w = w' := by
  have C1 : ∀ W, Hid (Calls Try.prog 76 #[.int .i64 t] W fun E w' => E = .returned (.int .i64 (timeE t)) ∧ W = w') := fun W => time_any t W
  have h1 : (timeE t != 0) = true := by simpa using ht
  clear ht
  generalize timeE t = r at *
  go_enter Try.func46, Try.ntmps46
  go_wp2_with fail
  refine (C1 _).out.mono ?_
  rintro E w1 ⟨rfl, rfl⟩
  go_wp2
  refine bodyPost_ret (v := .tuple #[.slice none 0 0, .int .i64 r]) (by simp [results, Try.f46, go_sem]) rfl ⟨rfl, rfl⟩
set_option maxHeartbeats 1000000 in
theorem tdue_early {B : Nat} {w : World} {tb : Nat} {q : QB} {m n o : Int} {S : List Ent} (h : Ts B w tb q m n o S) (t : Int) (ht : timeE t = 0) (hn : t < n) :
    Calls Try.prog 46 #[.pointer (some ⟨tb, 0, none⟩), .int .i64 t] w fun E w' => E = .returned (.tuple #[.slice none 0 0, .int .i64 10]) ∧ w = w' := by
  have C1 : ∀ W, Hid (Calls Try.prog 76 #[.int .i64 t] W fun E w' => E = .returned (.int .i64 0) ∧ W = w') := fun W => by
    have := time_any t W
    rw [ht] at this
    exact this
  have h1 : decide (t < n) = true := decide_eq_true hn
  obtain ⟨c0, c1, c2, c3⟩ := h.cells
  clear ht h hn
  go_enter Try.func46, Try.ntmps46
  go_wp2_with fail
  refine (C1 _).out.mono ?_
  rintro E w1 ⟨rfl, rfl⟩
  go_wp2
  refine bodyPost_ret (v := .tuple #[.slice none 0 0, .int .i64 10]) (by simp [results, Try.f46, go_sem]) rfl ⟨rfl, rfl⟩

theorem sorted_le {S : List Ent} (h : Sorted S) (t : Int) : ∀ x ∈ S.drop (untilN t S), t < x.2 := by
  intro x hx
  have hlt : untilN t S < S.length := by
    by_cases e : untilN t S < S.length
    · exact e
    · rw [List.drop_eq_nil_of_le (by omega)] at hx
      cases hx
  have h0 := untilN_at t S hlt
  rw [List.drop_eq_getElem_cons hlt] at hx
  have e0 : S.getD (untilN t S) (0, 0) = S[untilN t S] := by rw [List.getD_eq_getElem?_getD, List.getElem?_eq_getElem hlt]; rfl
  rw [e0] at h0
  rcases List.mem_cons.1 hx with rfl | hx
  · exact h0
  · have hp : Sorted (S.drop (untilN t S)) := h.sublist (List.drop_sublist _ _)
    rw [List.drop_eq_getElem_cons hlt] at hp
    have := (List.pairwise_cons.1 hp).1 x hx
    rw [ah_eq] at this
    simp only [decide_eq_true_eq] at this
    omega
theorem take_le (S : List Ent) (t : Int) : ∀ x ∈ S.take (untilN t S), x.2 ≤ t := by
  intro x hx
  obtain ⟨i, hi, e⟩ := List.getElem_of_mem hx
  have hiN : i < untilN t S := by have := hi; rw [List.length_take] at this; omega
  have hiS : i < S.length := by have := untilN_le t S; omega
  have := untilN_lt t S i hiN
  rw [List.getD_eq_getElem?_getD, List.getElem?_eq_getElem hiS] at this
  rw [← e, List.getElem_take]
  exact this
/-- What a step of the clock takes away of timers in order. -/
theorem due_is {t o o' : Int} {S D Lc : List Ent} (hs : Sorted S) (h : DueI t o S D Lc o') (hl : ∀ y ∈ Lc, t < y.2) : D = S.take (untilN t S) ∧ Lc.Perm (S.drop (untilN t S)) ∧ o' = worstR t o (S.take (untilN t S)) := by
  have p2 : S = S.take (untilN t S) ++ S.drop (untilN t S) := (List.take_append_drop _ _).symm
  have f : ∀ (A C : List Ent), (∀ x ∈ A, x.2 ≤ t) → (∀ x ∈ C, t < x.2) → (A ++ C).filter (fun x => decide (x.2 ≤ t)) = A ∧ (A ++ C).filter (fun x => !decide (x.2 ≤ t)) = C := fun A C ha hc => by
    rw [List.filter_append, List.filter_append]
    have e1 : A.filter (fun x => decide (x.2 ≤ t)) = A := List.filter_eq_self.2 fun x hx => decide_eq_true (ha x hx)
    have e2 : C.filter (fun x => decide (x.2 ≤ t)) = [] := List.filter_eq_nil_iff.2 fun x hx => by have := hc x hx; simp; omega
    have e3 : A.filter (fun x => !decide (x.2 ≤ t)) = [] := List.filter_eq_nil_iff.2 fun x hx => by have := ha x hx; simp; omega
    have e4 : C.filter (fun x => !decide (x.2 ≤ t)) = C := List.filter_eq_self.2 fun x hx => by have := hc x hx; simp; omega
    rw [e1, e2, e3, e4]
    exact ⟨List.append_nil _, rfl⟩
  obtain ⟨a1, a2⟩ := f D Lc h.early hl
  obtain ⟨b1, b2⟩ := f (S.take (untilN t S)) (S.drop (untilN t S)) (take_le S t) (sorted_le hs t)
  rw [← p2] at b1 b2
  have q1 := h.perm.filter (fun x => decide (x.2 ≤ t))
  have q2 := h.perm.filter (fun x => !decide (x.2 ≤ t))
  rw [a1, b1] at q1
  rw [a2, b2] at q2
  have hD : D = S.take (untilN t S) := sorted_eq q1.symm h.sorted (hs.sublist (List.take_sublist _ _))
  refine ⟨hD, q2.symm, ?_⟩
  rw [h.worst, hD]
  rfl

/-- When. -/
theorem twhen_core {B : Nat} {w : World} {tb : Nat} {q : QB} {m n o : Int} {L : List Ent} (h : Ts B w tb q m n o L) (id a b e : Int)
    (hc : Calls Try.prog 34 #[.pointer (some ⟨q.qb, 0, none⟩), .int .i64 id] w fun E w' => E = .returned (.tuple #[.agg #[.int .i64 a, .int .i64 b], .int .i64 e]) ∧ Grew w w') :
    Calls Try.prog 81 #[.pointer (some ⟨tb, 0, none⟩), .int .i64 id] w fun E w' => E = .returned (.tuple #[.int .i64 a, .int .i64 e]) ∧ Grew w w' := by
  have C1 := Lib.hid (byTime_any h)
  have C2 := Lib.hid hc
  clear h hc
  go_enter Try.func81, Try.ntmps81
  go_wp2_with (first | (go_at_call 83; (with_reducible refine C1.out.mono ?_); rintro E w1 ⟨rfl, hw1⟩; subst hw1) | (go_at_call 34; (with_reducible refine C2.out.mono ?_); rintro E w2 ⟨rfl, g2⟩; have G2 := Lib.hid g2; clear g2))
  refine bodyPost_ret (v := .tuple #[.int .i64 a, .int .i64 e]) (by simp [results, Try.f81, go_sem]) rfl ⟨rfl, ?_⟩
  exact G2.out.alloc _
end Go.Proofs.Ytpglkakbiaihdaa

/-
  The law's does, of timers: both stay the same, and answer alike.
-/
namespace Go.Proofs.Ytpglkakbiaihdaa
open Go.RowKit Go.Shelf Go.Maps
set_option linter.unusedVariables false
set_option linter.unusedSimpArgs false

/-- The law's call, boxed. -/
def Op5 (W : World) (b : Nat) (k id t : Int) : Prop := W.heap[b]? = some (.cells #[.int .i64 k, .int .i64 id, .int .i64 t] 75 (0, 0))
theorem Op5.lt {W : World} {b : Nat} {x y z : Int} (h : Op5 W b x y z) : b < W.heap.size := (Array.getElem?_eq_some_iff.1 h).1
theorem Op5.cells {W : World} {b : Nat} {x y z : Int} (h : Op5 W b x y z) : W.cell? ⟨b, 0, none⟩ = some (.int .i64 x) ∧ W.cell? ⟨b, 1, none⟩ = some (.int .i64 y) ∧ W.cell? ⟨b, 2, none⟩ = some (.int .i64 z) := by
  unfold Op5 at h
  refine ⟨?_, ?_, ?_⟩ <;> simp [World.cell?, h]
theorem Op5.lies {W W' : World} {b : Nat} {x y z : Int} (h : Op5 W b x y z) (hb : Below W.heap.size W W') : Op5 W' b x y z := (hb.block b h.lt).trans h
theorem Op5.kept {W W' : World} {b : Nat} {x y z : Int} {S : Nat → Prop} (h : Op5 W b x y z) (k : Kept S W W') (hs : ¬ S b) : Op5 W' b x y z := (k.block b h.lt hs).trans h

theorem Pt.lies {B : Nat} {W W' : World} {tb : Nat} {q : QB} {m n o : Int} {rq rh : Nat} {S : List Ent} (h : Pt B W tb q m n o rq rh S) (b : Below W.heap.size W W') : Pt B W' tb q m n o rq rh S := ⟨h.ts.lies b, h.rf.lies b, h.sorted, Nat.le_trans h.base b.size, h.turn⟩
theorem Pt.diff {B : Nat} {W : World} {tb : Nat} {q : QB} {m n o : Int} {rq rh : Nat} {S : List Ent} (h : Pt B W tb q m n o rq rh S) : Diff S := h.ts.diff
theorem own_from {B : Nat} {W W' : World} {tb : Nat} {q : QB} (h : ∀ k, q.turns k ∨ k = tb → B ≤ k) (k : Kept (fun k => q.turns k ∨ k = tb) W W') (hB : B ≤ W.heap.size) : Below B W W' :=
  k.below hB h
theorem ref_from {B : Nat} {W W' : World} {rq rh : Nat} {m n o : Int} {S : List Ent} (h : Rq B W rq rh m n o S) (hr : B ≤ rh) (k : Kept (fun k => k = rh ∨ k = rq) W W') (hB : B ≤ W.heap.size) : Below B W W' :=
  k.below hB (fun b hb => by
    rcases hb with rfl | rfl
    · exact hr
    · exact h.base)
/-- What a call leaves of both. -/
def Did5 (B : Nat) (W W' : World) (tb : Nat) (m n0 : Int) (rq rh : Nat) (len : Nat) : Prop := ∃ q n o S, Pt B W' tb q m n o rq rh S ∧ S.length ≤ len + 1 ∧ Below B W W' ∧ (n = n0 ∨ timeE n = 0)

set_option maxHeartbeats 4000000 in
set_option maxRecDepth 20000 in
theorem does5_arm {B : Nat} {W : World} {tb : Nat} {q : QB} {m n o : Int} {rq rh : Nat} {S : List Ent} (h : Pt B W tb q m n o rq rh S) (hrh : B ≤ rh) (hl : S.length + 1 < 1099511627776) (id t : Int) (hx : Is64 id ∧ Is64 t) :
    Calls Try.prog 40 #[.pointer (some ⟨tb, 0, none⟩), .pointer (some ⟨rq, 0, none⟩), .agg #[.int .i64 0, .int .i64 id, .int .i64 t]] W fun E w' => E = .returned (.bool true) ∧ Did5 B W w' tb m n rq rh S.length := by
  obtain ⟨W0, hW0⟩ : ∃ W0, W.alloc (.cells #[.int .i64 0, .int .i64 id, .int .i64 t] 75) = W0 := ⟨_, rfl⟩
  have b0 : Below W.heap.size W W0 := by rw [← hW0]; exact (Below.refl _ _).alloc (Nat.le_refl _) _
  have o0 : Op5 W0 W.heap.size 0 id t := by rw [← hW0]; exact heap_alloc_new _ _
  have P0 := Lib.hid (h.lies b0)
  have HB : Hid (Below W.heap.size W W0 ∧ B ≤ W.heap.size ∧ B ≤ rh) := ⟨b0, h.base, hrh⟩
  have OFF : Hid ((∀ k, q.own k ∨ k = tb → k < W.heap.size) ∧ rh < W.heap.size ∧ rq < W.heap.size) := ⟨fun k hk => by
      rcases hk with hk | rfl
      · exact h.ts.queue.lt k hk
      · exact h.ts.lt, by obtain ⟨a, cap, h1, _⟩ := h.rf.ref; exact (Array.getElem?_eq_some_iff.1 h1).1, h.rf.lt⟩
  have HO := Lib.hid o0
  have HW := Lib.hid hW0
  obtain ⟨ob, hob⟩ : ∃ ob, W.heap.size = ob := ⟨_, rfl⟩
  have CA : Hid (∀ W', Below W0.heap.size W0 W' → Calls Try.prog 44 #[.pointer (some ⟨tb, 0, none⟩), .int .i64 id, .int .i64 t] W' fun E w' => E = .returned (.int .i64 (armR m S (id, t))) ∧ Hid ((∃ q', Ts 0 w' tb q' m n o (armT m S (id, t)) ∧ ∀ k, q'.turns k ∨ k = tb → B ≤ k) ∧ Rq B w' rq rh m n o S ∧ Below B W w' ∧ Op5 w' ob 0 id t) ∧ w'.cell? ⟨ob, 1, none⟩ = some (.int .i64 id) ∧ w'.cell? ⟨ob, 2, none⟩ = some (.int .i64 t)) := fun W' b => by
    have p := P0.out.lies b
    refine (tarm_all p.ts (Nat.zero_le _) (id, t) hx hl).mono ?_
    rintro E w' ⟨rfl, ⟨q', hts, hmv⟩, k⟩
    have hq : ∃ q', Ts 0 w' tb q' m n o (armT m S (id, t)) ∧ ∀ k, q'.turns k ∨ k = tb → B ≤ k := ⟨q', hts, fun j hj => by
      rcases hj with hj | hj
      · rcases hmv j hj with e | e
        · exact p.turn j (.inl e)
        · exact Nat.le_trans p.base e
      · exact p.turn j (.inr hj)⟩
    have oo : Op5 w' ob 0 id t := by
      rw [← hob]
      exact (HO.out.lies b).kept k (fun hs => by have := OFF.out.1 _ (hs.imp .inl (fun x => x)); omega)
    exact ⟨rfl, ⟨hq, p.rf.beside p.ts k, ((HB.out.1.mono HB.out.2.1).trans (b.mono (Nat.le_trans HB.out.2.1 HB.out.1.size))).trans (own_from p.turn k p.base), oo⟩, oo.cells.2.1, oo.cells.2.2⟩
  have CB : Hid (∀ W', Hid ((∃ q', Ts 0 W' tb q' m n o (armT m S (id, t)) ∧ ∀ k, q'.turns k ∨ k = tb → B ≤ k) ∧ Rq B W' rq rh m n o S ∧ Below B W W' ∧ Op5 W' ob 0 id t) → Calls Try.prog 79 #[.pointer (some ⟨rq, 0, none⟩), .int .i64 id, .int .i64 t] W' fun E w' => E = .returned (.int .i64 (armR m S (id, t))) ∧ Hid (Did5 B W w' tb m n rq rh S.length) ∧ w'.cell? ⟨ob, 1, none⟩ = some (.int .i64 id) ∧ w'.cell? ⟨ob, 2, none⟩ = some (.int .i64 t)) := fun W' hh => by
    obtain ⟨⟨q', ts, htn⟩, rf, bl, oo⟩ := hh.out
    have hB : B ≤ W'.heap.size := Nat.le_trans HB.out.2.1 bl.size
    refine (rarm_any rf P0.out.diff (by omega) hB (id, t)).mono ?_
    rintro E w' ⟨rfl, r, k⟩
    have k2 : Kept (fun k => k = rh ∨ k = rq) W' w' := k.mono (fun _ _ e => .inl e)
    have oo' : Op5 w' ob 0 id t := oo.kept k2 (fun hs => by have := OFF.out.2; omega)
    exact ⟨rfl, ⟨q', n, o, armT m S (id, t), ⟨ts.beside rf k2, r, armT_sorted P0.out.sorted _, Nat.le_trans hB k.size, htn⟩, armT_len m S (id, t), bl.trans (ref_from rf HB.out.2.2 k2 hB), .inl rfl⟩, oo'.cells.2.1, oo'.cells.2.2⟩
  obtain ⟨k0, k1, k2⟩ := o0.cells
  clear h b0 o0 hW0 hx hl hrh
  rw [hob] at k0 k1 k2
  generalize armR m S (id, t) = r at *
  have rr : (r == r) = true := by simp
  go_enter Try.func40, Try.ntmps40
  go_wp2_with fail
  rw [HW.out]
  try rw [hob]
  go_region_held3 (fun w' => w'.cell? ⟨ob, 1, none⟩ = some (.int .i64 id) ∧ w'.cell? ⟨ob, 2, none⟩ = some (.int .i64 t))
    (first | exact ⟨k1, k2⟩ | exact ⟨s0, s1⟩ | exact ⟨u0, u1⟩)
    (first
      | (go_at_call 79; (with_reducible refine (CB.out _ hq9).mono ?_); rintro E w8 ⟨rfl, hq8, u0, u1⟩)
      | (go_at_call 44; (refine (CA.out _ (grewN W0 1).below).mono ?_); rintro E w9 ⟨rfl, hq9, s0, s1⟩))
  have R8 := hq8
  clear CA CB k0 k1 k2 u0 u1 hq8
  go_wp2
  go_ret
  exact ⟨rfl, R8.out⟩

set_option maxHeartbeats 4000000 in
set_option maxRecDepth 20000 in
theorem does5_cancel {B : Nat} {W : World} {tb : Nat} {q : QB} {m n o : Int} {rq rh : Nat} {S : List Ent} (h : Pt B W tb q m n o rq rh S) (hrh : B ≤ rh) (hl : S.length + 1 < 1099511627776) (id t : Int) (hx : Is64 id) :
    Calls Try.prog 40 #[.pointer (some ⟨tb, 0, none⟩), .pointer (some ⟨rq, 0, none⟩), .agg #[.int .i64 1, .int .i64 id, .int .i64 t]] W fun E w' => E = .returned (.bool true) ∧ Did5 B W w' tb m n rq rh S.length := by
  obtain ⟨W0, hW0⟩ : ∃ W0, W.alloc (.cells #[.int .i64 1, .int .i64 id, .int .i64 t] 75) = W0 := ⟨_, rfl⟩
  have b0 : Below W.heap.size W W0 := by rw [← hW0]; exact (Below.refl _ _).alloc (Nat.le_refl _) _
  have o0 : Op5 W0 W.heap.size 1 id t := by rw [← hW0]; exact heap_alloc_new _ _
  have P0 := Lib.hid (h.lies b0)
  have HB : Hid (Below W.heap.size W W0 ∧ B ≤ W.heap.size ∧ B ≤ rh) := ⟨b0, h.base, hrh⟩
  have OFF : Hid ((∀ k, q.own k ∨ k = tb → k < W.heap.size) ∧ rh < W.heap.size ∧ rq < W.heap.size) := ⟨fun k hk => by
      rcases hk with hk | rfl
      · exact h.ts.queue.lt k hk
      · exact h.ts.lt, by obtain ⟨a, cap, h1, _⟩ := h.rf.ref; exact (Array.getElem?_eq_some_iff.1 h1).1, h.rf.lt⟩
  have HO := Lib.hid o0
  have HW := Lib.hid hW0
  obtain ⟨ob, hob⟩ : ∃ ob, W.heap.size = ob := ⟨_, rfl⟩
  obtain ⟨r, hr⟩ : ∃ r : Int, (if has S id then 0 else 14) = r := ⟨_, rfl⟩
  have CA : Hid (∀ W', Below W0.heap.size W0 W' → Calls Try.prog 67 #[.pointer (some ⟨rh, 0, none⟩), .int .i64 id] W' fun E w' => (∃ k, E = .returned (.tuple #[.int .i64 k, .int .i64 r])) ∧ Hid (Ts 0 w' tb q m n o S ∧ Rq B w' rq rh m n o (but S id) ∧ Below B W w' ∧ Op5 w' ob 1 id t) ∧ w'.cell? ⟨ob, 1, none⟩ = some (.int .i64 id) ∧ w'.cell? ⟨rq, 1, none⟩ = some (.pointer (some ⟨rh, 0, none⟩))) := fun W' b => by
    have p := P0.out.lies b
    refine (rdrop_any B W' rh S (by omega) p.base p.rf.ref p.diff id).mono ?_
    rintro E w' ⟨⟨k, rfl⟩, r1, kk⟩
    have k2 : Kept (fun k => k = rh ∨ k = rq) W' w' := kk.mono (fun _ _ e => .inl e)
    have oo : Op5 w' ob 1 id t := by
      rw [← hob]
      exact (HO.out.lies b).kept k2 (fun hs => by have := OFF.out.2; omega)
    have rf := p.rf.turn r1 kk
    rw [hr]
    exact ⟨⟨k, rfl⟩, ⟨p.ts.beside p.rf k2, rf, ((HB.out.1.mono HB.out.2.1).trans (b.mono (Nat.le_trans HB.out.2.1 HB.out.1.size))).trans (ref_from p.rf HB.out.2.2 k2 p.base), oo⟩, oo.cells.2.1, rf.cells.2.1⟩
  have CB : Hid (∀ W', Hid (Ts 0 W' tb q m n o S ∧ Rq B W' rq rh m n o (but S id) ∧ Below B W W' ∧ Op5 W' ob 1 id t) → Calls Try.prog 45 #[.pointer (some ⟨tb, 0, none⟩), .int .i64 id] W' fun E w' => E = .returned (.int .i64 r) ∧ Hid (Did5 B W w' tb m n rq rh S.length)) := fun W' hh => by
    obtain ⟨ts, rf, bl, oo⟩ := hh.out
    have hB : B ≤ W'.heap.size := Nat.le_trans HB.out.2.1 bl.size
    refine (tcancel_all ts id hx).mono ?_
    rintro E w' ⟨rfl, t2, k⟩
    rw [hr]
    exact ⟨rfl, ⟨q, n, o, but S id, ⟨t2, rf.beside ts k, but_sorted P0.out.sorted id, Nat.le_trans hB k.size, P0.out.turn⟩, by have := but_len S id; omega, bl.trans (own_from P0.out.turn k hB), .inl rfl⟩⟩
  have c1 := P0.out.rf.cells.2.1
  obtain ⟨k0, k1, k2⟩ := o0.cells
  clear h b0 o0 hW0 hx hl hrh hr
  rw [hob] at k0 k1 k2
  have rr : (r == r) = true := by simp
  go_enter Try.func40, Try.ntmps40
  go_wp2_with fail
  rw [HW.out]
  try rw [hob]
  go_region_held3 (fun w' => w'.cell? ⟨ob, 1, none⟩ = some (.int .i64 id) ∧ w'.cell? ⟨rq, 1, none⟩ = some (.pointer (some ⟨rh, 0, none⟩)))
    (first | exact ⟨k1, c1⟩ | exact ⟨s0, s1⟩)
    (first
      | (go_at_call 67; (refine (CA.out _ (grewN W0 1).below).mono ?_); rintro E w9 ⟨⟨j, rfl⟩, hq9, s0, s1⟩))
  clear CA k0 k1 k2 c1
  have k1 := hq9.out.2.2.2.cells.2.1
  have C2 := Lib.hid (CB.out _ hq9)
  go_wp2_with fail
  refine C2.out.mono ?_
  rintro E w8 ⟨rfl, hq8⟩
  go_wp2
  go_ret
  exact ⟨rfl, hq8.out⟩

set_option maxHeartbeats 2000000 in
set_option maxRecDepth 20000 in
theorem does5_when {B : Nat} {W : World} {tb : Nat} {q : QB} {m n o : Int} {rq rh : Nat} {S : List Ent} (h : Pt B W tb q m n o rq rh S) (hl : S.length + 1 < 1099511627776) (k id t : Int) (hk : k ≠ 0 ∧ k ≠ 1 ∧ k ≠ 2) (hx : Is64 id) :
    Calls Try.prog 40 #[.pointer (some ⟨tb, 0, none⟩), .pointer (some ⟨rq, 0, none⟩), .agg #[.int .i64 k, .int .i64 id, .int .i64 t]] W fun E w' => E = .returned (.bool true) ∧ Did5 B W w' tb m n rq rh S.length := by
  obtain ⟨W0, hW0⟩ : ∃ W0, W.alloc (.cells #[.int .i64 k, .int .i64 id, .int .i64 t] 75) = W0 := ⟨_, rfl⟩
  have b0 : Below W.heap.size W W0 := by rw [← hW0]; exact (Below.refl _ _).alloc (Nat.le_refl _) _
  have o0 : Op5 W0 W.heap.size k id t := by rw [← hW0]; exact heap_alloc_new _ _
  have P0 := Lib.hid (h.lies b0)
  have HB : Hid (Below B W W0) := b0.mono h.base
  have HW := Lib.hid hW0
  obtain ⟨ob, hob⟩ : ∃ ob, W.heap.size = ob := ⟨_, rfl⟩
  rw [hob] at o0
  have DONE : Hid (∀ W', Below W0.heap.size W0 W' → Did5 B W W' tb m n rq rh S.length) := fun W' b => ⟨q, n, o, S, P0.out.lies b, by omega, HB.out.trans (b.mono P0.out.base), .inl rfl⟩
  have RF : Hid (∀ W', Below W0.heap.size W0 W' → Rq B W' rq rh m n o S ∧ Op5 W' ob k id t) := fun W' b => ⟨P0.out.rf.lies b, o0.lies b⟩
  have n0 : (k == 0) = false := by simpa using hk.1
  have n1 : (k == 1) = false := by simpa using hk.2.1
  have n2 : (k == 2) = false := by simpa using hk.2.2
  obtain ⟨k0, k1, k2⟩ := o0.cells
  rcases find_any h.diff id with ⟨h1, i, hi, hr, hf⟩ | ⟨h1, hf⟩
  · have hmem : (id, (S.getD i (0, 0)).2) ∈ S := by
      have e : S.getD i (0, 0) = (id, (S.getD i (0, 0)).2) := by rw [← hr]; rfl
      rw [← e]
      exact mem_getD hi
    obtain ⟨at_, hat⟩ : ∃ at_, (S.getD i (0, 0)).2 = at_ := ⟨_, rfl⟩
    rw [hat] at hmem
    have hq := qget_there P0.out.ts.queue (id, at_) hmem
    have CW := Lib.hid (twhen_core P0.out.ts id at_ id 0 hq)
    rw [← hat] at CW
    have CA : Hid (∀ W', Below W0.heap.size W0 W' → Calls Try.prog 65 #[.pointer (some ⟨rh, 0, none⟩), .int .i64 id] W' fun E w' => E = .returned (.int .i64 (i : Int)) ∧ w' = W') := fun W' b => by
      have hh := refAt_any B W' rh S (by omega) (RF.out W' b).1.ref id
      rw [hf] at hh
      exact hh
    have HA : Hid (∀ W', Below W0.heap.size W0 W' → ∃ a cap g, W'.cell? ⟨rh, 0, none⟩ = some (.slice a S.length cap) ∧ a = some ⟨g, 0, none⟩ ∧ W'.cell? ⟨g, i * 2, none⟩ = some (.int .i64 (S.getD i (0, 0)).2)) := fun W' b => by
      obtain ⟨a, cap, e1, e2⟩ := (RF.out W' b).1.ref.at
      obtain ⟨g, e3, e4, _⟩ := e2 i hi
      exact ⟨a, cap, g, e1, e3, e4⟩
    have t1 : decide ((i : Int) < 0) = false := decide_eq_false (by omega)
    have t2 : (i : Int) < (S.length : Int) := by omega
    have t3 : decide (i < S.length) = true := decide_eq_true hi
    rw [hat] at HA CW
    clear h b0 hW0 hl hk hx hmem hr hf h1 hq hat
    generalize S.length = len at *
    go_enter Try.func40, Try.ntmps40
    go_wp2_with fail
    rw [HW.out]
    try rw [hob]
    refine CW.out.mono ?_
    rintro E w1 ⟨rfl, g1⟩
    have B1 := Lib.hid g1.below
    clear g1 CW k0 k1 k2
    obtain ⟨k0, k1, k2⟩ := (RF.out _ B1.out).2.cells
    have c1 := (RF.out _ B1.out).1.cells.2.1
    have CL : ∀ q' : LiesB w1, Hid (Calls Try.prog 65 #[.pointer (some ⟨rh, 0, none⟩), .int .i64 id] q'.v fun E w' => E = .returned (.int .i64 (i : Int)) ∧ LyingB w1 w') := fun q' =>
      (CA.out _ (B1.out.trans (q'.h.mono B1.out.size))).mono fun _ w' ⟨he, hw⟩ => ⟨he, q', hw⟩
    have f1 := fun q' : LiesB w1 => (RF.out _ (B1.out.trans (q'.h.mono B1.out.size))).1.cells.2.1
    have f2 := fun q' : LiesB w1 => (RF.out _ (B1.out.trans (q'.h.mono B1.out.size))).2.cells.2.1
    haveI hin : Inhabited (LiesB w1) := ⟨⟨w1, Below.refl _ _⟩⟩
    go_wp2_with fail
    refine region_lies mixedT (by kernel_rfl) ?_
    repeat (go_big_quiet_step (first | (go_at_call 65; (with_reducible exact (CL _).out))))
    refine wpQuiet_nil ?_
    rintro _ ⟨q6, rfl⟩
    clear f1 f2 CL hin CA k0 k1 k2 c1
    have B6 : Hid (Below W0.heap.size W0 q6.v) := B1.out.trans (q6.h.mono B1.out.size)
    have c1 := (RF.out _ B6.out).1.cells.2.1
    obtain ⟨a, cap, g, a1, rfl, a2⟩ := HA.out _ B6.out
    have rr : (at_ == at_) = true := by simp
    clear RF HA B1
    generalize q6.v = W6 at *
    go_wp2
    go_ret
    exact ⟨rfl, DONE.out _ B6.out⟩
  · have CW := Lib.hid (twhen_core P0.out.ts id 0 0 14 (qget_none P0.out.ts.queue id hx (has_no.1 h1)))
    have CA : Hid (∀ W', Below W0.heap.size W0 W' → Calls Try.prog 65 #[.pointer (some ⟨rh, 0, none⟩), .int .i64 id] W' fun E w' => E = .returned (.int .i64 (-1)) ∧ w' = W') := fun W' b => by
      have hh := refAt_any B W' rh S (by omega) (RF.out W' b).1.ref id
      rw [hf] at hh
      exact hh
    have t1 : decide ((-1 : Int) < 0) = true := rfl
    clear h b0 hW0 hl hk hx hf h1
    go_enter Try.func40, Try.ntmps40
    go_wp2_with fail
    rw [HW.out]
    try rw [hob]
    refine CW.out.mono ?_
    rintro E w1 ⟨rfl, g1⟩
    have B1 := Lib.hid g1.below
    clear g1 CW k0 k1 k2
    obtain ⟨k0, k1, k2⟩ := (RF.out _ B1.out).2.cells
    have c1 := (RF.out _ B1.out).1.cells.2.1
    have CL : ∀ q' : LiesB w1, Hid (Calls Try.prog 65 #[.pointer (some ⟨rh, 0, none⟩), .int .i64 id] q'.v fun E w' => E = .returned (.int .i64 (-1)) ∧ LyingB w1 w') := fun q' =>
      (CA.out _ (B1.out.trans (q'.h.mono B1.out.size))).mono fun _ w' ⟨he, hw⟩ => ⟨he, q', hw⟩
    have f1 := fun q' : LiesB w1 => (RF.out _ (B1.out.trans (q'.h.mono B1.out.size))).1.cells.2.1
    have f2 := fun q' : LiesB w1 => (RF.out _ (B1.out.trans (q'.h.mono B1.out.size))).2.cells.2.1
    haveI hin : Inhabited (LiesB w1) := ⟨⟨w1, Below.refl _ _⟩⟩
    go_wp2_with fail
    refine region_lies mixedT (by kernel_rfl) ?_
    repeat (go_big_quiet_step (first | (go_at_call 65; (with_reducible exact (CL _).out))))
    refine wpQuiet_nil ?_
    rintro _ ⟨q6, rfl⟩
    clear f1 f2 CL hin CA k0 k1 k2 c1
    have B6 : Hid (Below W0.heap.size W0 q6.v) := B1.out.trans (q6.h.mono B1.out.size)
    clear RF B1
    generalize q6.v = W6 at *
    go_wp2
    go_ret
    exact ⟨rfl, DONE.out _ B6.out⟩

set_option maxHeartbeats 2000000 in
set_option maxRecDepth 20000 in
/-- A Due that is refused. -/
theorem does5_due_bad {B : Nat} {W : World} {tb : Nat} {q : QB} {m n o : Int} {rq rh : Nat} {S : List Ent} (h : Pt B W tb q m n o rq rh S) (id t r : Int)
    (hc1 : ∀ W', Below W.heap.size W W' → Calls Try.prog 46 #[.pointer (some ⟨tb, 0, none⟩), .int .i64 t] W' fun E w' => E = .returned (.tuple #[.slice none 0 0, .int .i64 r]) ∧ W' = w')
    (hc2 : ∀ W', Below W.heap.size W W' → Calls Try.prog 80 #[.pointer (some ⟨rq, 0, none⟩), .int .i64 t] W' fun E w' => E = .returned (.tuple #[.slice none 0 0, .int .i64 r]) ∧ W' = w') :
    Calls Try.prog 40 #[.pointer (some ⟨tb, 0, none⟩), .pointer (some ⟨rq, 0, none⟩), .agg #[.int .i64 2, .int .i64 id, .int .i64 t]] W fun E w' => E = .returned (.bool true) ∧ Did5 B W w' tb m n rq rh S.length := by
  obtain ⟨W0, hW0⟩ : ∃ W0, W.alloc (.cells #[.int .i64 2, .int .i64 id, .int .i64 t] 75) = W0 := ⟨_, rfl⟩
  have b0 : Below W.heap.size W W0 := by rw [← hW0]; exact (Below.refl _ _).alloc (Nat.le_refl _) _
  have o0 : Op5 W0 W.heap.size 2 id t := by rw [← hW0]; exact heap_alloc_new _ _
  have HW := Lib.hid hW0
  obtain ⟨ob, hob⟩ : ∃ ob, W.heap.size = ob := ⟨_, rfl⟩
  rw [hob] at o0
  have C1 := Lib.hid (hc1 W0 b0)
  have C2 := Lib.hid (hc2 W0 b0)
  have DONE : Hid (Did5 B W W0 tb m n rq rh S.length) := ⟨q, n, o, S, h.lies b0, by omega, b0.mono h.base, .inl rfl⟩
  obtain ⟨k0, k1, k2⟩ := o0.cells
  have rr : (r != r) = false := by simp
  clear h hc1 hc2 b0 hW0 o0
  go_enter Try.func40, Try.ntmps40
  go_wp2_with fail
  rw [HW.out]
  try rw [hob]
  refine C1.out.mono ?_
  rintro E w1 ⟨rfl, rfl⟩
  go_wp2_with fail
  refine C2.out.mono ?_
  rintro E w2 ⟨rfl, rfl⟩
  go_wp2_with fail
  go_loopg [13] 0 (fun gk s13 wr => s13 = .int .i64 0 ∧ wr = W0)
  case atStart => exact ⟨rfl, rfl⟩
  case round =>
    obtain ⟨rfl, rfl⟩ := hrel
    go_wp2
    go_ret
    exact ⟨rfl, DONE.out⟩

/-- What there is behind both Dues. -/
structure DueB (B : Nat) (W W' : World) (tb : Nat) (m n : Int) (rq rh : Nat) (len : Nat) (D : List Ent) (t : Int) (v1 v2 : Value) (ob : Nat) (id : Int) : Prop where
  did : Did5 B W W' tb m n rq rh len
  r1 : ∃ B1, W'.ownsRow B1 86 3 v1 D.length (flatF t D)
  r2 : ∃ B2, W'.ownsRow B2 37 2 v2 D.length (flatR D)
  op : Op5 W' ob 2 id t
theorem DueB.lies {B : Nat} {W W' W2 : World} {tb : Nat} {m n : Int} {rq rh : Nat} {len : Nat} {D : List Ent} {t : Int} {v1 v2 : Value} {ob : Nat} {id : Int} (h : DueB B W W' tb m n rq rh len D t v1 v2 ob id) (hB : B ≤ W'.heap.size) (b : Below W'.heap.size W' W2) : DueB B W W2 tb m n rq rh len D t v1 v2 ob id := by
  obtain ⟨q, n2, o, S, p, h1, h2, h5⟩ := h.did
  obtain ⟨B1, h3⟩ := h.r1
  obtain ⟨B2, h4⟩ := h.r2
  exact ⟨⟨q, n2, o, S, p.lies b, h1, h2.trans (b.mono hB), h5⟩, ⟨B1, own_kept h3 (fun g e => b.block g (own_lt h3 g e))⟩, ⟨B2, own_kept h4 (fun g e => b.block g (own_lt h4 g e))⟩, h.op.lies b⟩
theorem Ts.perm {B : Nat} {W : World} {tb : Nat} {q : QB} {m n o : Int} {L L' : List Ent} (h : Ts B W tb q m n o L) (hp : L.Perm L') : Ts B W tb q m n o L' :=
  ⟨h.obj, h.queue.perm hp, h.apart, h.base, (List.Perm.pairwise_iff (R := fun x y : Ent => x.1 ≠ y.1) (fun h => h.symm) hp).1 h.diff, fun x hx => h.good x (hp.mem_iff.2 hx)⟩
/-- What a row holds, if there is anything. -/
theorem rowG {w : World} {B n sz : Nat} {e : TypeId} {ra : Option Addr} {rc : Nat} {xs : List Value} (h : w.ownsRow B e sz (.slice ra n rc) n xs) (hn : 0 < n) : ∃ g, ra = some ⟨g, 0, none⟩ ∧ ∀ j u, xs[j]? = some u → w.cell? ⟨g, j, none⟩ = some u := by
  rcases h.2 with ⟨e, _⟩ | ⟨g, cap, cur, e, hb, h3, r⟩
  · cases e
    omega
  · cases e
    refine ⟨g, rfl, fun j u hj => ?_⟩
    have := h.cells rfl j u hj
    by_cases hj0 : j = 0
    · subst hj0
      simpa [Addr.add] using this
    · simpa [Addr.add, hj0] using this

set_option maxHeartbeats 4000000 in
set_option maxRecDepth 20000 in
theorem does5_due {B : Nat} {W : World} {tb : Nat} {q : QB} {m n o : Int} {rq rh : Nat} {S : List Ent} (h : Pt B W tb q m n o rq rh S) (hrh : B ≤ rh) (hl : S.length + 1 < 1099511627776) (id t : Int) (ht : timeE t = 0) (hn : n ≤ t) :
    Calls Try.prog 40 #[.pointer (some ⟨tb, 0, none⟩), .pointer (some ⟨rq, 0, none⟩), .agg #[.int .i64 2, .int .i64 id, .int .i64 t]] W fun E w' => E = .returned (.bool true) ∧ Did5 B W w' tb m n rq rh S.length := by
  obtain ⟨W0, hW0⟩ : ∃ W0, W.alloc (.cells #[.int .i64 2, .int .i64 id, .int .i64 t] 75) = W0 := ⟨_, rfl⟩
  have b0 : Below W.heap.size W W0 := by rw [← hW0]; exact (Below.refl _ _).alloc (Nat.le_refl _) _
  have o0 : Op5 W0 W.heap.size 2 id t := by rw [← hW0]; exact heap_alloc_new _ _
  have P0 := Lib.hid (h.lies b0)
  have HB : Hid (Below W.heap.size W W0 ∧ B ≤ W.heap.size ∧ B ≤ rh) := ⟨b0, h.base, hrh⟩
  have OFF : Hid ((∀ k, q.own k ∨ k = tb → k < W.heap.size) ∧ rh < W.heap.size ∧ rq < W.heap.size) := ⟨fun k hk => by
      rcases hk with hk | rfl
      · exact h.ts.queue.lt k hk
      · exact h.ts.lt, by obtain ⟨a, cap, h1, _⟩ := h.rf.ref; exact (Array.getElem?_eq_some_iff.1 h1).1, h.rf.lt⟩
  have HO := Lib.hid o0
  have HW := Lib.hid hW0
  obtain ⟨ob, hob⟩ : ∃ ob, W.heap.size = ob := ⟨_, rfl⟩
  have C1 := Lib.hid (due_any P0.out.ts t ht hn (by omega))
  have HT : Hid (timeE t = 0 ∧ n ≤ t ∧ S.length + 1 < 1099511627776) := ⟨ht, hn, hl⟩
  have ht2 := timeE_may5 ht
  obtain ⟨k0, k1, k2⟩ := o0.cells
  have gd : Hid (∀ x ∈ S, timeE x.2 = 0) := fun x hx => (h.ts.good x hx).1.2
  clear h b0 o0 hW0 hl hrh ht hn
  rw [hob] at k0 k1 k2
  have HOB := Lib.hid hob
  go_enter Try.func40, Try.ntmps40
  go_wp2_with fail
  rw [HW.out]
  try rw [hob]
  refine C1.out.mono ?_
  rintro E w1 ⟨D, Lc, o1, ra, rc, rfl, hT, hR, hK, hD, hLt⟩
  obtain ⟨e1, e2, e3⟩ := due_is P0.out.sorted hD hLt
  have kO : Kept (fun k => q.turns k ∨ k = tb) W0 w1 := hK
  have S1 : Hid (Ts 0 w1 tb q m t (worstR t o (S.take (untilN t S))) (S.drop (untilN t S)) ∧ Rq B w1 rq rh m n o S ∧ w1.ownsRow W0.heap.size 86 3 (.slice ra D.length rc) D.length (flatF t D) ∧ Op5 w1 ob 2 id t ∧ Below B W w1 ∧ D = S.take (untilN t S) ∧ W.heap.size ≤ w1.heap.size ∧ W.heap.size ≤ W0.heap.size) := by
    refine ⟨e3 ▸ hT.perm e2, P0.out.rf.beside P0.out.ts kO, hR, ?_, (HB.out.1.mono HB.out.2.1).trans (own_from P0.out.turn kO P0.out.base), e1, Nat.le_trans HB.out.1.size kO.size, HB.out.1.size⟩
    rw [← hob]
    exact HO.out.kept kO (fun hs => by have := OFF.out.1 _ (hs.imp .inl (fun x => x)); omega)
  have C2 := Lib.hid (rdue_on S1.out.2.1 P0.out.diff (by have := HT.out.2.2; omega) (Nat.le_trans HB.out.2.1 S1.out.2.2.2.2.2.2.1) gd.out t HT.out.1 HT.out.2.1)
  have DN : Hid (D.length = untilN t S) := by
    show D.length = untilN t S
    rw [e1, List.length_take]
    have := untilN_le t S
    omega
  have DG : Hid (∀ x ∈ D, 0 ≤ x.2 ∧ x.2 ≤ t) := fun x hx => by
    rw [e1] at hx
    exact ⟨(timeE_may5 (gd.out x (List.mem_of_mem_take hx))).1, take_le S t x hx⟩
  have NS : Hid (D.length ≤ S.length) := by
    show D.length ≤ S.length
    have := untilN_le t S
    have := DN.out
    omega
  obtain ⟨k0, k1, k2⟩ := S1.out.2.2.2.1.cells
  clear hT hR hK hD hLt kO e1 e2 e3 C1
  generalize hdl : D.length = N at *
  rw [← DN.out] at C2
  go_wp2_with fail
  refine C2.out.mono ?_
  rintro E w2 ⟨a, c, rfl, hM⟩
  have S2 : Hid (DueB B W w2 tb m n rq rh S.length D t (.slice ra N rc) (.slice a N c) ob id) := by
    have hM' := hM
    rw [DN.out] at hM'
    have kk := hM'.kept
    have rf := hM'.rq'
    have ts := S1.out.1.beside S1.out.2.1 kk
    have hB1 : B ≤ w1.heap.size := Nat.le_trans HB.out.2.1 S1.out.2.2.2.2.2.2.1
    refine ⟨⟨q, t, _, _, ⟨ts, rf, P0.out.sorted.sublist (List.drop_sublist _ _), Nat.le_trans hB1 kk.size, P0.out.turn⟩, by rw [List.length_drop]; omega, S1.out.2.2.2.2.1.trans (ref_from S1.out.2.1 HB.out.2.2 kk hB1), .inr HT.out.1⟩, ⟨W0.heap.size, ?_⟩, ⟨w1.heap.size, ?_⟩, S1.out.2.2.2.1.kept kk (fun hs => by have := OFF.out.2; have := HOB.out; omega)⟩
    · rw [hdl]
      exact own_kept S1.out.2.2.1 (fun g e => kk.block g (own_lt S1.out.2.2.1 g e) (fun hs => by have := own_block S1.out.2.2.1 g e; have := OFF.out.2; have := S1.out.2.2.2.2.2.2.2; omega))
    · rw [hdl]
      have := hM.row
      rw [S1.out.2.2.2.2.2.1, DN.out]
      rw [DN.out] at this
      exact this
  have HBS : Hid (B ≤ w2.heap.size) := S2.out.did.choose_spec.choose_spec.choose_spec.choose_spec.1.base
  have HDL := Lib.hid hdl
  clear hM C2 S1 DN k0 k1 k2 hdl
  have f1 : ((N : Int) != (N : Int)) = false := by simp
  have f2 : (N != N) = false := by simp
  go_wp2_with fail
  go_loopg [13] N (fun gk s13 wr => ∃ i : Nat, s13 = .int .i64 i ∧ i ≤ N ∧ N - i ≤ gk ∧ Hid (DueB B W wr tb m n rq rh S.length D t (.slice ra N rc) (.slice a N c) ob id ∧ B ≤ wr.heap.size))
  case atStart => exact ⟨0, rfl, Nat.zero_le _, Nat.le_refl _, S2.out, HBS.out⟩
  case round =>
    rename World => W4
    obtain ⟨i, rfl, hi, hgk, HM⟩ := hrel
    clear S2
    by_cases hlt : i < N
    · have t1 : decide ((i : Int) < (N : Int)) = true := decide_eq_true (by omega)
      have t2 : decide (i < N) = true := decide_eq_true hlt
      have t3 : (i : Int) < (N : Int) := by omega
      have hiD : i < D.length := by rw [HDL.out]; exact hlt
      obtain ⟨B1, hr1⟩ := HM.out.1.r1
      obtain ⟨B2, hr2⟩ := HM.out.1.r2
      rw [HDL.out] at hr1 hr2
      obtain ⟨g1, rfl, hc1⟩ := rowG hr1 (by omega)
      obtain ⟨g2, rfl, hc2⟩ := rowG hr2 (by omega)
      obtain ⟨u0, u1, u2⟩ := flatF_at t D i hiD
      obtain ⟨v0, v1⟩ := flatR_get D i hiD
      have x0 := hc1 _ _ u0
      have x1 := hc1 _ _ u1
      have x2 := hc1 _ _ u2
      have z0 := hc2 _ _ v0
      have z1 := hc2 _ _ v1
      obtain ⟨k0, k1, k2⟩ := HM.out.1.op.cells
      have hy := DG.out _ (mem_getD hiD)
      unfold rky at z0
      unfold rid at z1
      clear hr1 hr2 hc1 hc2 u0 u1 u2 v0 v1
      generalize D.getD i (0, 0) = y at *
      obtain ⟨y1, y2⟩ := y
      simp only [] at x0 x1 x2 z0 z1 hy
      have wr : IntKind.i64.wrap (t - y2) = t - y2 := IntWalk.i64_in _ (by omega)
      have m1 : (y1 != y1) = false := by simp
      have m2 : (y2 != y2) = false := by simp
      have m3 : (t - y2 != t - y2) = false := by simp
      go_wp2_with fail
      go_quiet (fail)
      have G2 : Hid (DueB B W (W4.drewN nq) tb m n rq rh S.length D t (.slice (some ⟨g1, 0, none⟩) N rc) (.slice (some ⟨g2, 0, none⟩) N c) ob id ∧ B ≤ (W4.drewN nq).heap.size) := ⟨HM.out.1.lies HM.out.2 (grewN W4 nq).below, Nat.le_trans HM.out.2 (grewN W4 nq).size⟩
      generalize W4.drewN nq = W5 at *
      clear HM x0 x1 x2 z0 z1 k0 k1 k2 wr m1 m2 m3
      have hN40 : i < 1099511627776 := by have := NS.out; have := HT.out.2.2; omega
      go_wp2
      go_roundg (N - (i + 1))
      case measure => omega
      case rel => exact ⟨i + 1, by go_num, by omega, Nat.le_refl _, G2⟩
    · obtain rfl : i = N := by omega
      have t1 : decide ((i : Int) < (i : Int)) = false := decide_eq_false (by omega)
      have t2 : decide (i < i) = false := decide_eq_false (by omega)
      go_wp2
      go_ret
      exact ⟨rfl, HM.out.1.did⟩

/-- One call of both. -/
theorem does5_any {B : Nat} {W : World} {tb : Nat} {q : QB} {m n o : Int} {rq rh : Nat} {S : List Ent} (h : Pt B W tb q m n o rq rh S) (hrh : B ≤ rh) (hl : S.length + 1 < 1099511627776) (k id t : Int) (hx : Is64 id ∧ Is64 t) :
    Calls Try.prog 40 #[.pointer (some ⟨tb, 0, none⟩), .pointer (some ⟨rq, 0, none⟩), .agg #[.int .i64 k, .int .i64 id, .int .i64 t]] W fun E w' => E = .returned (.bool true) ∧ Did5 B W w' tb m n rq rh S.length := by
  by_cases h0 : k = 0
  · subst h0
    exact does5_arm h hrh hl id t hx
  by_cases h1 : k = 1
  · subst h1
    exact does5_cancel h hrh hl id t hx.1
  by_cases h2 : k = 2
  · subst h2
    by_cases ht : timeE t = 0
    · by_cases hn : n ≤ t
      · exact does5_due h hrh hl id t ht hn
      · exact does5_due_bad h id t 10 (fun W' b => tdue_early (h.lies b).ts t ht (by omega)) (fun W' b => rdue_early (h.lies b).rf t ht (by omega))
    · exact does5_due_bad h id t (timeE t) (fun W' b => tdue_bad t ht) (fun W' b => rdue_bad t ht)
  · exact does5_when h hl k id t ⟨h0, h1, h2⟩ hx.1
end Go.Proofs.Ytpglkakbiaihdaa
