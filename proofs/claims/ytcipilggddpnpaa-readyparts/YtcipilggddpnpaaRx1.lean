/-
  Several texts as one.
-/
import Derived.Test.YtcipilggddpnpaaRfD
import Derived.Test.YtcipilggddpnpaaTx1
import Derived.Test.YtcipilggddpnpaaKin
import Derived.BigQuiet
import Derived.Test.YtcipilggddpnpaaQx1
import Derived.Deep.LoopGhost
import Derived.IntWalk
import Derived.Deep.QuietTactic
import Derived.Deep.Cut
import Derived.Deep.RegionLaw
/-
  The reference's row behind a Put or a Drop: as a list.
-/
namespace Go.Proofs.Ytcipilggddpnpaa
open Go.RowKit Go.Sort
set_option linter.unusedVariables false
set_option linter.unusedSimpArgs false

theorem layR_perm (k : Ent) : ∀ L, (layR k L).Perm (k :: L)
  | [] => List.Perm.refl _
  | x :: r => by
    rw [layR]
    split
    · exact ((layR_perm k r).cons x).trans (List.Perm.swap _ _ _)
    · exact List.Perm.refl _
theorem layR_sorted (k : Ent) : ∀ {L}, Sorted L → (∀ x ∈ L, x.1 ≠ k.1) → Sorted (layR k L)
  | [], _, _ => List.pairwise_singleton _ _
  | x :: r, h, hd => by
    rw [layR]
    have h1 := List.pairwise_cons.1 h
    split
    next ha =>
      refine List.pairwise_cons.2 ⟨fun z hz => ?_, layR_sorted k h1.2 (fun z hz => hd z (List.mem_cons_of_mem _ hz))⟩
      rcases List.mem_cons.1 ((layR_perm k r).mem_iff.1 hz) with rfl | hz
      · exact ha
      · exact h1.1 z hz
    next ha =>
      have hkx : ah k x = true := by
        rcases ah_total (hd x (by simp)) with e | e
        · exact absurd e ha
        · exact e
      refine List.pairwise_cons.2 ⟨fun z hz => ?_, h⟩
      rcases List.mem_cons.1 hz with rfl | hz
      · exact hkx
      · exact ah_weak.tr hkx (h1.1 z hz)
theorem layR_diff (k : Ent) {L : List Ent} (h : Diff L) (hd : ∀ x ∈ L, x.1 ≠ k.1) : Diff (layR k L) :=
  ((layR_perm k L).pairwise_iff (R := fun a b : Ent => a.1 ≠ b.1) (fun {a b} (h : a.1 ≠ b.1) => h.symm)).2 (List.pairwise_cons.2 ⟨fun x hx => (hd x hx).symm, h⟩)
theorem layR_len (k : Ent) (L : List Ent) : (layR k L).length = L.length + 1 := by rw [(layR_perm k L).length_eq]; rfl
theorem erase_perm : ∀ {L : List Ent} {i : Nat}, i < L.length → (L.getD i (0, 0) :: L.eraseIdx i).Perm L
  | x :: r, 0, _ => List.Perm.refl _
  | x :: r, i + 1, h => by
    simp only [List.eraseIdx_cons_succ, List.getD_cons_succ]
    exact (List.Perm.swap _ _ _).trans ((erase_perm (L := r) (by simpa using h)).cons x)
theorem erase_is {L : List Ent} {i : Nat} (hi : i < L.length) : (L.erase (L.getD i (0, 0))).Perm (L.eraseIdx i) :=
  List.Perm.cons_inv ((List.perm_cons_erase (mem_getD hi)).symm.trans (erase_perm hi).symm)
theorem erase_ids {L : List Ent} (h : Diff L) {i : Nat} (hi : i < L.length) : ∀ x ∈ L.eraseIdx i, x.1 ≠ rid L i := by
  have h1 : Diff (L.getD i (0, 0) :: L.eraseIdx i) := ((erase_perm hi).pairwise_iff (R := fun a b : Ent => a.1 ≠ b.1) (fun {a b} (h : a.1 ≠ b.1) => h.symm)).2 h
  intro x hx e
  exact (List.pairwise_cons.1 h1).1 x hx e.symm

end Go.Proofs.Ytcipilggddpnpaa

/-
  The reference's timers: what they are in memory; its Time, Drop, Arm.
-/
namespace Go.Proofs.Ytcipilggddpnpaa
open Go.RowKit Go.Shelf Go.Maps
set_option linter.unusedVariables false
set_option linter.unusedSimpArgs false

theorem rtime_any (t : Int) (w : World) :
    Calls Try.prog 70 #[.int .i64 t] w fun e w' => e = .returned (.int .i64 (timeE t)) ∧ w = w' := by
  by_cases h : t < 0
  · rw [timeE_neg h]
    go_enter Try.func70, Try.ntmps70
    go_wp2
    go_ret
    exact ⟨rfl, rfl⟩
  by_cases h1 : 1099511627776 ≤ t
  · rw [timeE_far h1]
    go_enter Try.func70, Try.ntmps70
    go_wp2
    go_ret
    exact ⟨rfl, rfl⟩
  · rw [timeE_ok (by omega) (by omega)]
    go_enter Try.func70, Try.ntmps70
    go_wp2
    go_ret
    exact ⟨rfl, rfl⟩

/-- Is a number there? -/
def has (S : List Ent) (id : Int) : Bool := S.any (fun y => y.1 == id)
theorem has_yes {S : List Ent} {id : Int} : has S id = true ↔ ∃ y ∈ S, y.1 = id := by
  unfold has
  rw [List.any_eq_true]
  simp
theorem has_no {S : List Ent} {id : Int} : has S id = false ↔ ∀ y ∈ S, y.1 ≠ id := by
  unfold has
  rw [List.any_eq_false]
  simp
/-- All but one. -/
abbrev but (S : List Ent) (id : Int) : List Ent := S.filter (fun y => y.1 != id)
theorem but_at : ∀ {S : List Ent} {i : Nat}, Diff S → i < S.length → S.eraseIdx i = but S (rid S i)
  | [], i, _, h => absurd h (Nat.not_lt_zero _)
  | x :: r, 0, hd, _ => by
    obtain ⟨h1, _⟩ := List.pairwise_cons.1 hd
    show r = List.filter (fun y => y.1 != x.1) (x :: r)
    rw [List.filter_cons_of_neg (by simp), filter_all (fun y hy => (h1 y hy).symm)]
  | x :: r, i + 1, hd, h => by
    obtain ⟨h1, h2⟩ := List.pairwise_cons.1 hd
    have hi : i < r.length := by simpa using h
    have hne : x.1 ≠ rid r i := h1 _ (mem_getD hi)
    show x :: r.eraseIdx i = List.filter (fun y => y.1 != rid r i) (x :: r)
    rw [List.filter_cons_of_pos (by simpa using hne), but_at h2 hi]
theorem find_any {S : List Ent} (hd : Diff S) (id : Int) : (has S id = true ∧ ∃ i, i < S.length ∧ rid S i = id ∧ findR S id S.length 0 = (i : Int)) ∨ (has S id = false ∧ findR S id S.length 0 = -1) := by
  by_cases h : ∃ y ∈ S, y.1 = id
  · refine .inl ⟨has_yes.2 h, ?_⟩
    obtain ⟨y, hy, rfl⟩ := h
    obtain ⟨i, hi, e⟩ := List.getElem_of_mem hy
    have er : rid S i = y.1 := by
      unfold rid
      rw [List.getD_eq_getElem?_getD, List.getElem?_eq_getElem hi, ← e]; rfl
    exact ⟨i, hi, er, er ▸ hd.find hi⟩
  · have hn : ∀ y ∈ S, y.1 ≠ id := fun y hy e => h ⟨y, hy, e⟩
    exact .inr ⟨has_no.2 hn, findR_no hn⟩

theorem rdrop_any (B : Nat) (w : World) (rf : Nat) (S : List Ent) (hs : S.length ≤ 1099511627776) (hB : B ≤ w.heap.size) (h : RefIs B w rf S) (hd : Diff S) (id : Int) :
    Calls Try.prog 49 #[.pointer (some ⟨rf, 0, none⟩), .int .i64 id] w fun e w' => (∃ k, e = .returned (.tuple #[.int .i64 k, .int .i64 (if has S id then 0 else 14)])) ∧ RefIs B w' rf (but S id) ∧ Kept (fun k => k = rf) w w' := by
  rcases find_any hd id with ⟨h1, i, hi, hr, hf⟩ | ⟨h1, hf⟩
  · rw [h1]
    refine (refDrop_there B w rf S hs hB h id i hi hf).mono ?_
    rintro e w' ⟨rfl, h2, h3⟩
    rw [but_at hd hi, hr] at h2
    exact ⟨⟨_, rfl⟩, h2, h3⟩
  · rw [h1]
    refine (refDrop_none B w rf S hs h id hf).mono ?_
    rintro e w' ⟨rfl, rfl⟩
    rw [but, filter_all (has_no.1 h1)]
    exact ⟨⟨_, rfl⟩, h, Kept.refl _ _⟩

theorem RefIs.lies {B : Nat} {w w' : World} {rf : Nat} {L : List Ent} (h : RefIs B w rf L) (b : Below w.heap.size w w') : RefIs B w' rf L := by
  obtain ⟨a, cap, h1, h2⟩ := h
  exact ⟨a, cap, (b.block rf (Array.getElem?_eq_some_iff.1 h1).1).trans h1, own_kept h2 (fun g e => b.block g (own_lt h2 g e))⟩
/-- What an Arm answers. -/
def armR (m : Int) (S : List Ent) (x : Ent) : Int := if x.1 < 0 then 1 else if timeE x.2 ≠ 0 then timeE x.2 else if has S x.1 = false ∧ m ≤ (S.length : Int) then 13 else 0
/-- What is armed behind it, in order. -/
def armT (m : Int) (S : List Ent) (x : Ent) : List Ent := if armR m S x = 0 then layR x (but S x.1) else S

theorem but_len (S : List Ent) (id : Int) : (but S id).length ≤ S.length := List.length_filter_le _ _
theorem diff_but {S : List Ent} (h : Diff S) (id : Int) : Diff (but S id) := h.filter _

end Go.Proofs.Ytcipilggddpnpaa

/-
  The reference's timers: Arm as one contract; Until and Due.
-/
namespace Go.Proofs.Ytcipilggddpnpaa
open Go.RowKit Go.Shelf Go.Maps
set_option linter.unusedVariables false
set_option linter.unusedSimpArgs false

/-- What a slice of the reference's row holds. -/
def SliceOf (w : World) (v : Value) (n : Nat) (S : List Ent) : Prop := ∃ a cap, v = .slice a n cap ∧ n ≤ S.length ∧ ((a = none ∧ n = 0 ∧ cap = 0) ∨ ∃ g, a = some ⟨g, 0, none⟩ ∧ ∀ j u, (flatR S)[j]? = some u → w.cell? ⟨g, j, none⟩ = some u)

set_option maxHeartbeats 2000000 in
set_option maxRecDepth 20000 in
theorem runtil_any {B : Nat} {w : World} {rh : Nat} {S : List Ent} (h : RefIs B w rh S) (hl : S.length < 1099511627776) (t : Int) :
    Calls Try.prog 26 #[.pointer (some ⟨rh, 0, none⟩), .int .i64 t] w fun E w' => ∃ v, E = .returned v ∧ SliceOf w v (untilN t S) S ∧ w = w' := by
  obtain ⟨a, cap, h1, h2⟩ := h
  have hc : w.cell? ⟨rh, 0, none⟩ = some (.slice a S.length cap) := by simp [World.cell?, h1]
  have hN := untilN_le t S
  have LT := Lib.hid (untilN_lt t S)
  have AT := Lib.hid (untilN_at t S)
  have HR : Hid (S.length ≤ cap ∧ ∀ i, i < S.length → ∃ g, a = some ⟨g, 0, none⟩ ∧ w.cell? ⟨g, i * 2, none⟩ = some (.int .i64 (S.getD i (0, 0)).2)) := by
    refine ⟨?_, fun i hi => ?_⟩
    · rcases h2.2 with ⟨e, hn⟩ | ⟨g, c, cur, e, _, h3, h4, h5, h6, h7⟩
      · omega
      · simp only [Value.slice.injEq] at e
        omega
    · obtain ⟨a', cap', e, hh⟩ := RefIs.at (⟨a, cap, h1, h2⟩ : RefIs B w rh S)
      rw [hc] at e
      cases e
      obtain ⟨g, e, k1, _⟩ := hh i hi
      exact ⟨g, e, k1⟩
  have HS : Hid (∀ n, n ≤ S.length → SliceOf w (.slice a n cap) n S) := fun n hn => by
    refine ⟨a, cap, rfl, hn, ?_⟩
    rcases h2.2 with ⟨e, h0⟩ | ⟨g, c, cur, e, _, h3, h4, h5, h6, h7⟩
    · simp only [Value.slice.injEq] at e
      obtain ⟨rfl, _, rfl⟩ := e
      exact .inl ⟨rfl, by omega, rfl⟩
    · simp only [Value.slice.injEq] at e
      obtain ⟨rfl, _, rfl⟩ := e
      refine .inr ⟨g, rfl, fun j u hj => ?_⟩
      have hlt : j < S.length * 2 := by rw [← len_flatR]; exact (List.getElem?_eq_some_iff.1 hj).1
      have := h2.cellAt j (by omega)
      rw [this]; exact hj
  clear h1 h2
  obtain ⟨len, hlen⟩ : ∃ len, S.length = len := ⟨_, rfl⟩
  obtain ⟨N, hNN⟩ : ∃ N, untilN t S = N := ⟨_, rfl⟩
  rw [hNN] at hN LT AT ⊢
  rw [hlen] at hN AT HR HS hc hl
  clear hlen hNN
  go_enter Try.func26, Try.ntmps26
  go_wp2_with fail
  go_loopg [5] N (fun gk s5 wr => ∃ i : Nat, s5 = .int .i64 i ∧ i ≤ N ∧ N - i ≤ gk ∧ wr = w)
  case atStart => exact ⟨0, rfl, Nat.zero_le _, Nat.le_refl _, rfl⟩
  case round =>
    obtain ⟨i, rfl, hi, hgk, rfl⟩ := hrel
    by_cases hlen : i < len
    · have t1 : decide ((i : Int) < (len : Int)) = true := decide_eq_true (by omega)
      have t2 : decide (i < len) = true := decide_eq_true hlen
      have t3 : (i : Int) < (len : Int) := by omega
      obtain ⟨g, rfl, c1⟩ := HR.out.2 i hlen
      by_cases hiN : i < N
      · have h3 := LT.out i hiN
        generalize (S.getD i (0, 0)).2 = tm at *
        have t4 : decide (tm ≤ t) = true := decide_eq_true h3
        clear h3
        go_wp2
        go_roundg (N - (i + 1))
        case measure => omega
        case rel => exact ⟨i + 1, by go_num, by omega, Nat.le_refl _, rfl⟩
      · obtain rfl : i = N := by omega
        have h3 := AT.out hlen
        generalize (S.getD i (0, 0)).2 = tm at *
        have t4 : decide (tm ≤ t) = false := decide_eq_false (by omega)
        have t5 : decide (i ≤ cap) = true := decide_eq_true (by have := HR.out.1; omega)
        have t6 : (i : Int) ≤ (cap : Int) := by have := HR.out.1; omega
        clear h3
        go_wp2
        go_ret
        exact ⟨_, rfl, HS.out i (by omega), rfl⟩
    · obtain rfl : i = len := by omega
      have hNi : N = i := by omega
      have t1 : decide ((i : Int) < (i : Int)) = false := decide_eq_false (by omega)
      have t2 : decide (i < i) = false := decide_eq_false (by omega)
      have t5 : decide (i ≤ cap) = true := decide_eq_true HR.out.1
      have t6 : (i : Int) ≤ (cap : Int) := by have := HR.out.1; omega
      go_wp2
      go_ret
      rw [hNi]
      exact ⟨_, rfl, HS.out i (Nat.le_refl _), rfl⟩
end Go.Proofs.Ytcipilggddpnpaa

/-
  The reference's timers: Due.
-/
namespace Go.Proofs.Ytcipilggddpnpaa
open Go.RowKit Go.Shelf Go.Maps
set_option linter.unusedVariables false
set_option linter.unusedSimpArgs false

theorem flatR_take_at {S : List Ent} {n i : Nat} (hi : i < n) (hn : n ≤ S.length) : (flatR (S.take n))[i * 2]? = some (.int .i64 (S.getD i (0, 0)).2) ∧ (flatR (S.take n))[i * 2 + 1]? = some (.int .i64 (S.getD i (0, 0)).1) := by
  have h := flatR_get (S.take n) i (by rw [List.length_take]; omega)
  have e : (S.take n).getD i (0, 0) = S.getD i (0, 0) := by
    rw [List.getD_eq_getElem?_getD, List.getD_eq_getElem?_getD, List.getElem?_take, if_pos hi]
  unfold rky rid at h
  rw [e] at h
  exact h
/-- A slice of the reference's row, copied. -/
theorem slice_copied {w : World} {v : Value} {n : Nat} {S : List Ent} (h : SliceOf w v n S) (hl : S.length ≤ 1099511627776) :
    ∃ a c w', (Builtin.append_ #[46, 46] 46 #[.slice none 0 0, v]).run Try.prog w = .ok (.slice a n c) w' ∧ w'.ownsRow w.heap.size 37 2 (.slice a n c) n (flatR (S.take n)) ∧ w.grownBy w' none := by
  obtain ⟨i0, hi0, hz0, hz1, hz2⟩ := info_parts (P := Try.prog) (e := 37) (z := .agg #[.int .i64 0, .int .i64 0]) (size := 2) (bytes := 16) (by kernel_rfl)
  obtain ⟨a, cap, rfl, hn, ha⟩ := h
  have hown : w.ownsRow w.heap.size 37 2 (.slice none 0 0) 0 [] := ⟨rfl, .inl ⟨rfl, rfl⟩⟩
  rcases ha with ⟨rfl, rfl, rfl⟩ | ⟨g, rfl, hg⟩
  · exact ⟨none, 0, w, run_append_owned_none (P := Try.prog) (w := w) w.heap.size 46 46 37 i0 2 Try.underlying46 hi0 _ 0 [] hown, ⟨rfl, .inl ⟨rfl, rfl⟩⟩, ⟨rfl, rfl, rfl, Nat.le_refl _, fun _ _ _ => rfl⟩⟩
  · have hlt : (flatR (S.take n)).length = n * 2 := by rw [len_flatR, List.length_take]; omega
    obtain ⟨v, w', r1, r2, r3, _, _⟩ := run_append_own_at (P := Try.prog) (w := w) w.heap.size 46 46 37 i0 (.agg #[.int .i64 0, .int .i64 0]) 2 16 Try.underlying46 hi0 hz0 hz1 hz2 rfl (by decide) (.slice none 0 0) 0 [] hown ⟨g, 0, none⟩ n cap (flatR (S.take n)) hlt (fun j u hj => by
      rw [Addr.add_lit]
      rw [Nat.zero_add]
      refine hg j u ?_
      rw [flatR_take] at hj
      rw [List.getElem?_take] at hj
      split at hj
      · simpa using hj
      · cases hj) (flatR_one _) (by unfold maxLen; omega) (by omega) (Nat.le_refl _)
    rw [Nat.zero_add, List.nil_append] at r2
    obtain ⟨a', c', rfl⟩ := own_form r2
    exact ⟨a', c', w', r1, r2, r3⟩

theorem wpList_append_ran {P : Program} {w : World} {ops : Array Oper} {rest : List Oper} {o : Oper} {a : Act} {Q : Exit → Act → World → Prop} (hgd : o.guard = none) (s x : Operand) (t ty : TypeId)
    (ho : o.op = .call { callee := .builtin .append, args := #[s, x], argTypes := #[t, t] }) (hty : o.type = ty) (vs vx v' : Value) (w' : World) (hs : a.eval s = vs) (hx : a.eval x = vx) (hr : (Builtin.append_ #[t, t] ty #[vs, vx]).run P w = .ok v' w')
    (h : wpList P ops Q rest (a.put o.dst v') w') : wpList P ops Q (o :: rest) a w := by
  refine wpList_plain hgd fun K hK => ?_
  subst hty
  unfold Oper.wp execOp
  simp only [ho, resolve, invoke, builtin, Sem.run_bind, Sem.run_pure, Result.andThen_ok, List.map_toArray, List.map_cons, List.map_nil, hs, hx, hr]
  exact hK _ _ h

/-- How late the latest one is. -/
def worstR (t o : Int) (D : List Ent) : Int := D.foldl (fun m x => max m (t - x.2)) o
theorem but_head {S : List Ent} (hd : Diff S) {i : Nat} (hi : i < S.length) : but (S.drop i) (rid S i) = S.drop (i + 1) := by
  have e : S.drop i = (rid S i, rky S i) :: S.drop (i + 1) := drop_at hi
  have hp : Diff (S.drop i) := hd.sublist (List.drop_sublist i S)
  rw [e] at hp ⊢
  obtain ⟨h1, _⟩ := List.pairwise_cons.1 hp
  unfold but
  rw [List.filter_cons_of_neg (by simp), filter_all (fun y hy => (h1 y hy).symm)]
end Go.Proofs.Ytcipilggddpnpaa

/-
  The reference's queue (layer 4): Put and Move.
-/
namespace Go.Proofs.Ytcipilggddpnpaa
open Go.RowKit Go.Shelf Go.Maps
set_option linter.unusedVariables false
set_option linter.unusedSimpArgs false

theorem ref_slice4 {B : Nat} {w : World} {rh : Nat} {S : List Ent} (h : RefIs B w rh S) : ∃ v, w.cell? ⟨rh, 0, none⟩ = some v ∧ (∃ a cap, v = .slice a S.length cap) ∧ ∀ w', (∀ p u, w.cell? p = some u → w'.cell? p = some u) → SliceOf w' v S.length S := by
  obtain ⟨a, cap, h1, h2⟩ := h
  refine ⟨.slice a S.length cap, by simp [World.cell?, h1], ⟨a, cap, rfl⟩, fun w' hw => ⟨a, cap, rfl, Nat.le_refl _, ?_⟩⟩
  rcases h2.2 with ⟨e, h0⟩ | ⟨g, c, cur, e, _, h3, h4, h5, h6, h7⟩
  · simp only [Value.slice.injEq] at e
    obtain ⟨rfl, _, rfl⟩ := e
    exact .inl ⟨rfl, by omega, rfl⟩
  · simp only [Value.slice.injEq] at e
    obtain ⟨rfl, _, rfl⟩ := e
    refine .inr ⟨g, rfl, fun j u hj => hw _ _ ?_⟩
    have hlt : j < S.length * 2 := by rw [← len_flatR]; exact (List.getElem?_eq_some_iff.1 hj).1
    have := h2.cellAt j (by omega)
    rw [this]; exact hj
theorem step_ran4 {P : Program} {ops : Array Oper} {o : Oper} {a : Act} {w w1 : World} {K : Act → World → Prop} {Q : Exit → Act → World → Prop} {E : Prop} {v u r : Value}
    (hg : o.guard = none) (s x : Operand) (t : TypeId) (hop : o.op = Op.call { callee := Callee.builtin Builtin.append, args := #[s, x], argTypes := #[t, t] })
    (hs : a.eval s = v) (hx : a.eval x = u) (hrun : (Builtin.append_ #[t, t] o.type #[v, u]).run P w = .ok r w1) (hK : K (a.put o.dst r) w1) :
    if Region.wanted o (yielded ops a.tmps) = true then Oper.wp P o a w K Q else E := by
  have hw : Region.wanted o (yielded ops a.tmps) = true := by simp [Region.wanted, hg]
  rw [if_pos hw]
  unfold Oper.wp
  simp [execOp, hop, resolve, invoke, builtin, hs, hx, hrun, Result.andThen]
  exact hK

/-- What is there behind a Put, in order. -/
theorem putsR_step {A : List Ent} {x : Ent} {r : List Ent} : putsR A (x :: r) = if putR A x = 0 then putsR (x :: A) r else putR A x := rfl
theorem putR_has {A N : List Ent} (hp : N.Perm A) (x : Ent) : putR A x = if x.1 < 0 then 1 else if timeE x.2 ≠ 0 then timeE x.2 else if has N x.1 then 15 else 0 := by
  have e : A.any (fun y => y.1 == x.1) = has N x.1 := by
    unfold has
    rw [Bool.eq_iff_iff, List.any_eq_true, List.any_eq_true]
    exact ⟨fun ⟨y, h1, h2⟩ => ⟨y, hp.mem_iff.2 h1, h2⟩, fun ⟨y, h1, h2⟩ => ⟨y, hp.mem_iff.1 h1, h2⟩⟩
  unfold putR
  rw [e]

/-- Between two rounds of Put. -/
structure PutM (B : Nat) (w W : World) (rf nb : Nat) (S l : List Ent) (i : Nat) (N : List Ent) : Prop where
  next : RefIs B W nb N
  old : RefIs B W rf S
  perm : N.Perm ((l.take i).reverse ++ S)
  sorted : Sorted N
  diff : Diff N
  kept : Kept (fun _ => False) w W
  todo : putsR S l = putsR ((l.take i).reverse ++ S) (l.drop i)
end Go.Proofs.Ytcipilggddpnpaa

/-
  The reference's queue (layer 4): Put.
-/
namespace Go.Proofs.Ytcipilggddpnpaa
open Go.RowKit Go.Shelf Go.Maps
set_option linter.unusedVariables false
set_option linter.unusedSimpArgs false

/-- Between two rounds of the reference's Put. -/
structure PutN (B : Nat) (w W : World) (nb : Nat) (S l : List Ent) (i : Nat) (N : List Ent) : Prop where
  next : RefIs B W nb N
  perm : N.Perm ((l.take i).reverse ++ S)
  sorted : Sorted N
  diff : Diff N
  kept : Kept (fun _ => False) w W
  todo : putsR S l = putsR ((l.take i).reverse ++ S) (l.drop i)
theorem PutN.grew {B : Nat} {w W W' : World} {nb : Nat} {S l : List Ent} {i : Nat} {N : List Ent} (h : PutN B w W nb S l i N) (g : Grew W W') : PutN B w W' nb S l i N :=
  ⟨h.next.grew g, h.perm, h.sorted, h.diff, h.kept.trans (g.kept _), h.todo⟩
theorem PutN.len {B : Nat} {w W : World} {nb : Nat} {S l : List Ent} {i : Nat} {N : List Ent} (h : PutN B w W nb S l i N) (hi : i ≤ l.length) : N.length = i + S.length := by
  rw [h.perm.length_eq, List.length_append, List.length_reverse, List.length_take]
  omega
theorem find_gen {N : List Ent} (hd : Diff N) {x : Int} (h : has N x = true) : ∃ i : Nat, i < N.length ∧ findR N x N.length 0 = (i : Int) := by
  rcases find_any hd x with ⟨_, i, h1, _, h2⟩ | ⟨h1, _⟩
  · exact ⟨i, h1, h2⟩
  · rw [h1] at h; cases h
theorem find_not {N : List Ent} (hd : Diff N) {x : Int} (h : has N x = false) : findR N x N.length 0 = -1 := by
  rcases find_any hd x with ⟨h1, _⟩ | ⟨_, h2⟩
  · rw [h1] at h; cases h
  · exact h2
theorem no_none : ∀ (b : Nat) (o : Obj), (fun _ : Nat => False) b → ∀ (W : World), W.heap[b]? = some o → tyOf o ≠ some 48 ∧ tyOf o ≠ some 37 := fun _ _ h => h.elim

set_option maxHeartbeats 8000000 in
set_option maxRecDepth 20000 in
theorem rput4_any {B : Nat} {w : World} {rf : Nat} {S l : List Ent} (h : RefIs B w rf S) (hd : Diff S) (hs : Sorted S) (hB : B ≤ w.heap.size) (a : Option Addr) (cap : Nat) (hl : KeysAt w a l) (hr : S.length + l.length < 1099511627776) :
    Calls Try.prog 45 #[.pointer (some ⟨rf, 0, none⟩), .slice a l.length cap] w fun E w' => E = .returned (.int .i64 (putsR S l)) ∧ (∃ N, RefIs B w' rf N ∧ Sorted N ∧ N.Perm (putsL S l)) ∧ Kept (fun k => k = rf) w w' := by
  obtain ⟨W1, hW1⟩ : ∃ W1, w.alloc (.cells #[.slice none 0 0] 48) = W1 := ⟨_, rfl⟩
  have g1 : Grew w W1 := by rw [← hW1]; exact (Grew.refl w).alloc _
  have e2 : W1.heap[w.heap.size]? = some (.cells #[.slice none 0 0] 48 (0, 0)) := by rw [← hW1]; exact heap_alloc_new _ _
  have R1 := h.grew g1
  obtain ⟨v, v1, ⟨a0, cap0, rfl⟩, v3⟩ := ref_slice4 R1
  obtain ⟨a7, c7, w7, hrun, hrow, hgrow⟩ := slice_copied (v3 W1.drew (fun p u h => h)) (by omega)
  have lth : w.heap.size < W1.heap.size := (Array.getElem?_eq_some_iff.1 e2).1
  have o7 : w7.heap[w.heap.size]? = some (.cells #[.slice none 0 0] 48 (0, 0)) := (hgrow.block _ lth (fun e => by cases e)).trans e2
  have d4 : w7.cell? ⟨w.heap.size, 0, none⟩ = some (.slice none 0 0) := by simp [World.cell?, o7]
  have d5 : w7.frozen? ⟨w.heap.size, 0, none⟩ = false := by simp [World.frozen?, o7]
  have x1 : W1.cell? ⟨w.heap.size, 0, none⟩ = some (.slice none 0 0) := by simp [World.cell?, e2]
  obtain ⟨W7, hW7⟩ : ∃ W7, w7.setCell ⟨w.heap.size, 0, none⟩ (.slice a7 S.length c7) = W7 := ⟨_, rfl⟩
  have k7 : Kept (fun i => i = w.heap.size) W1 W7 := by
    rw [← hW7]
    exact (((Kept.refl (fun i => i = w.heap.size) W1).drew).grown hgrow (fun k e => by cases e)).setCell (p := ⟨w.heap.size, 0, none⟩) (.inl rfl) _
  have H7 : Hid (PutN B w W7 w.heap.size S l 0 S) := by
    refine ⟨?_, List.Perm.refl _, hs, hd, (g1.kept _).andThen k7 (fun i e => .inr (by omega)), rfl⟩
    rw [← hW7]
    refine ref_store o7 rfl ?_
    have := hrow
    rw [List.take_length] at this
    refine ⟨this.1, ?_⟩
    rcases this.2 with e | ⟨g, c, cur, e, hb, r⟩
    · exact .inl e
    · exact .inr ⟨g, c, cur, e, Nat.le_trans hB (Nat.le_trans g1.size hb), r⟩
  have HW7 := Lib.hid hW7
  have HW1 := Lib.hid hW1
  have HH : Hid (RefIs B w rf S ∧ Sorted S ∧ KeysAt w a l ∧ B ≤ w.heap.size ∧ S.length + l.length < 1099511627776) := ⟨h, hs, hl, hB, hr⟩
  obtain ⟨n, hn⟩ : ∃ n, l.length = n := ⟨_, rfl⟩
  have HN := Lib.hid hn
  obtain ⟨m, hm⟩ : ∃ m, S.length = m := ⟨_, rfl⟩
  have HM := Lib.hid hm
  rw [hm] at hrun hr v1
  rw [hn] at hr ⊢
  have hW7' := hW7
  rw [hm] at hW7'
  have HW7' := Lib.hid hW7'
  have n40 : n < 1099511627776 := by omega
  obtain ⟨nb, hnb⟩ : ∃ nb, w.heap.size = nb := ⟨_, rfl⟩
  have HNB := Lib.hid hnb
  have HW1' := HW1
  rw [hnb] at x1 d4 d5 H7 HW7'
  clear hrow hgrow o7 e2 k7 R1 v3 hW7 hW7' hW1 h hd hs hl hB g1 lth hn hm hnb
  go_enter Try.func45, Try.ntmps45
  go_wp2_with fail
  rw [HW1.out]
  try rw [HNB.out]
  go_cut [] from 10 to 21 (fun wx => wx = W7)
  case first =>
    go_region_law (refine step_ran4 rfl _ _ 46 rfl rfl rfl hrun ?_)
    all_goals (rw [HW7'.out]; go_wp2_with fail; go_meet; exact rfl)
  case rest =>
    have hc := hcut.symm
    clear hcut
    subst hc
    clear x1 d4 d5 hrun v1
    go_wp2_with fail
    go_loopg [6] n (fun gk s6 wr => ∃ i : Nat, s6 = .int .i64 i ∧ i ≤ n ∧ n - i ≤ gk ∧ Hid (∃ N, PutN B w wr nb S l i N))
    case atStart => exact ⟨0, rfl, Nat.zero_le _, Nat.le_refl _, S, H7.out⟩
    case round =>
      rename World => W2
      obtain ⟨i, rfl, hin, hgk, HR⟩ := hrel
      clear H7
      by_cases hi : i < n
      · have hi' : decide ((i : Int) < (n : Int)) = true := decide_eq_true (by omega)
        have hi3 : decide (i < n) = true := decide_eq_true hi
        have hiz : (i : Int) < (n : Int) := by omega
        have hi2 : i < l.length := by rw [HN.out]; exact hi
        obtain ⟨N, hP⟩ := HR.out
        have P := Lib.hid hP
        have LN : Hid (N.length = i + m) := by
          have := hP.len (by omega : i ≤ l.length)
          rw [HM.out] at this
          exact this
        have hs := hP.todo
        rw [drop_getD hi2] at hs
        have e1 := take_getD hi2
        rcases HH.out.2.2.1 with hz | ⟨g, o, rfl, hg, hc⟩
        · omega
        obtain ⟨⟨c1, c2⟩, hx⟩ := hc i hi2
        have HG : Hid (∀ W, Kept (fun _ => False) w W → W.cell? ⟨g, o + i * 2, none⟩ = some (.int .i64 (l.getD i (0, 0)).2) ∧ W.cell? ⟨g, o + i * 2 + 1, none⟩ = some (.int .i64 (l.getD i (0, 0)).1)) := fun W k => ⟨(k.cell (p := ⟨g, o + i * 2, none⟩) hg (fun x => x)).trans c1, (k.cell (p := ⟨g, o + i * 2 + 1, none⟩) hg (fun x => x)).trans c2⟩
        have STOP : Hid (∀ r : Int, r ≠ 0 → putR ((l.take i).reverse ++ S) (l.getD i (0, 0)) = r → putsR S l = r ∧ putsL S l = S) := fun r hr hp => by
          have he : putsR S l = r := by
            rw [hs]
            show (if putR _ _ = 0 then _ else _) = _
            rw [hp, if_neg hr]
          exact ⟨he, if_neg (by rw [he]; exact hr)⟩
        have OUT : Hid (∀ W, Kept (fun _ => False) w W → putsL S l = S → (∃ N, RefIs B W rf N ∧ Sorted N ∧ N.Perm (putsL S l)) ∧ Kept (fun k => k = rf) w W) := fun W k e => ⟨⟨S, HH.out.1.kept k (fun b o x _ => x.elim), HH.out.2.1, by rw [e]⟩, k.mono (fun _ _ x => x.elim)⟩
        have hpr := putR_has hP.perm (l.getD i (0, 0))
        have GO : Hid (∀ W, RefIs B W nb (layR (l.getD i (0, 0)) N) → Kept (fun k => k = nb) W2 W → putR ((l.take i).reverse ++ S) (l.getD i (0, 0)) = 0 → (∀ y ∈ N, y.1 ≠ (l.getD i (0, 0)).1) → ∃ N, PutN B w W nb S l (i + 1) N) := fun W r k hz hne => by
          refine ⟨layR (l.getD i (0, 0)) N, r, ?_, layR_sorted _ hP.sorted hne, layR_diff _ hP.diff hne, hP.kept.andThen k (fun j e => .inr (by have := HNB.out; omega)), ?_⟩
          · rw [e1]
            exact (layR_perm _ _).trans (hP.perm.cons _)
          · rw [e1, hs]
            show (if putR _ _ = 0 then _ else _) = _
            rw [if_pos hz]
            rfl
        obtain ⟨k1, k2⟩ := HG.out W2 hP.kept
        clear hc c1 c2 hs e1 hP HR hg hi2
        obtain ⟨x, hxx⟩ : ∃ x, l.getD i (0, 0) = x := ⟨_, rfl⟩
        rw [hxx] at k1 k2 STOP hpr GO hx HG
        clear hxx
        obtain ⟨id, t⟩ := x
        simp only [] at k1 k2 hpr hx HG
        by_cases b0 : id < 0
        · have d0 : decide (id < 0) = true := decide_eq_true b0
          obtain ⟨q1, q2⟩ := STOP.out 1 (by decide) (by rw [hpr, if_pos b0])
          have FIN := Lib.hid (OUT.out W2 P.out.kept q2)
          have Q1 := Lib.hid q1
          clear STOP OUT GO hpr q1 q2 P
          go_wp2
          go_ret
          exact ⟨by rw [Q1.out]; rfl, FIN.out⟩
        have d0 : decide (id < 0) = false := decide_eq_false b0
        rw [if_neg b0] at hpr
        have CT : Hid (Calls Try.prog 70 #[.int .i64 t] W2 fun e w' => e = .returned (.int .i64 (timeE t)) ∧ W2 = w') := rtime_any t W2
        by_cases b1 : timeE t = 0
        · rw [if_neg (by simp [b1])] at hpr
          rw [b1] at CT
          by_cases b2 : has N id = true
          · rw [if_pos b2] at hpr
            obtain ⟨q1, q2⟩ := STOP.out 15 (by decide) hpr
            obtain ⟨j, hj, hf⟩ := find_gen P.out.diff b2
            have CP := Lib.hid (refPut_there B W2 nb N (by have := LN.out; have := HH.out.2.2.2.2; omega) P.out.next id t b0 j hf)
            have FIN : Hid (∀ W, Grew W2 W → (∃ N, RefIs B W rf N ∧ Sorted N ∧ N.Perm (putsL S l)) ∧ Kept (fun k => k = rf) w W) := fun W g => OUT.out W (P.out.kept.trans (g.kept _)) q2
            have Q1 := Lib.hid q1
            clear STOP OUT GO hpr q1 q2 P hj hf
            go_wp2_with fail
            refine CT.out.mono ?_
            rintro E w3 ⟨rfl, rfl⟩
            go_wp2_with fail
            refine CP.out.mono ?_
            rintro E w3 ⟨rfl, g3⟩
            have F3 := Lib.hid (FIN.out w3 g3)
            clear g3 FIN CP CT k1 k2
            go_wp2
            go_ret
            exact ⟨by rw [Q1.out]; rfl, F3.out⟩
          · have b3 : has N id = false := by simpa using b2
            rw [if_neg b2] at hpr
            have CP := Lib.hid (refPut_new B W2 nb N (by have := LN.out; have := HH.out.2.2.2.2; rw [HM.out] at this; omega) (Nat.le_trans HH.out.2.2.2.1 P.out.kept.size) P.out.next id t b0 (find_not P.out.diff b3))
            have G4 : Hid (∀ W, RefIs B W nb (layR (id, t) N) → Kept (fun k => k = nb) W2 W → ∃ N, PutN B w W nb S l (i + 1) N) := fun W r k => GO.out W r k hpr (fun y hy => has_no.1 b3 y hy)
            clear STOP OUT GO hpr P b2 b3
            go_wp2_with fail
            refine CT.out.mono ?_
            rintro E w3 ⟨rfl, rfl⟩
            go_wp2_with fail
            refine CP.out.mono ?_
            rintro E w3 ⟨rfl, r3, k3⟩
            have H3 := Lib.hid (G4.out w3 r3 k3)
            clear r3 k3 G4 CP CT k1 k2
            go_wp2
            go_roundg (n - (i + 1))
            case measure => omega
            case rel => exact ⟨i + 1, by go_num, by omega, Nat.le_refl _, (show Hid _ from H3.out)⟩
        · rw [if_pos b1] at hpr
          obtain ⟨q1, q2⟩ := STOP.out (timeE t) b1 hpr
          have FIN := Lib.hid (OUT.out W2 P.out.kept q2)
          have Q1 := Lib.hid q1
          have d1 : (timeE t != 0) = true := by simpa using b1
          clear STOP OUT GO hpr q1 q2 P b1
          generalize timeE t = y at *
          go_wp2_with fail
          refine CT.out.mono ?_
          rintro E w3 ⟨rfl, rfl⟩
          go_wp2
          go_ret
          exact ⟨by rw [Q1.out]; rfl, FIN.out⟩
      · obtain rfl : i = n := by omega
        have hi' : decide ((i : Int) < (i : Int)) = false := decide_eq_false (by omega)
        have hi3 : decide (i < i) = false := decide_eq_false (by omega)
        obtain ⟨N, hP⟩ := HR.out
        have e : l.drop i = [] := List.drop_of_length_le (by rw [HN.out]; exact Nat.le_refl _)
        have e2 : l.take i = l := List.take_of_length_le (by rw [HN.out]; exact Nat.le_refl _)
        have hs := hP.todo
        rw [e] at hs
        have hs : putsR S l = 0 := hs
        have hp := hP.perm
        rw [e2] at hp
        have hm : putsL S l = l.reverse ++ S := if_pos hs
        obtain ⟨an, cn, n1, n2⟩ := hP.next
        obtain ⟨ar, cr, r1, r2⟩ := HH.out.1
        have rlt : rf < w.heap.size := (Array.getElem?_eq_some_iff.1 r1).1
        have r3 := (hP.kept.block rf rlt (fun x => x)).trans r1
        obtain ⟨nl, hnl⟩ : ∃ nl, N.length = nl := ⟨_, rfl⟩
        rw [hnl] at n1 n2
        have kk : Kept (fun k => k = rf) w W2 := hP.kept.mono (fun _ _ x => x.elim)
        have FIN : Hid ((∃ N, RefIs B (W2.setCell ⟨rf, 0, none⟩ (.slice an nl cn)) rf N ∧ Sorted N ∧ N.Perm (putsL S l)) ∧ Kept (fun k => k = rf) w (W2.setCell ⟨rf, 0, none⟩ (.slice an nl cn))) :=
          ⟨⟨N, ref_store r3 hnl.symm n2, hP.sorted, by rw [hm]; exact hp⟩, kk.setCell (p := ⟨rf, 0, none⟩) (.inl rfl) _⟩
        have c1 : W2.cell? ⟨nb, 0, none⟩ = some (.slice an nl cn) := by simp [World.cell?, n1]
        have c2 : W2.cell? ⟨rf, 0, none⟩ = some (.slice ar S.length cr) := by simp [World.cell?, r3]
        have c3 : W2.frozen? ⟨rf, 0, none⟩ = false := by simp [World.frozen?, r3]
        have Q1 := Lib.hid hs
        clear hP hs hp hm n1 n2 r1 r2 r3 e e2 HR hnl kk
        go_wp2
        go_ret
        exact ⟨by rw [Q1.out]; rfl, FIN.out⟩
end Go.Proofs.Ytcipilggddpnpaa

/-
  The reference's queue (layer 4): Move; a queue and the reference's side by side.
-/
namespace Go.Proofs.Ytcipilggddpnpaa
open Go.RowKit Go.Shelf Go.Maps
set_option linter.unusedVariables false
set_option linter.unusedSimpArgs false

/-- What is there behind a Move, in order. -/
def moveS (S : List Ent) (x : Ent) : List Ent := if moveR S x = 0 then layR x (but S x.1) else S
theorem moveS_perm (S : List Ent) (x : Ent) : (moveS S x).Perm (moveL S x) := by
  unfold moveS moveL
  split
  · exact layR_perm x (but S x.1)
  · exact List.Perm.refl _
theorem moveS_sorted {S : List Ent} (h : Sorted S) (x : Ent) : Sorted (moveS S x) := by
  unfold moveS
  split
  · exact layR_sorted x (sorted_filter h _) (fun y hy => by simpa using (List.mem_filter.1 hy).2)
  · exact h
theorem moveS_diff {S : List Ent} (h : Diff S) (x : Ent) : Diff (moveS S x) := by
  unfold moveS
  split
  · exact layR_diff x (diff_but h _) (fun y hy => by simpa using (List.mem_filter.1 hy).2)
  · exact h
theorem moveS_len (S : List Ent) (x : Ent) : (moveS S x).length ≤ S.length + 1 := by
  unfold moveS
  split
  · rw [layR_len]
    have := but_len S x.1
    omega
  · omega

set_option maxHeartbeats 2000000 in
set_option maxRecDepth 20000 in
theorem rmove4_any {B : Nat} {w : World} {rf : Nat} {S : List Ent} (h : RefIs B w rf S) (hd : Diff S) (hB : B ≤ w.heap.size) (hl : S.length < 1099511627776) (x : Ent) :
    Calls Try.prog 46 #[.pointer (some ⟨rf, 0, none⟩), .agg #[.int .i64 x.2, .int .i64 x.1]] w fun E w' => E = .returned (.int .i64 (moveR S x)) ∧ RefIs B w' rf (moveS S x) ∧ Kept (fun k => k = rf) w w' := by
  obtain ⟨id, t⟩ := x
  obtain ⟨W0, hW0⟩ : ∃ W0, w.alloc (.cells #[.int .i64 t, .int .i64 id] 37) = W0 := ⟨_, rfl⟩
  have g0 : Grew w W0 := by rw [← hW0]; exact (Grew.refl w).alloc _
  obtain ⟨k0, k1⟩ := boxed hW0 (Kept.refl (fun _ => False) W0) (fun x => x)
  have R0 := h.grew g0
  have G0 := Lib.hid g0
  have HW := Lib.hid hW0
  have HR := Lib.hid R0
  have CA := Lib.hid (refAt_any B W0 rf S (by omega) R0 id)
  rcases find_any hd id with ⟨h1, i, hi, hr, hf⟩ | ⟨h1, hf⟩
  · have e1 : (S.any fun y => y.1 == id) = true := h1
    have t1 : decide ((i : Int) < 0) = false := decide_eq_false (by omega)
    rw [hf] at CA
    have CT : ∀ W, Hid (Calls Try.prog 70 #[.int .i64 t] W fun e w' => e = .returned (.int .i64 (timeE t)) ∧ W = w') := fun W => rtime_any t W
    by_cases ht : timeE t = 0
    · have em : moveR S (id, t) = 0 := by unfold moveR; rw [if_pos e1]; exact ht
      have es : moveS S (id, t) = layR (id, t) (but S id) := if_pos em
      rw [em, es]
      have CC := Lib.hid (refChange_there B W0 rf S (by omega) (Nat.le_trans hB g0.size) R0 id t i hi hf)
      have eb : S.eraseIdx i = but S id := by rw [but_at hd hi, hr]
      rw [eb] at CC
      rw [ht] at CT
      clear h g0 hW0 R0 hf hr eb em es e1 h1 hi hd
      go_enter Try.func46, Try.ntmps46
      go_wp2_with fail
      rw [HW.out]
      refine CA.out.mono ?_
      rintro E w1 ⟨rfl, hw1⟩
      subst hw1
      go_wp2_with fail
      refine (CT _).out.mono ?_
      rintro E w2 ⟨rfl, rfl⟩
      go_wp2_with fail
      refine CC.out.mono ?_
      rintro E w2 ⟨rfl, r2, kk⟩
      have F2 := Lib.hid (And.intro r2 (G0.out.kept (fun k => k = rf) |>.trans kk))
      clear r2 kk
      go_wp2
      go_ret
      exact ⟨rfl, F2.out⟩
    · have em : moveR S (id, t) = timeE t := by unfold moveR; rw [if_pos e1]
      have es : moveS S (id, t) = S := if_neg (by rw [em]; exact ht)
      rw [em, es]
      have ht' : (timeE t == 0) = false := by simpa using ht
      clear h g0 hW0 R0 hf hr em es e1 h1 hi hd ht
      generalize timeE t = y at *
      go_enter Try.func46, Try.ntmps46
      go_wp2_with fail
      rw [HW.out]
      refine CA.out.mono ?_
      rintro E w1 ⟨rfl, hw1⟩
      subst hw1
      go_wp2_with fail
      refine (CT _).out.mono ?_
      rintro E w2 ⟨rfl, rfl⟩
      go_wp2
      go_ret
      exact ⟨rfl, HR.out, G0.out.kept _⟩
  · have e1 : (S.any fun y => y.1 == id) = false := h1
    have t1 : decide ((-1 : Int) < 0) = true := by decide
    rw [hf] at CA
    have em : moveR S (id, t) = 14 := by unfold moveR; rw [if_neg (by rw [e1]; decide)]
    have es : moveS S (id, t) = S := if_neg (by rw [em]; decide)
    rw [em, es]
    clear h g0 hW0 R0 hf em es e1 h1 hd
    go_enter Try.func46, Try.ntmps46
    go_wp2_with fail
    rw [HW.out]
    refine CA.out.mono ?_
    rintro E w1 ⟨rfl, hw1⟩
    subst hw1
    go_wp2
    go_ret
    exact ⟨rfl, HR.out, G0.out.kept _⟩

/-- A queue and the reference's that hold the same, in order; X: where what turns begins. -/
structure Pq (X : Nat) (W : World) (q : QB) (rf : Nat) (S : List Ent) : Prop where
  queue : Qs X W q S
  ref : RefIs X W rf S
  sorted : Sorted S
  diff : Diff S
  good : ∀ x ∈ S, (¬ x.1 < 0 ∧ timeE x.2 = 0) ∧ Is64 x.1 ∧ Is64 x.2
  base : X ≤ W.heap.size
  rb : X ≤ rf
theorem Qs.kindsR {B : Nat} {W : World} {q : QB} {L : List Ent} (h : Qs B W q L) : ∀ k, q.own k → ∃ ob, W.heap[k]? = some ob ∧ tyOf ob ≠ some 48 ∧ tyOf ob ≠ some 37 := by
  rintro k ((hm | hm) | rfl | rfl)
  · obtain ⟨ob, ho, ht⟩ := h.up.kinds k hm
    refine ⟨ob, ho, ?_⟩
    rcases ht with e | e | e <;> rw [e] <;> exact ⟨by decide, by decide⟩
  · obtain ⟨ob, ho, ht⟩ := h.down.kinds k hm
    refine ⟨ob, ho, ?_⟩
    rcases ht with e | e | e <;> rw [e] <;> exact ⟨by decide, by decide⟩
  · exact ⟨_, h.obj, by show some _ ≠ _; decide, by show some _ ≠ _; decide⟩
  · exact ⟨_, h.box, by show some _ ≠ _; decide, by show some _ ≠ _; decide⟩
/-- The reference behind a call of the queue. -/
theorem RefIs.besideQ {B B' : Nat} {W W' : World} {q : QB} {rf : Nat} {L S : List Ent} (h : RefIs B W rf S) (t : Qs B' W q L) (k : Kept q.turns W W') : RefIs B W' rf S :=
  h.kept k (fun b ob hs hb => by
    obtain ⟨ob', ho, e1, e2⟩ := t.kindsR b (.inl hs)
    rw [hb] at ho
    cases ho
    exact ⟨e1, e2⟩)
/-- The queue behind a call of the reference. -/
theorem Qs.besideR {B B' : Nat} {W W' : World} {q : QB} {rf : Nat} {L S : List Ent} (h : Qs B W q L) (r : RefIs B' W rf S) (k : Kept (fun k => k = rf) W W') : Qs B W' q L :=
  h.kept k (fun b hb e => by
    obtain ⟨ob, ho, e1, _⟩ := h.kindsR b hb
    obtain ⟨a, cap, h1, _⟩ := r
    rw [e, h1] at ho
    cases ho
    exact e1 rfl)
theorem Pq.lies {X : Nat} {W W' : World} {q : QB} {rf : Nat} {S : List Ent} (h : Pq X W q rf S) (b : Below W.heap.size W W') : Pq X W' q rf S :=
  ⟨h.queue.kept (kept_lies (S := fun _ => False) b) (fun _ _ x => x), h.ref.lies b, h.sorted, h.diff, h.good, Nat.le_trans h.base b.size, h.rb⟩
theorem Pq.grew {X : Nat} {W W' : World} {q : QB} {rf : Nat} {S : List Ent} (h : Pq X W q rf S) (g : Grew W W') : Pq X W' q rf S := h.lies g.below
end Go.Proofs.Ytcipilggddpnpaa
