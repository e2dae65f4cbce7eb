/-
  The reference's timers: what they are in memory; its Time, Drop, Arm.
-/
import Derived.Test.YtcipilggddpnpaaTg
import Derived.Test.YtcipilggddpnpaaKin
import Derived.Test.YtcipilggddpnpaaLyR
import Derived.BigQuiet
namespace Go.Proofs.Ytcipilggddpnpaa
open Go.RowKit Go.Shelf Go.Maps
set_option linter.unusedVariables false
set_option linter.unusedSimpArgs false

theorem rtime_any (t : Int) (w : World) :
    Calls Try.prog 70 #[.int .i64 t] w fun e w' => e = .returned (.int .i64 (timeE t)) ∧ w = w' := by
  by_cases h : t < 0
  · rw [timeE_neg h]
    go_enter Try.func70, Try.ntmps70
    go_wp2
    go_ret
    exact ⟨rfl, rfl⟩
  by_cases h1 : 1099511627776 ≤ t
  · rw [timeE_far h1]
    go_enter Try.func70, Try.ntmps70
    go_wp2
    go_ret
    exact ⟨rfl, rfl⟩
  · rw [timeE_ok (by omega) (by omega)]
    go_enter Try.func70, Try.ntmps70
    go_wp2
    go_ret
    exact ⟨rfl, rfl⟩

/-- Is a number there? -/
def has (S : List Ent) (id : Int) : Bool := S.any (fun y => y.1 == id)
theorem has_yes {S : List Ent} {id : Int} : has S id = true ↔ ∃ y ∈ S, y.1 = id := by
  unfold has
  rw [List.any_eq_true]
  simp
theorem has_no {S : List Ent} {id : Int} : has S id = false ↔ ∀ y ∈ S, y.1 ≠ id := by
  unfold has
  rw [List.any_eq_false]
  simp
/-- All but one. -/
abbrev but (S : List Ent) (id : Int) : List Ent := S.filter (fun y => y.1 != id)
theorem but_at : ∀ {S : List Ent} {i : Nat}, Diff S → i < S.length → S.eraseIdx i = but S (rid S i)
  | [], i, _, h => absurd h (Nat.not_lt_zero _)
  | x :: r, 0, hd, _ => by
    obtain ⟨h1, _⟩ := List.pairwise_cons.1 hd
    show r = List.filter (fun y => y.1 != x.1) (x :: r)
    rw [List.filter_cons_of_neg (by simp), filter_all (fun y hy => (h1 y hy).symm)]
  | x :: r, i + 1, hd, h => by
    obtain ⟨h1, h2⟩ := List.pairwise_cons.1 hd
    have hi : i < r.length := by simpa using h
    have hne : x.1 ≠ rid r i := h1 _ (mem_getD hi)
    show x :: r.eraseIdx i = List.filter (fun y => y.1 != rid r i) (x :: r)
    rw [List.filter_cons_of_pos (by simpa using hne), but_at h2 hi]
theorem find_any {S : List Ent} (hd : Diff S) (id : Int) : (has S id = true ∧ ∃ i, i < S.length ∧ rid S i = id ∧ findR S id S.length 0 = (i : Int)) ∨ (has S id = false ∧ findR S id S.length 0 = -1) := by
  by_cases h : ∃ y ∈ S, y.1 = id
  · refine .inl ⟨has_yes.2 h, ?_⟩
    obtain ⟨y, hy, rfl⟩ := h
    obtain ⟨i, hi, e⟩ := List.getElem_of_mem hy
    have er : rid S i = y.1 := by
      unfold rid
      rw [List.getD_eq_getElem?_getD, List.getElem?_eq_getElem hi, ← e]; rfl
    exact ⟨i, hi, er, er ▸ hd.find hi⟩
  · have hn : ∀ y ∈ S, y.1 ≠ id := fun y hy e => h ⟨y, hy, e⟩
    exact .inr ⟨has_no.2 hn, findR_no hn⟩

theorem rdrop_any (B : Nat) (w : World) (rf : Nat) (S : List Ent) (hs : S.length ≤ 1099511627776) (hB : B ≤ w.heap.size) (h : RefIs B w rf S) (hd : Diff S) (id : Int) :
    Calls Try.prog 49 #[.pointer (some ⟨rf, 0, none⟩), .int .i64 id] w fun e w' => (∃ k, e = .returned (.tuple #[.int .i64 k, .int .i64 (if has S id then 0 else 14)])) ∧ RefIs B w' rf (but S id) ∧ Kept (fun k => k = rf) w w' := by
  rcases find_any hd id with ⟨h1, i, hi, hr, hf⟩ | ⟨h1, hf⟩
  · rw [h1]
    refine (refDrop_there B w rf S hs hB h id i hi hf).mono ?_
    rintro e w' ⟨rfl, h2, h3⟩
    rw [but_at hd hi, hr] at h2
    exact ⟨⟨_, rfl⟩, h2, h3⟩
  · rw [h1]
    refine (refDrop_none B w rf S hs h id hf).mono ?_
    rintro e w' ⟨rfl, rfl⟩
    rw [but, filter_all (has_no.1 h1)]
    exact ⟨⟨_, rfl⟩, h, Kept.refl _ _⟩

theorem RefIs.lies {B : Nat} {w w' : World} {rf : Nat} {L : List Ent} (h : RefIs B w rf L) (b : Below w.heap.size w w') : RefIs B w' rf L := by
  obtain ⟨a, cap, h1, h2⟩ := h
  exact ⟨a, cap, (b.block rf (Array.getElem?_eq_some_iff.1 h1).1).trans h1, own_kept h2 (fun g e => b.block g (own_lt h2 g e))⟩
/-- What an Arm answers. -/
def armR (m : Int) (S : List Ent) (x : Ent) : Int := if x.1 < 0 then 1 else if timeE x.2 ≠ 0 then timeE x.2 else if has S x.1 = false ∧ m ≤ (S.length : Int) then 13 else 0
/-- What is armed behind it, in order. -/
def armT (m : Int) (S : List Ent) (x : Ent) : List Ent := if armR m S x = 0 then layR x (but S x.1) else S

theorem but_len (S : List Ent) (id : Int) : (but S id).length ≤ S.length := List.length_filter_le _ _
theorem diff_but {S : List Ent} (h : Diff S) (id : Int) : Diff (but S id) := h.filter _

end Go.Proofs.Ytcipilggddpnpaa
