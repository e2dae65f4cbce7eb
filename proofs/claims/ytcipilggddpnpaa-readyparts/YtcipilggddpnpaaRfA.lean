/-
  The reference's heap (metronomeref03): a list in order. What it is in memory; At, Ahead.
-/
import Derived.Test.YtcipilggddpnpaaHpT
import Derived.Laws.AppendOwnNone
namespace Go.Proofs.Ytcipilggddpnpaa
open Go.RowKit Go.Sort Go.Shelf Go.Maps
set_option linter.unusedVariables false
set_option linter.unusedSimpArgs false

theorem sorted_eq : ∀ {S L : List Ent}, S.Perm L → Sorted S → Sorted L → S = L
  | [], L, hp, _, _ => by rw [List.nil_perm.1 hp]
  | x :: r, L, hp, hS, hL => by
    cases L with
    | nil => exact absurd hp.length_eq (by simp)
    | cons y t =>
      have h1 := (List.pairwise_cons.1 hS)
      have h2 := (List.pairwise_cons.1 hL)
      have e : x = y := by
        by_cases e : x = y
        · exact e
        · have a1 : x ∈ t := by
            rcases List.mem_cons.1 (hp.mem_iff.1 (List.mem_cons_self)) with h | h
            · exact absurd h e
            · exact h
          have a2 : y ∈ r := by
            rcases List.mem_cons.1 (hp.mem_iff.2 (List.mem_cons_self)) with h | h
            · exact absurd h.symm e
            · exact h
          have b1 := h1.1 y a2
          have b2 := h2.1 x a1
          have := ah_weak.asym x y b1
          rw [b2] at this
          cases this
      subst e
      rw [sorted_eq (List.Perm.cons_inv hp) h1.2 h2.2]

/-- The list as cells: of each one the key, then the number. -/
def flatR : List Ent → List Value
  | [] => []
  | x :: r => .int .i64 x.2 :: .int .i64 x.1 :: flatR r
theorem len_flatR : ∀ R : List Ent, (flatR R).length = R.length * 2
  | [] => rfl
  | x :: r => by simp [flatR, len_flatR r]; omega
theorem flatR_append : ∀ R S : List Ent, flatR (R ++ S) = flatR R ++ flatR S
  | [], S => rfl
  | x :: r, S => by simp [flatR, flatR_append r S]
theorem flatR_get : ∀ (R : List Ent) (i : Nat), i < R.length → (flatR R)[i * 2]? = some (.int .i64 (rky R i)) ∧ (flatR R)[i * 2 + 1]? = some (.int .i64 (rid R i))
  | x :: r, 0, _ => by simp [flatR, rid, rky]
  | x :: r, i + 1, h => by
    have := flatR_get r i (by simpa using h)
    have e1 : (i + 1) * 2 = i * 2 + 1 + 1 := by omega
    rw [e1]
    simpa [flatR, rid, rky] using this

/-- The reference's heap at block rf holds the list L, in a row of blocks from B on. -/
def RefIs (B : Nat) (w : World) (rf : Nat) (L : List Ent) : Prop :=
  ∃ a cap, w.heap[rf]? = some (.cells #[.slice a L.length cap] 48 (0, 0)) ∧ w.ownsRow B 37 2 (.slice a L.length cap) L.length (flatR L)

theorem RefIs.at {B : Nat} {w : World} {rf : Nat} {L : List Ent} (h : RefIs B w rf L) :
    ∃ a cap, w.cell? ⟨rf, 0, none⟩ = some (.slice a L.length cap) ∧ (∀ i, i < L.length → ∃ g, a = some ⟨g, 0, none⟩ ∧ w.cell? ⟨g, i * 2, none⟩ = some (.int .i64 (rky L i)) ∧ w.cell? ⟨g, i * 2 + 1, none⟩ = some (.int .i64 (rid L i))) := by
  obtain ⟨a, cap, h1, h2⟩ := h
  refine ⟨a, cap, by simp [World.cell?, h1], fun i hi => ?_⟩
  rcases h2.2 with ⟨e, hn⟩ | ⟨g, c, cur, e, _, h3, h4, h5, h6, h7⟩
  · omega
  · simp only [Value.slice.injEq] at e
    obtain ⟨rfl, _, rfl⟩ := e
    have hg := flatR_get L i hi
    have k1 := h2.cellAt (i * 2) (by omega)
    have k2 := h2.cellAt (i * 2 + 1) (by omega)
    exact ⟨g, rfl, by rw [k1]; exact hg.1, by rw [k2]; exact hg.2⟩

/-- Where a number stands, from place i on. -/
def findR (L : List Ent) (id : Int) : Nat → Nat → Int
  | 0, _ => -1
  | k + 1, i => if rid L i = id then (i : Int) else findR L id k (i + 1)

set_option maxHeartbeats 1000000 in
theorem refAt_any (B : Nat) (w : World) (rf : Nat) (L : List Ent) (hs : L.length ≤ 1099511627776) (h : RefIs B w rf L) (id : Int) :
    Calls Try.prog 47 #[.pointer (some ⟨rf, 0, none⟩), .int .i64 id] w fun e w' => e = .returned (.int .i64 (findR L id L.length 0)) ∧ w' = w := by
  obtain ⟨a, cap, c0, hr⟩ := h.at
  have HR := Lib.hid hr
  obtain ⟨n, hn⟩ : ∃ n, L.length = n := ⟨_, rfl⟩
  rw [hn] at c0 hs
  have HN := Lib.hid hn
  obtain ⟨Z, hZ⟩ : ∃ Z, findR L id L.length 0 = Z := ⟨_, rfl⟩
  rw [hZ]
  rw [hn] at hZ
  have HZ := Lib.hid hZ
  clear hr h hn hZ
  go_enter Try.func47, Try.ntmps47
  go_wp2_with fail
  go_loopg [5] n (fun gk s wr => ∃ i : Nat, s = .int .i64 i ∧ i ≤ n ∧ n - i ≤ gk ∧ Hid (findR L id (n - i) i = Z) ∧ wr = w)
  case atStart => exact ⟨0, rfl, Nat.zero_le _, by omega, HZ.out, rfl⟩
  case round =>
    obtain ⟨i, rfl, hi, hgk, HI, rfl⟩ := hrel
    by_cases hlt : i < n
    · have hz : decide ((i : Int) < (n : Int)) = true := decide_eq_true (by omega)
      have p1 : (i : Int) < (n : Int) := by omega
      have p2 : IntKind.i64.wrap ((i : Int) + 1) = (i : Int) + 1 := by rw [IntKind.wrap_i64]; omega
      obtain ⟨g, rfl, e1, e2⟩ := HR.out i (by rw [HN.out]; exact hlt)
      have HE : Hid (∀ x, rid L i = x → (if x = id then (i : Int) else findR L id (n - (i + 1)) (i + 1)) = Z) := fun x hx => by
        have := HI.out
        rw [show n - i = (n - (i + 1)) + 1 by omega, findR, hx] at this
        exact this
      obtain ⟨x, hx⟩ : ∃ x, rid L i = x := ⟨_, rfl⟩
      have HF := Lib.hid (HE.out x hx)
      rw [hx] at e2
      clear hx HE
      by_cases he : x = id
      · subst he
        go_wp2_with fail
        go_ret
        have := HF.out
        rw [if_pos trivial] at this
        exact ⟨by rw [← this]; rfl, rfl⟩
      · have hb : (x == id) = false := beq_eq_false_iff_ne.2 he
        go_wp2_with fail
        go_roundg (n - (i + 1))
        case measure => omega
        case rel => exact ⟨i + 1, by go_num, by omega, Nat.le_refl _, (show Hid _ from by have := HF.out; rw [if_neg he] at this; exact this), rfl⟩
    · obtain rfl : i = n := by omega
      have hz : decide ((i : Int) < (i : Int)) = false := decide_eq_false (by omega)
      have HF : Hid (Z = -1) := by have := HI.out; rw [Nat.sub_self] at this; exact this.symm
      go_wp2_with fail
      go_ret
      exact ⟨by rw [HF.out]; rfl, rfl⟩

set_option maxHeartbeats 1000000 in
/-- The reference's Ahead. -/
theorem refAhead_any (a b c d : Int) (w : World) :
    Calls Try.prog 105 #[.agg #[.int .i64 a, .int .i64 b], .agg #[.int .i64 c, .int .i64 d]] w fun e w' => e = .returned (.bool (ah (b, a) (d, c))) ∧ Grew w w' := by
  have hG : Grew w ((w.alloc (.cells #[.int .i64 a, .int .i64 b] 37)).alloc (.cells #[.int .i64 c, .int .i64 d] 37)) := ((Grew.refl w).alloc _).alloc _
  have HG := Lib.hid hG
  clear hG
  by_cases h1 : a < c
  · have e : ah (b, a) (d, c) = true := by rw [ah_eq]; simp [h1]
    rw [e]
    have h1' : decide (a < c) = true := decide_eq_true h1
    go_enter Try.func105, Try.ntmps105
    go_wp2
    go_ret
    exact ⟨rfl, HG.out⟩
  have h1' : decide (a < c) = false := decide_eq_false h1
  by_cases h2 : a = c
  · subst h2
    have e : ah (b, a) (d, a) = decide (b < d) := by rw [ah_eq]; simp
    rw [e]
    go_enter Try.func105, Try.ntmps105
    go_wp2
    go_ret
    exact ⟨rfl, HG.out⟩
  · have e : ah (b, a) (d, c) = false := by rw [ah_eq]; simp [h1, h2]
    have h2' : (a == c) = false := beq_eq_false_iff_ne.2 h2
    rw [e]
    go_enter Try.func105, Try.ntmps105
    go_wp2
    go_ret
    exact ⟨rfl, HG.out⟩
end Go.Proofs.Ytcipilggddpnpaa
