/-
  Layer 4's calls, as they come in; few.
-/
import Derived.Test.YtcipilggddpnpaaQk
namespace Go.Proofs.Ytcipilggddpnpaa
open Go.RowKit Go.Sort Go.Shelf Go.Maps
set_option linter.unusedVariables false
set_option linter.unusedSimpArgs false

/-- n calls lie at a: what is asked, the key, the keys that are put, and where these lie. -/
def OpsAt4 (w : World) (a : Option Addr) (n : Nat) (V : Nat → Int × Ent × List Ent) (A : Nat → Option Addr × Nat) : Prop :=
  n = 0 ∨ ∃ g o, a = some ⟨g, o, none⟩ ∧ g < w.heap.size ∧ ∀ i, i < n → (w.cell? ⟨g, o + i * 4, none⟩ = some (.int .i64 (V i).1) ∧ w.cell? ⟨g, o + i * 4 + 1, none⟩ = some (.int .i64 (V i).2.1.2) ∧ w.cell? ⟨g, o + i * 4 + 2, none⟩ = some (.int .i64 (V i).2.1.1) ∧ w.cell? ⟨g, o + i * 4 + 3, none⟩ = some (.slice (A i).1 (V i).2.2.length (A i).2)) ∧
    (Is64 (V i).2.1.1 ∧ Is64 (V i).2.1.2) ∧ KeysAt w (A i).1 (V i).2.2 ∧ (V i).2.2.length ≤ (A i).2

theorem OpsAt4.below {w w' : World} {a : Option Addr} {n : Nat} {V : Nat → Int × Ent × List Ent} {A : Nat → Option Addr × Nat} (h : OpsAt4 w a n V A) (b : Below w.heap.size w w') : OpsAt4 w' a n V A := by
  rcases h with h | ⟨g, o, rfl, hg, hc⟩
  · exact .inl h
  · refine .inr ⟨g, o, rfl, Nat.lt_of_lt_of_le hg b.size, fun i hi => ?_⟩
    obtain ⟨⟨h1, h2, h3, h4⟩, h5, h6, h7⟩ := hc i hi
    refine ⟨⟨(b.cell (p := ⟨g, o + i * 4, none⟩) hg).trans h1, (b.cell (p := ⟨g, o + i * 4 + 1, none⟩) hg).trans h2, (b.cell (p := ⟨g, o + i * 4 + 2, none⟩) hg).trans h3, (b.cell (p := ⟨g, o + i * 4 + 3, none⟩) hg).trans h4⟩, h5, ?_, h7⟩
    rcases h6 with h6 | ⟨g', o', e, hg', hc'⟩
    · exact .inl h6
    · refine .inr ⟨g', o', e, Nat.lt_of_lt_of_le hg' b.size, fun k hk => ?_⟩
      obtain ⟨⟨k1, k2⟩, k3⟩ := hc' k hk
      exact ⟨⟨(b.cell (p := ⟨g', o' + k * 2, none⟩) hg').trans k1, (b.cell (p := ⟨g', o' + k * 2 + 1, none⟩) hg').trans k2⟩, k3⟩

/-- Not too many calls, of not too many keys. -/
def Few4 (n : Nat) (V : Nat → Int × Ent × List Ent) : Prop := n ≤ 40 ∧ ∀ i, i < n → (V i).2.2.length ≤ 20

set_option maxHeartbeats 1000000 in
set_option maxRecDepth 20000 in
theorem few4_any (w : World) (a : Option Addr) (n cap : Nat) (V : Nat → Int × Ent × List Ent) (A : Nat → Option Addr × Nat) (h : OpsAt4 w a n V A) (hn : n ≤ 9223372036854775807) (r : Bool) (hr : r = true ↔ Few4 n V) :
    Calls Try.prog 17 #[.slice a n cap] w fun e w' => e = .returned (.bool r) ∧ Grew w w' := by
  have HO : Hid (OpsAt4 w a n V A ∧ (r = true ↔ Few4 n V)) := ⟨h, hr⟩
  clear h hr
  go_enter Try.func17, Try.ntmps17
  go_wp2
  go_loopg [3] n (fun gk s wr => ∃ i : Nat, s = .int .i64 i ∧ i ≤ n ∧ n - i ≤ gk ∧ Hid (Grew w wr ∧ ∀ j, j < i → (V j).2.2.length ≤ 20))
  case atStart => exact ⟨0, rfl, Nat.zero_le _, Nat.le_refl _, Grew.refl w, fun j hj => absurd hj (Nat.not_lt_zero _)⟩
  case round =>
    rename World => W2
    obtain ⟨i, rfl, hin, hgk, HR⟩ := hrel
    by_cases hi : i < n
    · have hi' : decide ((i : Int) < (n : Int)) = true := decide_eq_true (by omega)
      have hiz : (i : Int) < (n : Int) := by omega
      have q4 : IntKind.i64.wrap ((i : Int) + 1) = (i : Int) + 1 := by rw [IntKind.wrap_i64]; omega
      rcases HO.out.1.below HR.out.1.below with h | ⟨g, o, rfl, hg, hc⟩
      · omega
      obtain ⟨⟨_, _, _, c4⟩, _⟩ := hc i hi
      by_cases hx : (V i).2.2.length ≤ 20
      · have H4 : Hid (Grew w W2 ∧ ∀ j, j < i + 1 → (V j).2.2.length ≤ 20) := ⟨HR.out.1, fun j hj => by
          by_cases e : j = i
          · subst e; exact hx
          · exact HR.out.2 j (by omega)⟩
        have t1 : decide (((V i).2.2.length : Int) > 20) = false := decide_eq_false (by omega)
        clear hc hx HR
        generalize (V i).2.2.length = m at *
        generalize (A i).1 = a1 at *
        generalize (A i).2 = a2 at *
        go_wp2
        go_roundg (n - (i + 1))
        case measure => omega
        case rel => exact ⟨i + 1, by go_num, by omega, Nat.le_refl _, (show Hid _ from H4.out)⟩
      · have e0 : Hid (r = false) := by
          have h2 := HO.out.2
          cases hr : r with
          | false => rfl
          | true => exact absurd ((h2.1 hr).2 i hi) hx
        have H4 := Lib.hid HR.out.1
        have t1 : decide (((V i).2.2.length : Int) > 20) = true := decide_eq_true (by omega)
        clear hc hx HR
        generalize (V i).2.2.length = m at *
        generalize (A i).1 = a1 at *
        generalize (A i).2 = a2 at *
        go_wp2
        go_ret
        exact ⟨by rw [e0.out]; rfl, H4.out⟩
    · obtain rfl : i = n := by omega
      have hi' : decide ((i : Int) < (i : Int)) = false := decide_eq_false (by omega)
      have e0 : Hid (r = decide ((i : Int) ≤ 40)) := by
        have h2 := HO.out.2
        by_cases h : i ≤ 40
        · rw [decide_eq_true (by omega)]
          exact h2.2 ⟨h, HR.out.2⟩
        · rw [decide_eq_false (by omega)]
          cases hr : r with
          | false => rfl
          | true => exact absurd (h2.1 hr).1 h
      go_wp2
      go_ret
      exact ⟨by rw [e0.out]; rfl, HR.out.1⟩
end Go.Proofs.Ytcipilggddpnpaa
