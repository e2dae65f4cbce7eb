/-
  ratio.Sums over the law's iterator, and over nil: what it answers.
-/
import Derived.Test.YthindhclcdbnfaaRatI
import Derived.Test.YthindhclcdbnfaaSumK
import Derived.WalkMore
namespace Go.Proofs.Ythindhclcdbnfaa
open Go.RowKit Go.Shelf
set_option linter.unusedVariables false

attribute [local go_sem] Oper.semAt_some

/-- A scope through which the run goes without a goto, at the wide fence. -/
theorem wpIn_scope_wide {n : Nat} {P : Program} {Q : Exit → Act → World → Prop} {a : Act} {w : World} {c : Code} (h : c.wpIn Fence.wide n P (Exit.noGoto Q) a w) : (Code.scope c).wpIn Fence.wide n P Q a w :=
  wpIn_wide.2 (wp_scope_straight (wpIn_wide.1 h))

theorem of_stops (n : Nat) (hn : 1 ≤ n) (Bs n₀ : Nat) (a : Option Addr) (cap : Nat) (zs : List Int) (hz : ∀ j : Nat, -9223372036854775808 ≤ zs[j]?.getD 0 ∧ zs[j]?.getD 0 ≤ 9223372036854775807) (hl : zs.length ≤ 60) (w : World) (hBs : Bs < n₀) (hn₀ : n₀ ≤ w.heap.size)
    (hc : w.cell? ⟨Bs, 0, none⟩ = some (.slice a zs.length cap)) (hI : zs = [] ∨ ∃ g o, a = some ⟨g, o, none⟩ ∧ g < n₀ ∧ ∀ j, j < zs.length → w.cell? ⟨g, o + j, none⟩ = some (.int .i64 (zs[j]?.getD 0))) :
    SeqStopsK Fence.wide n Try.prog 28 #[.pointer (some ⟨Bs, 0, none⟩)] (fun x : I64 => #[Value.int .i64 x.1]) (Below n₀) (fun ys => ys.map (·.1) = zs) (fun pre => pre.map (·.1) <+: zs) zs.length w := fun l J Jx W hW _ _ hY h0 => by
  have hW' := hW.mono hn₀
  have hc' := (hW'.cell (p := ⟨Bs, 0, none⟩) hBs).trans hc
  rcases hI with h | ⟨g, o, rfl, hg, hcs⟩
  · subst h
    exact (of1_nil_in Fence.wide n trivial rfl l Bs a cap J W hc' h0).mono fun e W' ⟨he, hj⟩ => ⟨he, .inl ⟨_, rfl, hj⟩⟩
  · refine (of1_in Fence.wide n trivial rfl hn l Bs n₀ g o zs.length cap zs hz hl hg hBs J Jx hY W hc' (fun j hj => (hW'.cell (p := ⟨g, o + j, none⟩) hg).trans (hcs j hj)) h0).mono ?_
    rintro e W' ⟨he, ⟨ys, rfl, hj⟩ | ⟨pre, ⟨k, hk, rfl⟩, hj⟩⟩
    · exact ⟨he, .inl ⟨_, (upto_take (nth zs hz) zs (fun _ => rfl) (Nat.le_refl _)).trans List.take_length, hj⟩⟩
    · exact ⟨he, .inr ⟨_, by show (upto (nth zs hz) k).map (·.1) <+: zs; rw [upto_take (nth zs hz) zs (fun _ => rfl) hk]; exact List.take_prefix _ _, hj⟩⟩

/-- What Sums answers, from a sum and a greatest one on. -/
def sumsGo (s m : Int) : List Int → Int × Int × Int
  | [] => (s, m, 0)
  | x :: l => if x < 0 then (0, 0, 10) else if s + x ≤ 9223372036854775807 then sumsGo (s + x) (max m x) l else (0, 0, 11)

/-- What the three results hold. -/
def Trio (W : World) (b : Nat) (s m e : Int) : Prop :=
  (W.cell? ⟨b, 0, none⟩ = some (.int .i64 s) ∧ W.frozen? ⟨b, 0, none⟩ = false) ∧ (W.cell? ⟨b + 1, 0, none⟩ = some (.int .i64 m) ∧ W.frozen? ⟨b + 1, 0, none⟩ = false) ∧ (W.cell? ⟨b + 1 + 1, 0, none⟩ = some (.int .i64 e) ∧ W.frozen? ⟨b + 1 + 1, 0, none⟩ = false)
theorem Trio.kept {W W' : World} {row : Option Nat} {b : Nat} {s m e : Int} (h : Trio W b s m e) (hg : W.grownBy W' row) (hr : ∀ r, row = some r → ∃ o : Obj, W.heap[r]? = some o ∧ o.isCells = false) : Trio W' b s m e :=
  ⟨⟨cell_kept h.1.1 hg hr, (frozen_kept h.1.1 hg hr).trans h.1.2⟩, ⟨cell_kept h.2.1.1 hg hr, (frozen_kept h.2.1.1 hg hr).trans h.2.1.2⟩, ⟨cell_kept h.2.2.1 hg hr, (frozen_kept h.2.2.1 hg hr).trans h.2.2.2⟩⟩

/-- Between two rounds. -/
def SumsI (w : World) (pre : List I64) (W : World) : Prop :=
  ∃ s m : Int, (∀ rest, sumsGo 0 0 (pre.map (·.1) ++ rest) = sumsGo s m rest) ∧ (0 ≤ s ∧ s ≤ 9223372036854775807) ∧ (0 ≤ m ∧ m ≤ 9223372036854775807) ∧ Trio W w.heap.size s m 0
/-- Behind a round that left the loop. -/
def SumsX (w : World) (c : Code) (pre : List I64) (W : World) : Prop :=
  ∃ k : Int, c = .exit 0 ∧ (∀ rest, sumsGo 0 0 (pre.map (·.1) ++ rest) = (0, 0, k)) ∧ Trio W w.heap.size 0 0 k

theorem rsum2_at (s x : Int) (hs : Is64 s) (hx : Is64 x) (G cap : Nat) (W : World) (hW : TwoAt W G s x) :
    Calls Try.prog 19 #[.slice (some ⟨G, 0, none⟩) 2 cap] W fun E w' => E = .returned (.tuple #[.int .i64 (rsumR [s, x]).1, .int .i64 (rsumR [s, x]).2]) ∧ W = w' := by
  refine rsum_any (some ⟨G, 0, none⟩) [s, x] cap W (.inr ⟨G, 0, rfl, hW.1, ?_⟩) ?_ (by simp)
  · intro i hi
    match i, hi with
    | 0, _ => exact hW.2.1
    | 1, _ => exact hW.2.2
  · intro z hz
    simp at hz
    rcases hz with h | h
    · rw [h]; exact hs
    · rw [h]; exact hx
theorem rsumR_neg {s x : Int} (hs : 0 ≤ s) (hx : x < 0) : rsumR [s, x] = (0, 10) := by
  unfold rsumR
  rw [if_pos (by simp; omega)]
theorem rsumR_fit {s x : Int} (hs : 0 ≤ s) (hs1 : s ≤ 9223372036854775807) (hx : 0 ≤ x) (h : s + x ≤ 9223372036854775807) : rsumR [s, x] = (s + x, 0) := by
  unfold rsumR
  rw [if_neg (by simp; omega), sumR_pair, if_pos (by omega), if_pos (by omega)]
  congr 1
  omega
theorem rsumR_over {s x : Int} (hs : 0 ≤ s) (hs1 : s ≤ 9223372036854775807) (hx : 0 ≤ x) (h : ¬ s + x ≤ 9223372036854775807) : rsumR [s, x] = (0, 11) := by
  unfold rsumR
  rw [if_neg (by simp; omega), sumR_pair, if_pos (by omega), if_neg (by omega)]
theorem go_snoc {pre : List Int} {s m x : Int} (h : ∀ rest, sumsGo 0 0 (pre ++ rest) = sumsGo s m rest) (rest : List Int) :
    sumsGo 0 0 ((pre ++ [x]) ++ rest) = if x < 0 then (0, 0, 10) else if s + x ≤ 9223372036854775807 then sumsGo (s + x) (max m x) rest else (0, 0, 11) := by
  rw [List.append_assoc, h]
  rfl
end Go.Proofs.Ythindhclcdbnfaa
