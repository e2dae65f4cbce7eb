/-
  HeapDrops: too many keys, or none; all together.
-/
import Derived.Test.YtcipilggddpnpaaLawDr2
import Derived.Test.YtcipilggddpnpaaIsRow
namespace Go.Proofs.Ytcipilggddpnpaa
open Go.RowKit Go.Sort Go.Shelf Go.Maps
set_option linter.unusedVariables false
set_option linter.unusedSimpArgs false

set_option maxHeartbeats 1000000 in
set_option maxRecDepth 100000 in
theorem drops_early (a : Option Addr) (n cap : Nat) (frm : Int) (hn : n ≤ 9223372036854775807) (h : 60 < n ∨ n = 0) (w : World) :
    Calls Try.prog 3 #[.slice a n cap, .int .i64 frm] w fun e w' => e = .returned (.bool true) ∧ Below w.heap.size w w' := by
  obtain ⟨b0, q0, r0, z0⟩ := startD w (.slice a n cap)
  obtain ⟨Wk, hWk⟩ : ∃ Wk, (w.alloc (.cells #[.slice a n cap] 22)).alloc (.cells #[.bool false] 4) = Wk := ⟨_, rfl⟩
  rw [hWk] at b0 q0 r0 z0
  have HWk := Lib.hid hWk
  have CN := Lib.hid (hs_new Wk.heap.size Wk (Nat.le_refl _))
  have CW : Hid (∀ W, Calls Try.prog 9 #[] W fun e w' => e = .returned (.bool true) ∧ Below W.heap.size W w') := fun W => awake3 W
  have HV : Hid (Below w.heap.size w Wk ∧ Wk.heap[w.heap.size]? = some (.cells #[.slice a n cap] 22 (0, 0)) ∧ Wk.heap[w.heap.size + 1]? = some (.cells #[.bool false] 4 (0, 0)) ∧ Wk.heap.size = w.heap.size + 2) := ⟨b0, q0, r0, z0⟩
  clear b0 q0 r0 z0 hWk
  have KEY : Hid (∀ W, Below Wk.heap.size Wk W → W.cell? ⟨w.heap.size, 0, none⟩ = some (.slice a n cap) ∧ W.cell? ⟨w.heap.size + 1, 0, none⟩ = some (.bool false) ∧ W.frozen? ⟨w.heap.size + 1, 0, none⟩ = false ∧ Below w.heap.size w (W.setCell ⟨w.heap.size + 1, 0, none⟩ (.bool true)) ∧ (W.setCell ⟨w.heap.size + 1, 0, none⟩ (.bool true)).cell? ⟨w.heap.size + 1, 0, none⟩ = some (.bool true)) := fun W b => by
    have z := HV.out.2.2.2
    have e1 := (b.block w.heap.size (by omega)).trans HV.out.2.1
    have e2 := (b.block (w.heap.size + 1) (by omega)).trans HV.out.2.2.1
    refine ⟨by simp [World.cell?, e1], by simp [World.cell?, e2], by simp [World.frozen?, e2], (HV.out.1.trans (b.mono HV.out.1.size)).setCell (p := ⟨w.heap.size + 1, 0, none⟩) (Nat.le_succ _) _, ?_⟩
    simp [World.cell?, World.setCell, Array.getElem?_modify, e2]
  by_cases h60 : 60 < n
  · have h1 : decide ((60 : Int) < (n : Int)) = true := decide_eq_true (by omega)
    have h2 : decide ((n : Int) > 60) = true := decide_eq_true (by omega)
    have h3 : decide (60 < n) = true := decide_eq_true h60
    go_enter Try.func3, Try.ntmps3
    go_wp2_with fail
    rw [HWk.out]
    refine CN.out.mono ?_
    rintro e w1 ⟨hb, mb, rfl, _, g1, _, _⟩
    obtain ⟨x0, _⟩ := KEY.out w1 g1.below
    have G1 : Hid (Below Wk.heap.size Wk w1) := g1.below
    clear g1
    go_wp2_with fail
    refine (CW.out _).mono ?_
    rintro e w3 ⟨rfl, b3⟩
    obtain ⟨_, x1, x2, x3, x4⟩ := KEY.out w3 (G1.out.trans (b3.mono G1.out.size))
    have X3 := Lib.hid x3
    clear x3
    go_wp2
    exact bodyPost_ret (v := .bool true) (by simp [results, Try.f3, go_sem, x4]) rfl ⟨rfl, X3.out⟩
  · obtain rfl : n = 0 := by omega
    go_enter Try.func3, Try.ntmps3
    go_wp2_with fail
    rw [HWk.out]
    refine CN.out.mono ?_
    rintro e w1 ⟨hb, mb, rfl, _, g1, _, _⟩
    obtain ⟨x0, _⟩ := KEY.out w1 g1.below
    have G1 : Hid (Below Wk.heap.size Wk w1) := g1.below
    clear g1
    go_wp2_with fail
    refine (CW.out _).mono ?_
    rintro e w3 ⟨rfl, b3⟩
    obtain ⟨_, x1, x2, x3, x4⟩ := KEY.out w3 (G1.out.trans (b3.mono G1.out.size))
    have X3 := Lib.hid x3
    clear x3
    go_wp2
    exact bodyPost_ret (v := .bool true) (by simp [results, Try.f3, go_sem, x4]) rfl ⟨rfl, X3.out⟩

theorem walk_HeapDrops (a : Option Addr) (len cap : Nat) (zs : List Int) (frm : Int) (w : World) (h : IsRow w a len cap zs) (hf : Is64 frm) :
    Calls Try.prog 3 #[.slice a len cap, .int .i64 frm] w fun E w' => E = .returned (.bool true) ∧ Below w.heap.size w w' := by
  obtain ⟨ys, rfl, hr, hz, hl⟩ := h.row
  by_cases h60 : 60 < ys.length ∨ ys.length = 0
  · exact drops_early a ys.length cap frm hl h60 w
  · rcases hr with e | ⟨g, o, rfl, hg, hc⟩
    · exact absurd (by rw [e]; rfl) (fun x => h60 (.inr x))
    · exact drops_core g o cap ys ys.length rfl (by omega) (by omega) frm hf w hz hg hc
end Go.Proofs.Ytcipilggddpnpaa
