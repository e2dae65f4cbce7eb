/-
  HeapPlays: the law's walk.
-/
import Derived.Test.YtdmdebelcklfhaaOpsI
namespace Go.Proofs.Ytdmdebelcklfhaa
open Go.RowKit Go.Sort Go.Shelf Go.Maps
set_option linter.unusedVariables false
set_option linter.unusedSimpArgs false

set_option maxHeartbeats 1000000 in
theorem plays_long (a : Option Addr) (n cap : Nat) (h60 : 60 < n) (w : World) :
    Calls Try.prog 3 #[.slice a n cap] w fun E w' => E = .returned (.bool true) ∧ Below w.heap.size w w' := by
  have C0 := Lib.hid (hs_new w.heap.size w (Nat.le_refl _))
  have C1 : ∀ W, Hid (Calls Try.prog 13 #[.slice a n cap] W fun e w' => e = .returned (.bool false) ∧ w' = W) := fun W => by
    have := few3_any a n cap W
    rwa [decide_eq_false (show ¬ n ≤ 60 by omega)] at this
  have CW : ∀ W, Hid (Calls Try.prog 14 #[] W fun e w' => e = .returned (.bool true) ∧ Below W.heap.size W w') := fun W => awake3 W
  go_enter Try.func3, Try.ntmps3
  go_wp2_with (first | (go_at_call 11; (with_reducible refine C0.out.mono ?_); rintro e w0 ⟨hb, mb, rfl, h0, g0, _, _⟩; have G0 := Lib.hid g0; clear h0 g0) | (go_at_call 13; (with_reducible refine (C1 _).out.mono ?_); rintro e w1 ⟨rfl, rfl⟩) | (go_at_call 14; (with_reducible refine (CW _).out.mono ?_); rintro e w2 ⟨rfl, b2⟩))
  go_ret
  exact ⟨rfl, G0.out.below.trans (b2.mono G0.out.size)⟩

set_option maxHeartbeats 2000000 in
set_option maxRecDepth 20000 in
theorem plays_core (a : Option Addr) (n cap : Nat) (V : Nat → Int × Int × Int) (h60 : n ≤ 60) (w : World) (hO : OpsAt w a n V) :
    Calls Try.prog 3 #[.slice a n cap] w fun E w' => E = .returned (.bool true) ∧ Below w.heap.size w w' := by
  have C0 := Lib.hid (hs_new w.heap.size w (Nat.le_refl _))
  have C1 : ∀ W, Hid (Calls Try.prog 13 #[.slice a n cap] W fun e w' => e = .returned (.bool true) ∧ w' = W) := fun W => by
    have := few3_any a n cap W
    rwa [decide_eq_true h60] at this
  have CW : ∀ W, Hid (Calls Try.prog 14 #[] W fun e w' => e = .returned (.bool true) ∧ Below W.heap.size W w') := fun W => awake3 W
  have HO := Lib.hid hO
  clear hO
  go_enter Try.func3, Try.ntmps3
  go_wp2_with (first | (go_at_call 11; (with_reducible refine C0.out.mono ?_); rintro e w0 ⟨hb, mb, rfl, h0, g0, _, _⟩; have G0 := Lib.hid (And.intro h0 g0); clear h0 g0) | (go_at_call 13; (with_reducible refine (C1 _).out.mono ?_); rintro e w1 ⟨rfl, rfl⟩))
  obtain ⟨W1, hW1⟩ : ∃ W1, w1.alloc (.cells #[.slice none 0 0] 33) = W1 := ⟨_, rfl⟩
  have H1 : Hid (Pr w.heap.size W1 hb mb none w1.heap.size [] ∧ Below w.heap.size w W1) := ⟨pr_new G0.out.1 G0.out.2.size hW1, by rw [← hW1]; exact (G0.out.2.alloc _).below⟩
  rw [hW1]
  generalize w1.heap.size = rf at *
  clear hW1 G0
  go_loopg [6] n (fun gk s wr => ∃ i : Nat, s = .int .i64 i ∧ i ≤ n ∧ n - i ≤ gk ∧ Hid (∃ ro L, Pr w.heap.size wr hb mb ro rf L ∧ L.length ≤ i ∧ Below w.heap.size w wr))
  case atStart => exact ⟨0, rfl, Nat.zero_le _, Nat.le_refl _, none, [], H1.out.1, Nat.le_refl _, H1.out.2⟩
  case round =>
    rename World => W2
    obtain ⟨i, rfl, hin, hgk, HR⟩ := hrel
    by_cases hi : i < n
    · have hi' : decide ((i : Int) < (n : Int)) = true := decide_eq_true (by omega)
      have hiz : (i : Int) < (n : Int) := by omega
      have q4 : IntKind.i64.wrap ((i : Int) + 1) = (i : Int) + 1 := by rw [IntKind.wrap_i64]; omega
      obtain ⟨ro, L, hp, hl, hb2⟩ := HR.out
      rcases HO.out.below hb2 with h | ⟨g, o, rfl, hg, hc⟩
      · omega
      obtain ⟨⟨c1, c2, c3⟩, hy, hx⟩ := hc i hi
      have CD := Lib.hid (does_any w.heap.size W2 hb mb ro rf L hp (by omega) (V i).1 (V i).2.1 (V i).2.2 hy hx)
      have CS : ∀ W3, Did w.heap.size W2 hb mb ro rf L W3 → Hid (Calls Try.prog 16 #[.pointer (some ⟨hb, 0, none⟩), .pointer (some ⟨rf, 0, none⟩)] W3 fun e w' => e = .returned (.bool true) ∧ ∃ ro L, Pr w.heap.size w' hb mb ro rf L ∧ L.length ≤ i + 1 ∧ Below w.heap.size w w') := fun W3 hd => by
        have hbb := hb2.trans ((hd.below hp).mono (Nat.le_refl _))
        obtain ⟨ro', L', hp', hl', _, _⟩ := hd
        refine (same_any w.heap.size W3 hb mb ro' rf L' hp' (by omega)).mono ?_
        rintro e w' ⟨rfl, k⟩
        exact ⟨rfl, ro', L', ⟨hp'.heap.kept k (fun _ _ x => x), hp'.ref.kept k (fun _ _ x => x.elim), hp'.sorted, hp'.diff, hp'.ok, Nat.le_trans hp'.base k.size, hp'.rb⟩, by omega, hbb.trans (k.below hp'.base (fun _ x => x.elim))⟩
      clear hp hl hb2 hc hy hx HR H1
      generalize (V i).1 = q at *
      generalize (V i).2.1 = y at *
      generalize (V i).2.2 = x at *
      go_wp2_with (first | (go_at_call 15; (with_reducible refine CD.out.mono ?_); rintro e W3 ⟨rfl, h3⟩; have C4 := CS W3 h3; clear h3) | (go_at_call 16; (with_reducible refine C4.out.mono ?_); rintro e W4 ⟨rfl, h4⟩; have H4 := Lib.hid h4; clear h4))
      go_roundg (n - (i + 1))
      case measure => omega
      case rel => exact ⟨i + 1, by go_num, by omega, Nat.le_refl _, (show Hid _ from H4.out)⟩
    · obtain rfl : i = n := by omega
      have hi' : decide ((i : Int) < (i : Int)) = false := decide_eq_false (by omega)
      go_wp2_with (go_at_call 14; (with_reducible refine (CW _).out.mono ?_); rintro e W6 ⟨rfl, b6⟩)
      go_ret
      obtain ⟨_, _, _, _, hb2⟩ := HR.out
      exact ⟨rfl, hb2.trans (b6.mono hb2.size)⟩

theorem walk_HeapPlays (a : Option Addr) (len cap : Nat) (w : World) (h : IsOps w a len cap) :
    Calls Try.prog 3 #[.slice a len cap] w fun E w' => E = .returned (.bool true) ∧ Below w.heap.size w w' := by
  obtain ⟨hl, V, hV⟩ := h.ops
  by_cases h60 : 60 < len
  · exact plays_long a len cap h60 w
  · exact plays_core a len cap V (by omega) w hV
end Go.Proofs.Ytdmdebelcklfhaa
