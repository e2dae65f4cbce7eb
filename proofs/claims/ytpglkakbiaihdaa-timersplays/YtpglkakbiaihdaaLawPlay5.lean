/-
  TimersPlays: its walk.
-/
import Derived.Test.YtpglkakbiaihdaaOpT5
namespace Go.Proofs.Ytpglkakbiaihdaa
open Go.RowKit Go.Shelf Go.Maps
set_option linter.unusedVariables false
set_option linter.unusedSimpArgs false

/-- Both, behind so many calls. -/
def At5 (w W : World) (tb : Nat) (m : Int) (rq rh : Nat) (i : Nat) : Prop := ∃ q n o S, Pt w.heap.size W tb q m n o rq rh S ∧ S.length ≤ i ∧ Below w.heap.size w W
theorem At5.lies {w W W' : World} {tb : Nat} {m : Int} {rq rh i : Nat} (h : At5 w W tb m rq rh i) (b : Below W.heap.size W W') : At5 w W' tb m rq rh i := by
  obtain ⟨q, n, o, S, p, h1, h2⟩ := h
  exact ⟨q, n, o, S, p.lies b, h1, h2.trans (b.mono h2.size)⟩
theorem At5.does {w W : World} {tb : Nat} {m : Int} {rq rh i : Nat} (h : At5 w W tb m rq rh i) (hrh : w.heap.size ≤ rh) (hi : i ≤ 1000) (k id t : Int) (hx : Is64 id ∧ Is64 t) :
    Calls Try.prog 40 #[.pointer (some ⟨tb, 0, none⟩), .pointer (some ⟨rq, 0, none⟩), .agg #[.int .i64 k, .int .i64 id, .int .i64 t]] W fun E w' => E = .returned (.bool true) ∧ At5 w w' tb m rq rh (i + 1) := by
  obtain ⟨q, n, o, S, p, h1, h2⟩ := h
  refine (does5_any p hrh (by omega) k id t hx).mono ?_
  rintro E w' ⟨rfl, q', n', o', S', p', h3, h4⟩
  exact ⟨rfl, q', n', o', S', p', by omega, h2.trans h4⟩
theorem At5.same {w W : World} {tb : Nat} {m : Int} {rq rh i : Nat} (h : At5 w W tb m rq rh i) (hi : i ≤ 1000) :
    Calls Try.prog 41 #[.pointer (some ⟨tb, 0, none⟩), .pointer (some ⟨rq, 0, none⟩)] W fun E w' => E = .returned (.bool true) ∧ At5 w w' tb m rq rh i := by
  have h' := h
  obtain ⟨q, n, o, S, p, h1, h2⟩ := h
  refine (same5_any p (by omega)).mono ?_
  rintro E w' ⟨rfl, k⟩
  exact ⟨rfl, h'.lies (k.below (Nat.le_refl _) (fun _ x => x.elim))⟩
theorem At5.low {w W : World} {tb : Nat} {m : Int} {rq rh i : Nat} (h : At5 w W tb m rq rh i) : Below w.heap.size w W := by
  obtain ⟨_, _, _, _, _, _, h2⟩ := h
  exact h2
theorem at5_new {w w1 w2 : World} {tb rq rh : Nat} {q : QB} {m : Int} (t : Ts w.heap.size w1 tb q m 0 0 []) (g1 : Below w.heap.size w w1) (r : Rq w.heap.size w2 rq rh m 0 0 []) (g2 : Below w1.heap.size w1 w2) : At5 w w2 tb m rq rh 0 :=
  ⟨q, 0, 0, [], ⟨t.lies g2, r, List.Pairwise.nil, Nat.le_trans g1.size g2.size⟩, Nat.le_refl _, g1.trans (g2.mono g1.size)⟩

set_option maxHeartbeats 2000000 in
set_option maxRecDepth 20000 in
theorem plays5_bad (a : Option Addr) (n cap : Nat) (m : Int) (hm : m < 1 ∨ 1024 < m) (w : World) :
    Calls Try.prog 7 #[.int .i64 m, .slice a n cap] w fun E w' => E = .returned (.bool true) ∧ Below w.heap.size w w' := by
  have CW : ∀ W, Hid (Calls Try.prog 37 #[] W fun E w' => E = .returned (.bool true) ∧ Below W.heap.size W w') := fun W => awake5 W
  have C1 := Lib.hid (tnew_bad w m hm)
  by_cases h1 : m < 1
  · have t1 : decide (m < 1) = true := decide_eq_true h1
    clear hm h1
    go_enter Try.func7, Try.ntmps7
    go_wp2_with fail
    refine C1.out.mono ?_
    rintro E w1 ⟨rfl, rfl⟩
    go_wp2_with fail
    refine (CW _).out.mono ?_
    rintro E w2 ⟨rfl, b2⟩
    go_wp2
    go_ret
    exact ⟨rfl, b2⟩
  · have t1 : decide (m < 1) = false := decide_eq_false h1
    have t2 : decide (m > 1024) = true := decide_eq_true (by omega)
    have t3 : decide (1024 < m) = true := decide_eq_true (by omega)
    clear hm h1
    go_enter Try.func7, Try.ntmps7
    go_wp2_with fail
    refine C1.out.mono ?_
    rintro E w1 ⟨rfl, rfl⟩
    go_wp2_with fail
    refine (CW _).out.mono ?_
    rintro E w2 ⟨rfl, b2⟩
    go_wp2
    go_ret
    exact ⟨rfl, b2⟩

set_option maxHeartbeats 4000000 in
set_option maxRecDepth 20000 in
theorem plays5_core (a : Option Addr) (n cap : Nat) (m : Int) (h1 : 1 ≤ m) (h2 : m ≤ 1024) (V : Nat → Int × Int × Int) (w : World) (hv : Ops5At w a n V) :
    Calls Try.prog 7 #[.int .i64 m, .slice a n cap] w fun E w' => E = .returned (.bool true) ∧ Below w.heap.size w w' := by
  have CW : ∀ W, Hid (Calls Try.prog 37 #[] W fun E w' => E = .returned (.bool true) ∧ Below W.heap.size W w') := fun W => awake5 W
  have CF : ∀ W, Hid (Calls Try.prog 38 #[.slice a n cap] W fun e w' => e = .returned (.bool (decide (n ≤ 60))) ∧ w' = W) := fun W => few5_any a n cap W
  have C1 := Lib.hid (tnew_any w.heap.size w (Nat.le_refl _) m h1 h2)
  have t1 : decide (m < 1) = false := decide_eq_false (by omega)
  have t2 : decide (m > 1024) = false := decide_eq_false (by omega)
  have t3 : decide (1024 < m) = false := decide_eq_false (by omega)
  have HV := Lib.hid hv
  clear hv h1 h2
  by_cases hn : n ≤ 60
  · have t4 : decide (n ≤ 60) = true := decide_eq_true hn
    go_enter Try.func7, Try.ntmps7
    go_wp2_with fail
    refine C1.out.mono ?_
    rintro E w1 ⟨tb, q1, rfl, t1', g1, _, _⟩
    have T1 : Hid (Ts w.heap.size w1 tb q1 m 0 0 [] ∧ Below w.heap.size w w1) := ⟨t1', g1.below⟩
    clear t1' g1 C1
    go_wp2_with fail
    refine (CF _).out.mono ?_
    rintro E w1' ⟨rfl, rfl⟩
    have C2 := Lib.hid (rnew5 w.heap.size w1' T1.out.2.size m)
    go_wp2_with fail
    refine C2.out.mono ?_
    rintro E w2 ⟨rq, rh, rfl, r2, g2, hrh⟩
    have T2 : Hid (At5 w w2 tb m rq rh 0) := at5_new T1.out.1 T1.out.2 r2 g2.below
    have HRH := Lib.hid hrh
    clear r2 g2 T1 C2 hrh
    go_wp2_with fail
    go_loopg [8] n (fun gk s8 wr => ∃ i : Nat, s8 = .int .i64 i ∧ i ≤ n ∧ n - i ≤ gk ∧ Hid (At5 w wr tb m rq rh i))
    case atStart => exact ⟨0, rfl, Nat.zero_le _, Nat.le_refl _, T2⟩
    case round =>
      rename World => W2
      obtain ⟨i, rfl, hi, hgk, HR⟩ := hrel
      clear T2
      by_cases hlt : i < n
      · have d1 : decide ((i : Int) < (n : Int)) = true := decide_eq_true (by omega)
        have d2 : decide (i < n) = true := decide_eq_true hlt
        have d3 : (i : Int) < (n : Int) := by omega
        rcases HV.out.below HR.out.low with hz | ⟨g, o, rfl, hg, hc⟩
        · omega
        obtain ⟨⟨c0, c1, c2⟩, hx⟩ := hc i hlt
        have CD := Lib.hid (HR.out.does HRH.out (by omega) (V i).1 (V i).2.1 (V i).2.2 hx.2)
        have CS : Hid (∀ W', At5 w W' tb m rq rh (i + 1) → Calls Try.prog 41 #[.pointer (some ⟨tb, 0, none⟩), .pointer (some ⟨rq, 0, none⟩)] W' fun E w' => E = .returned (.bool true) ∧ At5 w w' tb m rq rh (i + 1)) := fun W' h => h.same (by omega)
        clear hc hg hx HR
        generalize V i = v at *
        obtain ⟨v1, v2, v3⟩ := v
        simp only [] at c0 c1 c2 CD
        go_wp2_with fail
        refine CD.out.mono ?_
        rintro E w3 ⟨rfl, h3⟩
        have C3 := Lib.hid (CS.out _ h3)
        clear h3 CS CD c0 c1 c2
        go_wp2_with fail
        refine C3.out.mono ?_
        rintro E w4 ⟨rfl, h4⟩
        have H4 := Lib.hid h4
        clear h4 C3
        go_wp2
        go_roundg (n - (i + 1))
        case measure => omega
        case rel => exact ⟨i + 1, by go_num, by omega, Nat.le_refl _, H4⟩
      · obtain rfl : i = n := by omega
        have d1 : decide ((i : Int) < (i : Int)) = false := decide_eq_false (by omega)
        have d2 : decide (i < i) = false := decide_eq_false (by omega)
        have B5 := Lib.hid HR.out.low
        clear HR
        go_wp2_with fail
        refine (CW _).out.mono ?_
        rintro E w5 ⟨rfl, b5⟩
        go_wp2
        go_ret
        exact ⟨rfl, B5.out.trans (b5.mono B5.out.size)⟩
  · have t4 : decide (n ≤ 60) = false := decide_eq_false hn
    go_enter Try.func7, Try.ntmps7
    go_wp2_with fail
    refine C1.out.mono ?_
    rintro E w1 ⟨tb, q1, rfl, t1', g1, _, _⟩
    have T1 : Hid (Below w.heap.size w w1) := g1.below
    clear t1' g1 C1
    go_wp2_with fail
    refine (CF _).out.mono ?_
    rintro E w1' ⟨rfl, rfl⟩
    go_wp2_with fail
    refine (CW _).out.mono ?_
    rintro E w5 ⟨rfl, b5⟩
    go_wp2
    go_ret
    exact ⟨rfl, T1.out.trans (b5.mono T1.out.size)⟩

theorem walk_TimersPlays (m : Int) (a : Option Addr) (n cap : Nat) (w : World) (hm : Is64 m) (h : ∃ V, Ops5At w a n V) :
    Calls Try.prog 7 #[.int .i64 m, .slice a n cap] w fun E w' => E = .returned (.bool true) ∧ Below w.heap.size w w' := by
  obtain ⟨V, hv⟩ := h
  by_cases hb : m < 1 ∨ 1024 < m
  · exact plays5_bad a n cap m hb w
  · exact plays5_core a n cap m (by omega) (by omega) V w hv
end Go.Proofs.Ytpglkakbiaihdaa
