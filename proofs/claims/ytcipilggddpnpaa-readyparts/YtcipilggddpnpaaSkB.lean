/-
  slices.SortFunc's family at entries: order2, median, medianAdjacent, choosePivot.
-/
import Derived.Test.YtcipilggddpnpaaSkA
namespace Go.Proofs.Ytcipilggddpnpaa.K
open Go.RowKit Go.Sort Go.Shelf Go.Maps
set_option linter.unusedVariables false
set_option linter.unusedSimpArgs false

/-- A world of the sort's, with a counter in block c that holds s. -/
structure Cnt (w0 : World) (rb cap : Nat) (d : Array Ent) (c s : Nat) (W : World) : Prop where
  srt : Srt w0 rb cap d W
  new : w0.heap.size ≤ c
  ne : c ≠ rb
  holds : W.heap[c]? = some (.cells #[.int .i64 s] 3 (0, 0))

theorem Cnt.lt {w0 W : World} {rb cap : Nat} {d : Array Ent} {c s : Nat} (h : Cnt w0 rb cap d c s W) : c < W.heap.size := (Array.getElem?_eq_some_iff.1 h.holds).1
theorem Cnt.cell {w0 W : World} {rb cap : Nat} {d : Array Ent} {c s : Nat} (h : Cnt w0 rb cap d c s W) : W.cell? ⟨c, 0, none⟩ = some (.int .i64 s) := by simp [World.cell?, h.holds]
theorem Cnt.thaw {w0 W : World} {rb cap : Nat} {d : Array Ent} {c s : Nat} (h : Cnt w0 rb cap d c s W) : W.frozen? ⟨c, 0, none⟩ = false := by simp [World.frozen?, h.holds]
theorem Cnt.grew {w0 W W' : World} {rb cap : Nat} {d : Array Ent} {c s : Nat} (h : Cnt w0 rb cap d c s W) (g : Grew W W') : Cnt w0 rb cap d c s W' := ⟨h.srt.grew g, h.new, h.ne, (g.block h.lt).trans h.holds⟩
theorem Cnt.put {w0 W : World} {rb cap : Nat} {d : Array Ent} {c s : Nat} (h : Cnt w0 rb cap d c s W) (t : Nat) : Cnt w0 rb cap d c t (W.setCell ⟨c, 0, none⟩ (.int .i64 t)) :=
  ⟨⟨h.srt.row.kept (Below.heap_setCell _ _ _ _ (by exact fun e => h.ne e.symm)), h.srt.kept.setCell (.inr h.new) _⟩, h.new, h.ne, by simp [World.setCell, Array.getElem?_modify, h.holds]⟩

set_option maxHeartbeats 1000000 in
theorem order2_any (g : Nat) (rc : Value) (cf : Ent → Ent → Int) (rb cap : Nat) (w0 : World) (hC : CmpOk g rc cf rb w0) (d : Array Ent) (n : Nat) (hn : d.size = n) (a b c s : Nat) (ha : a < n) (hb : b < n) (hs : s ≤ 1000) (W : World) (h : Cnt w0 rb cap d c s W) :
    Calls Try.prog 120 #[.slice (some ⟨rb, 0, none⟩) n cap, .int .i64 a, .int .i64 b, .pointer (some ⟨c, 0, none⟩), .func (.func g) #[rc] #[]] W fun e w' =>
      e = .returned (.tuple #[.int .i64 (order2 (lo cf) d a b s).1, .int .i64 (order2 (lo cf) d a b s).2.1]) ∧ Cnt w0 rb cap d c (order2 (lo cf) d a b s).2.2 w' := by
  have mixed : Try.prog.follows .mixedOrders = true := by kernel_rfl
  have eg := hC.enters
  obtain ⟨c1, c2, c2b, c3, c4, c4b, c5⟩ := h.srt.ask hC (i := b) (j := a) (by omega) (by omega)
  have ha' : (a : Int) < (n : Int) := by omega
  have hb' : (b : Int) < (n : Int) := by omega
  have ws : IntKind.i64.wrap ((s : Int) + 1) = (s : Int) + 1 := by rw [IntKind.wrap_i64]; omega
  have H := Lib.hid h
  unfold order2
  generalize hz : cf d[b]! d[a]! = z at *
  have hlo : lo cf d[b]! d[a]! = decide (z < 0) := by show decide (cf d[b]! d[a]! < 0) = _; rw [hz]
  rw [hlo]
  clear hC h hz hlo
  generalize (d[b]!).1 = x1 at *
  generalize (d[b]!).2.1 = x2 at *
  generalize (d[b]!).2.2 = x2b at *
  generalize (d[a]!).1 = y1 at *
  generalize (d[a]!).2.1 = y2 at *
  generalize (d[a]!).2.2 = y2b at *
  by_cases hlt : z < 0
  · rw [if_pos (decide_eq_true hlt)]
    go_enter Try.func120, Try.ntmps120
    go_wp2_with fail
    go_quiet_grown (first | (go_at_fn g; refine Calls.grown_of (c5 _ _).out))
    obtain ⟨W3, hW3⟩ : ∃ W3, grow (W.drewN nq) osq = W3 := ⟨_, rfl⟩
    have H3 : Hid (Cnt w0 rb cap d c s W3) := by rw [← hW3]; exact H.out.grew (grewN _ _ _)
    rw [hW3]
    clear hW3 c1 c2 c2b c3 c4 c4b c5
    have e1 := H3.out.cell
    have e2 := H3.out.thaw
    go_wp2
    go_ret2
    exact ⟨rfl, H3.out.put (s + 1)⟩
  · rw [if_neg (by simpa using hlt)]
    go_enter Try.func120, Try.ntmps120
    go_wp2_with fail
    go_quiet_grown (first | (go_at_fn g; refine Calls.grown_of (c5 _ _).out))
    go_wp2
    go_ret2
    exact ⟨rfl, H.out.grew (grewN _ _ _)⟩

theorem order2_bounds {lt : Ent → Ent → Bool} {d : Array Ent} {a b s n : Nat} (ha : a < n) (hb : b < n) : (order2 lt d a b s).1 < n ∧ (order2 lt d a b s).2.1 < n ∧ (order2 lt d a b s).2.2 ≤ s + 1 := by
  unfold order2; split <;> simp_all

set_option maxHeartbeats 1000000 in
theorem median_any (g : Nat) (rc : Value) (cf : Ent → Ent → Int) (rb cap : Nat) (w0 : World) (hC : CmpOk g rc cf rb w0) (d : Array Ent) (n : Nat) (hn : d.size = n) (x y z c s : Nat) (hx : x < n) (hy : y < n) (hz : z < n) (hs : s ≤ 900) (W : World) (h : Cnt w0 rb cap d c s W) :
    Calls Try.prog 119 #[.slice (some ⟨rb, 0, none⟩) n cap, .int .i64 x, .int .i64 y, .int .i64 z, .pointer (some ⟨c, 0, none⟩), .func (.func g) #[rc] #[]] W fun e w' =>
      e = .returned (.int .i64 (median (lo cf) d x y z s).1) ∧ Cnt w0 rb cap d c (median (lo cf) d x y z s).2 w' := by
  obtain ⟨r1, hr1⟩ : ∃ r, order2 (lo cf) d x y s = r := ⟨_, rfl⟩
  obtain ⟨r2, hr2⟩ : ∃ r, order2 (lo cf) d r1.2.1 z r1.2.2 = r := ⟨_, rfl⟩
  obtain ⟨r3, hr3⟩ : ∃ r, order2 (lo cf) d r1.1 r2.1 r2.2.2 = r := ⟨_, rfl⟩
  have b1 := order2_bounds (lt := lo cf) (d := d) (s := s) hx hy
  rw [hr1] at b1
  have b2 := order2_bounds (lt := lo cf) (d := d) (s := r1.2.2) b1.2.1 hz
  rw [hr2] at b2
  have em : median (lo cf) d x y z s = (r3.2.1, r3.2.2) := by unfold median; simp only [hr1, hr2, hr3]
  rw [em]
  have C1 := Lib.hid (order2_any g rc cf rb cap w0 hC d n hn x y c s hx hy (by omega) W h)
  rw [hr1] at C1
  have C2 : ∀ W, Cnt w0 rb cap d c r1.2.2 W → Hid (Calls Try.prog 120 #[.slice (some ⟨rb, 0, none⟩) n cap, .int .i64 r1.2.1, .int .i64 z, .pointer (some ⟨c, 0, none⟩), .func (.func g) #[rc] #[]] W fun e w' => e = .returned (.tuple #[.int .i64 r2.1, .int .i64 r2.2.1]) ∧ Cnt w0 rb cap d c r2.2.2 w') := fun W h => by
    have := order2_any g rc cf rb cap w0 hC d n hn r1.2.1 z c r1.2.2 b1.2.1 hz (by omega) W h
    rw [hr2] at this
    exact this
  have C3 : ∀ W, Cnt w0 rb cap d c r2.2.2 W → Hid (Calls Try.prog 120 #[.slice (some ⟨rb, 0, none⟩) n cap, .int .i64 r1.1, .int .i64 r2.1, .pointer (some ⟨c, 0, none⟩), .func (.func g) #[rc] #[]] W fun e w' => e = .returned (.tuple #[.int .i64 r3.1, .int .i64 r3.2.1]) ∧ Cnt w0 rb cap d c r3.2.2 w') := fun W h => by
    have := order2_any g rc cf rb cap w0 hC d n hn r1.1 r2.1 c r2.2.2 b1.1 b2.1 (by omega) W h
    rw [hr3] at this
    exact this
  clear hr1 hr2 hr3 em b1 b2 hC h
  obtain ⟨p1, p2, p3⟩ := r1
  obtain ⟨q1, q2, q3⟩ := r2
  obtain ⟨o1, o2, o3⟩ := r3
  simp only at C1 C2 C3 ⊢
  go_enter Try.func119, Try.ntmps119
  go_wp2_with (first | (go_at_call 120; (with_reducible refine C1.out.mono ?_); rintro e W1 ⟨rfl, h1⟩; have H1 := Lib.hid h1; clear h1) | (go_at_call 120; (with_reducible refine (C2 _ H1.out).out.mono ?_); rintro e W2 ⟨rfl, h2⟩; have H2 := Lib.hid h2; clear h2) | (go_at_call 120; (with_reducible refine (C3 _ H2.out).out.mono ?_); rintro e W3 ⟨rfl, h3⟩; have H3 := Lib.hid h3; clear h3))
  go_ret
  exact ⟨rfl, H3.out⟩

theorem median_bounds {lt : Ent → Ent → Bool} {d : Array Ent} {x y z s n : Nat} (hx : x < n) (hy : y < n) (hz : z < n) : (median lt d x y z s).1 < n ∧ (median lt d x y z s).2 ≤ s + 3 := by
  unfold median
  have b1 := order2_bounds (lt := lt) (d := d) (s := s) hx hy
  have b2 := order2_bounds (lt := lt) (d := d) (s := (order2 lt d x y s).2.2) b1.2.1 hz
  have b3 := order2_bounds (lt := lt) (d := d) (s := (order2 lt d (order2 lt d x y s).2.1 z (order2 lt d x y s).2.2).2.2) b1.1 b2.1
  exact ⟨b3.2.1, by simp only; omega⟩

set_option maxHeartbeats 1000000 in
theorem adjacent_any (g : Nat) (rc : Value) (cf : Ent → Ent → Int) (rb cap : Nat) (w0 : World) (hC : CmpOk g rc cf rb w0) (d : Array Ent) (n : Nat) (hn : d.size = n) (hsm : n ≤ 1099511627776) (x c s : Nat) (h0 : 0 < x) (hx : x + 1 < n) (hs : s ≤ 900) (W : World) (h : Cnt w0 rb cap d c s W) :
    Calls Try.prog 118 #[.slice (some ⟨rb, 0, none⟩) n cap, .int .i64 x, .pointer (some ⟨c, 0, none⟩), .func (.func g) #[rc] #[]] W fun e w' =>
      e = .returned (.int .i64 (medianAdjacent (lo cf) d x s).1) ∧ Cnt w0 rb cap d c (medianAdjacent (lo cf) d x s).2 w' := by
  obtain ⟨k, rfl⟩ : ∃ k, x = k + 1 := ⟨x - 1, by omega⟩
  unfold medianAdjacent
  rw [Nat.add_sub_cancel]
  have C := median_any g rc cf rb cap w0 hC d n hn k (k + 1) (k + 1 + 1) c s (by omega) (by omega) hx hs W h
  have q1 : IntKind.i64.wrap ((k : Int) + 1 - 1) = (k : Int) := by rw [IntKind.wrap_i64]; omega
  have q1' : IntKind.i64.wrap (k : Int) = (k : Int) := by rw [IntKind.wrap_i64]; omega
  have q2 : IntKind.i64.wrap ((k : Int) + 1 + 1) = (k : Int) + 1 + 1 := by rw [IntKind.wrap_i64]; omega
  have q2' : IntKind.i64.wrap ((k : Int) + 2) = (k : Int) + 2 := by rw [IntKind.wrap_i64]; omega
  have C : Hid (Calls Try.prog 119 #[.slice (some ⟨rb, 0, none⟩) n cap, .int .i64 k, .int .i64 ((k : Int) + 1), .int .i64 ((k : Int) + 2), .pointer (some ⟨c, 0, none⟩), .func (.func g) #[rc] #[]] W fun e w' =>
      e = .returned (.int .i64 (median (lo cf) d k (k + 1) (k + 1 + 1) s).1) ∧ Cnt w0 rb cap d c (median (lo cf) d k (k + 1) (k + 1 + 1) s).2 w') := by
    have e1 : (((k + 1 : Nat) : Int)) = (k : Int) + 1 := by omega
    have e2 : (((k + 1 + 1 : Nat) : Int)) = (k : Int) + 2 := by omega
    rw [e1, e2] at C
    exact C
  clear hC h
  generalize median (lo cf) d k (k + 1) (k + 1 + 1) s = r at *
  go_enter Try.func118, Try.ntmps118
  go_wp2_with (go_at_call 119; (refine C.out.mono ?_); rintro e W1 ⟨rfl, h1⟩)
  go_ret
  exact ⟨rfl, h1⟩

/-- The hint as a number. -/
def hintZ : Hint → Int
  | .unknown => 0
  | .increasing => 1
  | .decreasing => 2
def hintOf (s : Nat) : Hint := if s = 0 then .increasing else if s = 12 then .decreasing else .unknown

set_option maxHeartbeats 4000000 in
set_option maxRecDepth 20000 in
theorem choose_any (g : Nat) (rc : Value) (cf : Ent → Ent → Int) (rb cap : Nat) (w0 : World) (hC : CmpOk g rc cf rb w0) (d : Array Ent) (n : Nat) (hn : d.size = n) (hsm : n ≤ 1099511627776) (a b : Nat) (hab : a + 12 < b) (hb : b ≤ n) (W : World) (h : Srt w0 rb cap d W) :
    Calls Try.prog 109 #[.slice (some ⟨rb, 0, none⟩) n cap, .int .i64 a, .int .i64 b, .func (.func g) #[rc] #[]] W fun e w' =>
      e = .returned (.tuple #[.int .i64 (choosePivot (lo cf) d a b).1, .int .i64 (hintZ (choosePivot (lo cf) d a b).2)]) ∧ Srt w0 rb cap d w' := by
  obtain ⟨l, hl⟩ : ∃ l, b - a = l := ⟨_, rfl⟩
  obtain ⟨q, hq⟩ : ∃ q, l / 4 = q := ⟨_, rfl⟩
  have hrw := h.row.lt
  have hk := h.kept.size
  have h0 : Cnt w0 rb cap d W.heap.size 0 (W.alloc (.cells #[.int .i64 0] 3)) := ⟨h.grew ((Grew.refl W).alloc _), hk, by omega, heap_alloc_new _ _⟩
  have hle : (b : Int) - (a : Int) = (l : Int) := by omega
  have wl : IntKind.i64.wrap (l : Int) = (l : Int) := by rw [IntKind.wrap_i64]; omega
  have hqe : (l : Int).tdiv 4 = (q : Int) := by rw [Int.tdiv_eq_ediv_of_nonneg (by omega)]; omega
  have w1 : IntKind.i64.wrap (q : Int) = (q : Int) := by rw [IntKind.wrap_i64]; omega
  have w2 : IntKind.i64.wrap ((q : Int) * 2) = (q : Int) * 2 := by rw [IntKind.wrap_i64]; omega
  have w3 : IntKind.i64.wrap ((q : Int) * 3) = (q : Int) * 3 := by rw [IntKind.wrap_i64]; omega
  have w4 : IntKind.i64.wrap ((a : Int) + (q : Int)) = (a : Int) + (q : Int) := by rw [IntKind.wrap_i64]; omega
  have w5 : IntKind.i64.wrap ((a : Int) + (q : Int) * 2) = (a : Int) + (q : Int) * 2 := by rw [IntKind.wrap_i64]; omega
  have w6 : IntKind.i64.wrap ((a : Int) + (q : Int) * 3) = (a : Int) + (q : Int) * 3 := by rw [IntKind.wrap_i64]; omega
  have c1 : ((a + q : Nat) : Int) = (a : Int) + (q : Int) := by omega
  have c2 : ((a + q * 2 : Nat) : Int) = (a : Int) + (q : Int) * 2 := by omega
  have c3 : ((a + q * 3 : Nat) : Int) = (a : Int) + (q : Int) * 3 := by omega
  have hl8 : decide ((l : Int) ≥ 8) = true := decide_eq_true (by omega)
  have H0 := Lib.hid h0
  clear h0
  have hcel : ∀ s W1, Cnt w0 rb cap d W.heap.size s W1 → W1.cell? ⟨W.heap.size, 0, none⟩ = some (.int .i64 s) := fun s W1 h => h.cell
  by_cases h50 : 50 ≤ l
  · obtain ⟨ri, hri⟩ : ∃ r, medianAdjacent (lo cf) d (a + q) 0 = r := ⟨_, rfl⟩
    obtain ⟨rj, hrj⟩ : ∃ r, medianAdjacent (lo cf) d (a + q * 2) ri.2 = r := ⟨_, rfl⟩
    obtain ⟨rk, hrk⟩ : ∃ r, medianAdjacent (lo cf) d (a + q * 3) rj.2 = r := ⟨_, rfl⟩
    obtain ⟨r, hr⟩ : ∃ r, median (lo cf) d ri.1 rj.1 rk.1 rk.2 = r := ⟨_, rfl⟩
    have b1 : ri.1 < n ∧ ri.2 ≤ 0 + 3 := by rw [← hri]; exact median_bounds (by omega) (by omega) (by omega)
    have b2 : rj.1 < n ∧ rj.2 ≤ ri.2 + 3 := by rw [← hrj]; exact median_bounds (by omega) (by omega) (by omega)
    have b3 : rk.1 < n ∧ rk.2 ≤ rj.2 + 3 := by rw [← hrk]; exact median_bounds (by omega) (by omega) (by omega)
    have em : choosePivot (lo cf) d a b = (r.1, hintOf r.2) := by
      unfold choosePivot hintOf
      simp only [hl, hq, Nat.mul_one]
      rw [if_pos (by omega), if_pos h50, hri, hrj, hrk, hr]
    rw [em]
    have hl50 : decide ((l : Int) ≥ 50) = true := decide_eq_true (by omega)
    have C1 := adjacent_any g rc cf rb cap w0 hC d n hn hsm (a + q) W.heap.size 0 (by omega) (by omega) (by omega) _ H0.out
    rw [hri, c1] at C1
    have C1 := Lib.hid C1
    have C2 : ∀ W1, Cnt w0 rb cap d W.heap.size ri.2 W1 → Hid (Calls Try.prog 118 #[.slice (some ⟨rb, 0, none⟩) n cap, .int .i64 ((a : Int) + (q : Int) * 2), .pointer (some ⟨W.heap.size, 0, none⟩), .func (.func g) #[rc] #[]] W1 fun e w' => e = .returned (.int .i64 rj.1) ∧ Cnt w0 rb cap d W.heap.size rj.2 w') := fun W1 h1 => by
      have := adjacent_any g rc cf rb cap w0 hC d n hn hsm (a + q * 2) W.heap.size ri.2 (by omega) (by omega) (by omega) W1 h1
      rw [hrj, c2] at this
      exact this
    have C3 : ∀ W1, Cnt w0 rb cap d W.heap.size rj.2 W1 → Hid (Calls Try.prog 118 #[.slice (some ⟨rb, 0, none⟩) n cap, .int .i64 ((a : Int) + (q : Int) * 3), .pointer (some ⟨W.heap.size, 0, none⟩), .func (.func g) #[rc] #[]] W1 fun e w' => e = .returned (.int .i64 rk.1) ∧ Cnt w0 rb cap d W.heap.size rk.2 w') := fun W1 h1 => by
      have := adjacent_any g rc cf rb cap w0 hC d n hn hsm (a + q * 3) W.heap.size rj.2 (by omega) (by omega) (by omega) W1 h1
      rw [hrk, c3] at this
      exact this
    have C4 : ∀ W1, Cnt w0 rb cap d W.heap.size rk.2 W1 → Hid (Calls Try.prog 119 #[.slice (some ⟨rb, 0, none⟩) n cap, .int .i64 ri.1, .int .i64 rj.1, .int .i64 rk.1, .pointer (some ⟨W.heap.size, 0, none⟩), .func (.func g) #[rc] #[]] W1 fun e w' => e = .returned (.int .i64 r.1) ∧ Cnt w0 rb cap d W.heap.size r.2 w') := fun W1 h1 => by
      have := median_any g rc cf rb cap w0 hC d n hn ri.1 rj.1 rk.1 W.heap.size rk.2 b1.1 b2.1 b3.1 (by omega) W1 h1
      rw [hr] at this
      exact this
    clear hri hrj hrk hr em hC h c1 c2 c3 b1 b2 b3
    by_cases s0 : r.2 = 0
    · have eh : hintZ (hintOf r.2) = 1 := by unfold hintOf; rw [if_pos s0]; rfl
      simp only [eh]
      rw [s0] at C4
      clear eh s0
      go_enter Try.func109, Try.ntmps109
      go_wp2_with (first | (go_at_call 118; (with_reducible refine C1.out.mono ?_); rintro e W1 ⟨rfl, h1⟩; have H1 := Lib.hid h1; clear h1) | (go_at_call 118; (with_reducible refine (C2 _ H1.out).out.mono ?_); rintro e W2 ⟨rfl, h2⟩; have H2 := Lib.hid h2; clear h2) | (go_at_call 118; (with_reducible refine (C3 _ H2.out).out.mono ?_); rintro e W3 ⟨rfl, h3⟩; have H3 := Lib.hid h3; clear h3) | (go_at_call 119; (with_reducible refine (C4 _ H3.out).out.mono ?_); rintro e W4 ⟨rfl, h4⟩; have H4 := Lib.hid h4; have x4 := h4.cell; clear h4))
      go_ret2
      exact ⟨rfl, H4.out.srt⟩
    · by_cases s1 : r.2 = 12
      · have eh : hintZ (hintOf r.2) = 2 := by unfold hintOf; rw [if_neg s0, if_pos s1]; rfl
        simp only [eh]
        rw [s1] at C4
        clear eh s0 s1
        go_enter Try.func109, Try.ntmps109
        go_wp2_with (first | (go_at_call 118; (with_reducible refine C1.out.mono ?_); rintro e W1 ⟨rfl, h1⟩; have H1 := Lib.hid h1; clear h1) | (go_at_call 118; (with_reducible refine (C2 _ H1.out).out.mono ?_); rintro e W2 ⟨rfl, h2⟩; have H2 := Lib.hid h2; clear h2) | (go_at_call 118; (with_reducible refine (C3 _ H2.out).out.mono ?_); rintro e W3 ⟨rfl, h3⟩; have H3 := Lib.hid h3; clear h3) | (go_at_call 119; (with_reducible refine (C4 _ H3.out).out.mono ?_); rintro e W4 ⟨rfl, h4⟩; have H4 := Lib.hid h4; have x4 := h4.cell; clear h4))
        go_ret2
        exact ⟨rfl, H4.out.srt⟩
      · have eh : hintZ (hintOf r.2) = 0 := by unfold hintOf; rw [if_neg s0, if_neg s1]; rfl
        simp only [eh]
        have e0 : ((r.2 : Int) == 0) = false := beq_eq_false_iff_ne.2 (by omega)
        have e1 : ((r.2 : Int) == 12) = false := beq_eq_false_iff_ne.2 (by omega)
        clear eh s0 s1
        generalize r.2 = s at *
        go_enter Try.func109, Try.ntmps109
        go_wp2_with (first | (go_at_call 118; (with_reducible refine C1.out.mono ?_); rintro e W1 ⟨rfl, h1⟩; have H1 := Lib.hid h1; clear h1) | (go_at_call 118; (with_reducible refine (C2 _ H1.out).out.mono ?_); rintro e W2 ⟨rfl, h2⟩; have H2 := Lib.hid h2; clear h2) | (go_at_call 118; (with_reducible refine (C3 _ H2.out).out.mono ?_); rintro e W3 ⟨rfl, h3⟩; have H3 := Lib.hid h3; clear h3) | (go_at_call 119; (with_reducible refine (C4 _ H3.out).out.mono ?_); rintro e W4 ⟨rfl, h4⟩; have H4 := Lib.hid h4; have x4 := h4.cell; clear h4))
        go_ret2
        exact ⟨rfl, H4.out.srt⟩
  · obtain ⟨r, hr⟩ : ∃ r, median (lo cf) d (a + q) (a + q * 2) (a + q * 3) 0 = r := ⟨_, rfl⟩
    have em : choosePivot (lo cf) d a b = (r.1, hintOf r.2) := by
      unfold choosePivot hintOf
      simp only [hl, hq, Nat.mul_one]
      rw [if_pos (by omega), if_neg h50, hr]
    rw [em]
    have hl50 : decide ((l : Int) ≥ 50) = false := decide_eq_false (by omega)
    have C4 := median_any g rc cf rb cap w0 hC d n hn (a + q) (a + q * 2) (a + q * 3) W.heap.size 0 (by omega) (by omega) (by omega) (by omega) _ H0.out
    rw [hr, c1, c2, c3] at C4
    have C4 := Lib.hid C4
    clear hr em hC h c1 c2 c3
    by_cases s0 : r.2 = 0
    · have eh : hintZ (hintOf r.2) = 1 := by unfold hintOf; rw [if_pos s0]; rfl
      simp only [eh]
      rw [s0] at C4
      clear eh s0
      go_enter Try.func109, Try.ntmps109
      go_wp2_with (first | (go_at_call 119; (with_reducible refine C4.out.mono ?_); rintro e W4 ⟨rfl, h4⟩; have H4 := Lib.hid h4; have x4 := h4.cell; clear h4))
      go_ret2
      exact ⟨rfl, H4.out.srt⟩
    · by_cases s1 : r.2 = 12
      · have eh : hintZ (hintOf r.2) = 2 := by unfold hintOf; rw [if_neg s0, if_pos s1]; rfl
        simp only [eh]
        rw [s1] at C4
        clear eh s0 s1
        go_enter Try.func109, Try.ntmps109
        go_wp2_with (first | (go_at_call 119; (with_reducible refine C4.out.mono ?_); rintro e W4 ⟨rfl, h4⟩; have H4 := Lib.hid h4; have x4 := h4.cell; clear h4))
        go_ret2
        exact ⟨rfl, H4.out.srt⟩
      · have eh : hintZ (hintOf r.2) = 0 := by unfold hintOf; rw [if_neg s0, if_neg s1]; rfl
        simp only [eh]
        have e0 : ((r.2 : Int) == 0) = false := beq_eq_false_iff_ne.2 (by omega)
        have e1 : ((r.2 : Int) == 12) = false := beq_eq_false_iff_ne.2 (by omega)
        clear eh s0 s1
        generalize r.2 = s at *
        go_enter Try.func109, Try.ntmps109
        go_wp2_with (first | (go_at_call 119; (with_reducible refine C4.out.mono ?_); rintro e W4 ⟨rfl, h4⟩; have H4 := Lib.hid h4; have x4 := h4.cell; clear h4))
        go_ret2
        exact ⟨rfl, H4.out.srt⟩
end Go.Proofs.Ytcipilggddpnpaa.K
