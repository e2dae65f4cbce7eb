/-
  TimersAnew: its walk.
-/
import Derived.Test.YtpglkakbiaihdaaTq
import Derived.Test.YtpglkakbiaihdaaQx1
import Derived.Test.YtpglkakbiaihdaaOpN
import Derived.Deep.LoopGhost
import Derived.Deep.Cut
namespace Go.Proofs.Ytpglkakbiaihdaa
open Go.RowKit Go.Shelf Go.Maps
set_option linter.unusedVariables false
set_option linter.unusedSimpArgs false

theorem flatF_one (now : Int) : ∀ (R : List Ent), ∀ u ∈ flatF now R, u.oneCell' = true
  | [] => fun u h => by cases h
  | x :: r => fun u h => by
    simp only [flatF, List.mem_cons] at h
    rcases h with rfl | rfl | rfl | h
    · rfl
    · rfl
    · rfl
    · exact flatF_one now r u h
/-- A row of timers behind another one. -/
theorem fired_append {W : World} {B1 B2 : Nat} {v1 v2 : Value} {n1 n2 : Nat} {x1 x2 : List Value} (h1 : W.ownsRow B1 86 3 v1 n1 x1) (h2 : W.ownsRow B2 86 3 v2 n2 x2) (hx : ∀ u ∈ x2, u.oneCell' = true) (hB : B1 ≤ W.heap.size) (hn : n1 + n2 ≤ 1099511627776) :
    ∃ v w', (Builtin.append_ #[82, 82] 82 #[v1, v2]).run Try.prog W = .ok v w' ∧ w'.ownsRow B1 86 3 v (n1 + n2) (x1 ++ x2) ∧ W.grownBy w' v1.ownBlock := by
  obtain ⟨i0, hi0, hz0, hz1, hz2⟩ := info_parts (P := Try.prog) (e := 86) (z := .agg #[.int .i64 0, .int .i64 0, .int .i64 0]) (size := 3) (bytes := 24) (by kernel_rfl)
  have h2' := h2
  rcases h2.2 with ⟨rfl, rfl⟩ | ⟨g, c, cur, rfl, _, h3, h4, h5, h6, h7⟩
  · have hl := h2.1
    have hx2 : x2 = [] := List.eq_nil_of_length_eq_zero (by omega)
    subst hx2
    rw [List.append_nil, Nat.add_zero]
    exact ⟨v1, W, run_append_owned_none (P := Try.prog) (w := W) B1 82 82 86 i0 3 Try.underlying82 hi0 _ n1 x1 h1, h1, ⟨rfl, rfl, rfl, Nat.le_refl _, fun _ _ _ => rfl⟩⟩
  · obtain ⟨v, w', r1, r2, r3, _, _⟩ := run_append_own_at (P := Try.prog) (w := W) B1 82 82 86 i0 (.agg #[.int .i64 0, .int .i64 0, .int .i64 0]) 3 24 Try.underlying82 hi0 hz0 hz1 hz2 rfl (by decide) v1 n1 x1 h1 ⟨g, 0, none⟩ n2 c x2 h2.1 (fun j u hj => by
      rw [Addr.add_lit]
      have hlt : j < n2 * 3 := by have := (List.getElem?_eq_some_iff.1 hj).1; have := h2'.1; omega
      have := h2'.cellAt j (by omega)
      simpa [hj] using this) hx (by unfold maxLen; omega) (by omega) hB
    exact ⟨v, w', r1, r2, r3⟩

theorem wpList_append_run {P : Program} {w : World} {ops : Array Oper} {rest : List Oper} {o : Oper} {a : Act} {Q : Exit → Act → World → Prop} (hgd : o.guard = none) (s x : Operand) (t ty : TypeId)
    (ho : o.op = .call { callee := .builtin .append, args := #[s, x], argTypes := #[t, t] }) (hty : o.type = ty) (vs vx v' : Value) (w' : World) (hs : a.eval s = vs) (hx : a.eval x = vx) (hr : (Builtin.append_ #[t, t] ty #[vs, vx]).run P w = .ok v' w')
    (h : wpList P ops Q rest (a.put o.dst v') w') : wpList P ops Q (o :: rest) a w := by
  refine wpList_plain hgd fun K hK => ?_
  subst hty
  unfold Oper.wp execOp
  simp only [ho, resolve, invoke, builtin, Sem.run_bind, Sem.run_pure, Result.andThen_ok, List.map_toArray, List.map_cons, List.map_nil, hs, hx, hr]
  exact hK _ _ h

set_option maxHeartbeats 1000000 in
set_option maxRecDepth 20000 in
theorem anew_long (a : Option Addr) (len cap : Nat) (id t0 t1 : Int) (h : 40 < len) (w : World) :
    Calls Try.prog 9 #[.slice a len cap, .int .i64 id, .agg #[.int .i64 t0, .int .i64 t1]] w fun E w' => E = .returned (.bool true) ∧ Below w.heap.size w w' := by
  have CW : ∀ W, Hid (Calls Try.prog 37 #[] W fun E w' => E = .returned (.bool true) ∧ Below W.heap.size W w') := fun W => awake5 W
  obtain ⟨W0, hW0⟩ : ∃ W0, w.alloc (.cells #[.int .i64 t0, .int .i64 t1] 41) = W0 := ⟨_, rfl⟩
  have G0 : Hid (Grew w W0) := by rw [← hW0]; exact (Grew.refl w).alloc _
  have HW := Lib.hid hW0
  clear hW0
  have C1 := fun W => Lib.hid (tnew_any 0 W (Nat.zero_le _) 1024 (by decide) (by decide))
  have h1 : decide ((len : Int) > 40) = true := decide_eq_true (by omega)
  have h2 : decide (40 < len) = true := decide_eq_true h
  have h3 : decide (40 < (len : Int)) = true := decide_eq_true (by omega)
  go_enter Try.func9, Try.ntmps9
  go_wp2_with fail
  rw [HW.out]
  refine (C1 _).out.mono ?_
  rintro E w1 ⟨ta, q1, rfl, t1, g1, _, _⟩
  have G1 := Lib.hid (G0.out.trans g1)
  clear t1 g1
  go_wp2_with fail
  refine (C1 _).out.mono ?_
  rintro E w2 ⟨tb, q2, rfl, t2, g2, _, _⟩
  have G2 := Lib.hid (G1.out.trans g2)
  clear t2 g2
  go_wp2_with fail
  refine (CW _).out.mono ?_
  rintro E w3 ⟨rfl, b3⟩
  have B3 : Hid (Below w.heap.size w w3) := G2.out.below.trans (b3.mono G2.out.size)
  clear b3
  go_wp2
  go_ret
  exact ⟨rfl, B3.out⟩

/-- What there is behind the three steps of the clocks. -/
structure AnewF (w W : World) (ta tb : Nat) (a : Option Addr) (ks D : List Ent) (t1 : Int) (vx vz : Value) : Prop where
  ta : ∃ B q m o L, Ts B W ta q m t1 o L
  tb : ∃ B q m o L, Ts B W tb q m t1 o L
  rx : ∃ B D1 D2 t0, t0 ≤ t1 ∧ D1 ++ D2 = D ∧ W.ownsRow B 86 3 vx D.length (flatF t0 D1 ++ flatF t1 D2)
  rz : ∃ B, W.ownsRow B 86 3 vz D.length (flatF t1 D)
  keys : KeysAt W a ks
  low : Below w.heap.size w W
theorem KeysAt.lies {W W' : World} {a : Option Addr} {l : List Ent} (h : KeysAt W a l) (b : Below W.heap.size W W') : KeysAt W' a l := h.kept (kept_lies (S := fun _ => False) b) (fun _ _ x => x)
theorem own_lies {w w' : World} {B : Nat} {e : TypeId} {size : Nat} {v : Value} {n : Nat} {xs : List Value} (h : w.ownsRow B e size v n xs) (b : Below w.heap.size w w') : w'.ownsRow B e size v n xs := own_kept h (fun g e => b.block g (own_lt h g e))
theorem AnewF.lies {w W W' : World} {ta tb : Nat} {a : Option Addr} {ks D : List Ent} {t1 : Int} {vx vz : Value} (h : AnewF w W ta tb a ks D t1 vx vz) (b : Below W.heap.size W W') : AnewF w W' ta tb a ks D t1 vx vz := by
  obtain ⟨B1, q1, m1, o1, L1, h1⟩ := h.ta
  obtain ⟨B2, q2, m2, o2, L2, h2⟩ := h.tb
  obtain ⟨B3, D1, D2, t0, e0, e1, h3⟩ := h.rx
  obtain ⟨B4, h4⟩ := h.rz
  exact ⟨⟨B1, q1, m1, o1, L1, h1.lies b⟩, ⟨B2, q2, m2, o2, L2, h2.lies b⟩, ⟨B3, D1, D2, t0, e0, e1, own_lies h3 b⟩, ⟨B4, own_lies h4 b⟩, h.keys.lies b, h.low.trans (b.mono h.low.size)⟩
/-- Which blocks a Due turns. -/
theorem row_off {w w' : World} {B : Nat} {v : Value} {n : Nat} {xs : List Value} {S : Nat → Prop} (h : w.ownsRow B 86 3 v n xs) (k : Kept S w w') (hs : ∀ b, S b → b < B) : w'.ownsRow B 86 3 v n xs :=
  own_kept h (fun g e => k.block g (own_lt h g e) (fun x => by have := hs g x; have := own_block h g e; omega))

/-- Two queues with the same timers. -/
def Both (w W : World) (ta tb : Nat) (L : List Ent) : Prop := ∃ qa qb, Duo w W ta qa 1024 0 0 L tb qb 1024 0 0 L

set_option maxHeartbeats 8000000 in
set_option maxRecDepth 100000 in
theorem anew_core (a : Option Addr) (cap : Nat) (ks : List Ent) (id t0 t1 : Int) (hl : ks.length ≤ 40) (hid : Is64 id) (w : World) (hk : KeysAt w a ks) :
    Calls Try.prog 9 #[.slice a ks.length cap, .int .i64 id, .agg #[.int .i64 t0, .int .i64 t1]] w fun E w' => E = .returned (.bool true) ∧ Below w.heap.size w w' := by
  have CW : ∀ W, Hid (Calls Try.prog 37 #[] W fun E w' => E = .returned (.bool true) ∧ Below W.heap.size W w') := fun W => awake5 W
  obtain ⟨W0, hW0⟩ : ∃ W0, w.alloc (.cells #[.int .i64 t0, .int .i64 t1] 41) = W0 := ⟨_, rfl⟩
  have F0 : Hid (Below w.heap.size w W0 ∧ KeysAt W0 a ks ∧ w.heap.size < W0.heap.size ∧ W0.cell? ⟨w.heap.size, 0, none⟩ = some (.int .i64 t0) ∧ W0.cell? ⟨w.heap.size, 1, none⟩ = some (.int .i64 t1)) := by
    have g : Grew w W0 := by rw [← hW0]; exact (Grew.refl w).alloc _
    have e : W0.heap[w.heap.size]? = some (.cells #[.int .i64 t0, .int .i64 t1] 41 (0, 0)) := by rw [← hW0]; exact heap_alloc_new _ _
    exact ⟨g.below, hk.kept (g.kept (fun _ => False)) (fun _ _ x => x), (Array.getElem?_eq_some_iff.1 e).1, by simp [World.cell?, e], by simp [World.cell?, e]⟩
  have HW := Lib.hid hW0
  clear hW0 hk
  have C1 := Lib.hid (tnew_any W0.heap.size W0 (Nat.le_refl _) 1024 (by decide) (by decide))
  have C2 := Lib.hid (fun (W : World) (h : W0.heap.size ≤ W.heap.size) => tnew_any W0.heap.size W h 1024 (by decide) (by decide))
  obtain ⟨len, hlen⟩ : ∃ len, ks.length = len := ⟨_, rfl⟩
  have HN := Lib.hid hlen
  rw [hlen] at hl ⊢
  clear hlen
  have h1 : decide ((len : Int) > 40) = false := decide_eq_false (by omega)
  have h2 : decide (40 < len) = false := decide_eq_false (by omega)
  go_enter Try.func9, Try.ntmps9
  go_wp2_with fail
  rw [HW.out]
  refine C1.out.mono ?_
  rintro E w1 ⟨ta, q1, rfl, t1', g1, _, _⟩
  have T1 : Hid (Ts W0.heap.size w1 ta q1 1024 0 0 [] ∧ Below W0.heap.size W0 w1) := ⟨t1', g1.below⟩
  clear t1' g1 C1
  go_wp2_with fail
  refine (C2.out _ T1.out.2.size).mono ?_
  rintro E w2 ⟨tb, q2, rfl, t2, g2, o2, o3⟩
  have T2 : Hid (∃ L, Both W0 w2 ta tb L ∧ L.length ≤ 0 ∧ LastK (ks.take 0) L) := ⟨[], ⟨q1, q2, duo_new T1.out.1 T1.out.2 t2 g2 o2 o3⟩, Nat.le_refl _, fun x hx => by cases hx⟩
  clear t2 g2 o2 o3 T1 C2
  go_wp2_with fail
  go_loopg [11] len (fun gk s11 wr => ∃ i : Nat, s11 = .int .i64 i ∧ i ≤ len ∧ len - i ≤ gk ∧ Hid (∃ L, Both W0 wr ta tb L ∧ L.length ≤ i ∧ LastK (ks.take i) L))
  case atStart => exact ⟨0, rfl, Nat.zero_le _, Nat.le_refl _, T2⟩
  case round =>
    rename World => W2
    obtain ⟨i, rfl, hin, hgk, HR⟩ := hrel
    clear T2
    by_cases hi : i < len
    · have hi' : decide ((i : Int) < (len : Int)) = true := decide_eq_true (by omega)
      have hi2 : decide (i < len) = true := decide_eq_true hi
      have hiz : (i : Int) < (len : Int) := by omega
      have hil : i < ks.length := by rw [HN.out]; exact hi
      obtain ⟨L, ⟨qa, qb, hD⟩, hL, hK⟩ := HR.out
      rcases F0.out.2.1 with hz | ⟨g, of, rfl, hg, hc⟩
      · omega
      obtain ⟨⟨c0, c1⟩, hx⟩ := hc i hil
      have STEP : Hid (LastK (ks.take (i + 1)) (armS L (ks.getD i (0, 0))) ∧ (armS L (ks.getD i (0, 0))).length ≤ i + 1) := by
        refine ⟨?_, by have := armS_length L (ks.getD i (0, 0)); omega⟩
        rw [take_snoc hil]
        exact hK.arm (fun x hx => (hD.a.good x hx).1.1) _
      generalize ks.getD i (0, 0) = x at *
      have CC : Hid (∀ W', Below W0.heap.size W0 W' → W'.cell? ⟨g, of + i * 2, none⟩ = some (.int .i64 x.2) ∧ W'.cell? ⟨g, of + i * 2 + 1, none⟩ = some (.int .i64 x.1)) := fun W' b => ⟨(b.cell (p := ⟨g, of + i * 2, none⟩) hg).trans c0, (b.cell (p := ⟨g, of + i * 2 + 1, none⟩) hg).trans c1⟩
      have D2 := Lib.hid hD
      have CA : Hid (∀ W', Below W2.heap.size W2 W' → Calls Try.prog 44 #[.pointer (some ⟨ta, 0, none⟩), .int .i64 x.1, .int .i64 x.2] W' fun E w' => E = .returned (.int .i64 (armE x)) ∧ Hid (∃ qa qb, Duo W0 w' ta qa 1024 0 0 (armS L x) tb qb 1024 0 0 L) ∧ w'.cell? ⟨g, of + i * 2, none⟩ = some (.int .i64 x.2) ∧ w'.cell? ⟨g, of + i * 2 + 1, none⟩ = some (.int .i64 x.1)) := fun W' b => by
        have d := D2.out.lies b
        refine (tarm_gen d.a d.low.size x hx (by omega) (by omega)).mono ?_
        rintro E w' ⟨rfl, q', l⟩
        have d' := d.armed l hx
        exact ⟨rfl, ⟨q', qb, d'⟩, CC.out _ d'.low⟩
      have CB : Hid (∀ W', Hid (∃ qa qb, Duo W0 W' ta qa 1024 0 0 (armS L x) tb qb 1024 0 0 L) → Calls Try.prog 44 #[.pointer (some ⟨tb, 0, none⟩), .int .i64 x.1, .int .i64 x.2] W' fun E w' => E = .returned (.int .i64 (armE x)) ∧ Hid (Both W0 w' ta tb (armS L x)) ∧ w'.cell? ⟨g, of + i * 2, none⟩ = some (.int .i64 x.2) ∧ w'.cell? ⟨g, of + i * 2 + 1, none⟩ = some (.int .i64 x.1)) := fun W' hW' => by
        obtain ⟨qa, qb, d⟩ := hW'.out
        refine (tarm_gen d.b d.low.size x hx (by omega) (by omega)).mono ?_
        rintro E w' ⟨rfl, q', l⟩
        have d' := (d.symm.armed l hx).symm
        exact ⟨rfl, ⟨qa, q', d'⟩, CC.out _ d'.low⟩
      obtain ⟨k0, k1⟩ := CC.out _ hD.low
      have STEP2 : Hid (∀ W', Hid (Both W0 W' ta tb (armS L x)) → ∃ L, Both W0 W' ta tb L ∧ L.length ≤ i + 1 ∧ LastK (ks.take (i + 1)) L) := fun W' h => ⟨_, h.out, STEP.out.2, STEP.out.1⟩
      clear hD hc c0 c1 hx hK hL HR STEP D2
      obtain ⟨x1, x2⟩ := x
      generalize armE (x1, x2) = r at *
      generalize armS L (x1, x2) = L2 at *
      simp only [] at k0 k1 CA CB
      have rr : (r != r) = false := by simp
      go_wp2_with fail
      go_region_held3 (fun w' => w'.cell? ⟨g, of + i * 2, none⟩ = some (.int .i64 x2) ∧ w'.cell? ⟨g, of + i * 2 + 1, none⟩ = some (.int .i64 x1))
        (first | exact ⟨k0, k1⟩ | exact ⟨s0, s1⟩ | exact ⟨u0, u1⟩)
        (first
          | (go_at_call 44; (with_reducible refine (CB.out _ hq9).mono ?_); rintro E w8 ⟨rfl, hq8, u0, u1⟩)
          | (go_at_call 44; (refine (CA.out _ (grewN W2 1).below).mono ?_); rintro E w9 ⟨rfl, hq9, s0, s1⟩))
      have R9 := Lib.hid (STEP2.out _ hq8)
      clear STEP2 CA CB CC k0 k1 u0 u1 hq8
      go_wp2
      go_roundg (len - (i + 1))
      case measure => omega
      case rel => exact ⟨i + 1, by go_num, by omega, Nat.le_refl _, R9⟩
    · obtain rfl : len = i := by omega
      have hi' : decide ((len : Int) < (len : Int)) = false := decide_eq_false (by omega)
      have hi2 : decide (len < len) = false := decide_eq_false (by omega)
      obtain ⟨L, ⟨qa, qb, hD⟩, hL, hK⟩ := HR.out
      rw [← HN.out, List.take_length] at hK
      obtain ⟨r1, hc1⟩ := tcancel_gen hD.a id hid
      have S0 : Hid (LastK ks (L.filter (fun y => y.1 != id)) ∧ (L.filter (fun y => y.1 != id)).length ≤ 40 ∧ ∀ y ∈ L.filter (fun y => y.1 != id), y.1 ≠ id) :=
        ⟨fun x hx => hK x (List.mem_filter.1 hx).1, by have := List.length_filter_le (fun y : Ent => y.1 != id) L; omega, fun y hy => by simpa using (List.mem_filter.1 hy).2⟩
      have D2 := Lib.hid hD
      have CA := Lib.hid hc1
      have CB : Hid (∀ W', Duo W0 W' ta qa 1024 0 0 (L.filter (fun y => y.1 != id)) tb qb 1024 0 0 L → ∃ r, Calls Try.prog 45 #[.pointer (some ⟨tb, 0, none⟩), .int .i64 id] W' fun E w' => E = .returned (.int .i64 r) ∧ Duo W0 w' ta qa 1024 0 0 (L.filter (fun y => y.1 != id)) tb qb 1024 0 0 (L.filter (fun y => y.1 != id))) := fun W' d => by
        obtain ⟨r, h⟩ := tcancel_gen d.b id hid
        exact ⟨r, h.mono fun E w' ⟨he, l⟩ => ⟨he, (d.symm.cut l).symm⟩⟩
      have CUT := Lib.hid (fun (w' : World) l => D2.out.cut (W' := w') (id := id) l)
      clear HR hgk hin hK hL hD hc1 D2
      generalize L.filter (fun y => y.1 != id) = L2 at *
      go_wp2_with fail
      refine CA.out.mono ?_
      rintro E w3 ⟨rfl, l3⟩
      obtain ⟨r2, hc2⟩ := CB.out _ (CUT.out _ l3)
      have C2 := Lib.hid hc2
      clear hc2 l3 CA CB CUT
      go_wp2_with fail
      refine C2.out.mono ?_
      rintro E w4 ⟨rfl, d4⟩
      have D4 := Lib.hid d4
      clear d4 C2
      have x0 : w4.cell? ⟨w.heap.size, 0, none⟩ = some (.int .i64 t0) := (D4.out.low.cell (p := ⟨w.heap.size, 0, none⟩) F0.out.2.2.1).trans F0.out.2.2.2.1
      have x1 : w4.cell? ⟨w.heap.size, 1, none⟩ = some (.int .i64 t1) := (D4.out.low.cell (p := ⟨w.heap.size, 1, none⟩) F0.out.2.2.1).trans F0.out.2.2.2.2
      have LOW : Hid (∀ W', Below W0.heap.size W0 W' → Below w.heap.size w W') := fun W' b => F0.out.1.trans (b.mono F0.out.1.size)
      by_cases hbad : t0 < 0 ∨ t1 < t0 ∨ 1099511627776 ≤ t1
      · have B5 := Lib.hid (LOW.out _ D4.out.low)
        clear D4 S0 LOW
        rcases Int.lt_or_le t0 0 with b1 | b1
        · have e1 : decide (t0 < 0) = true := decide_eq_true b1
          clear hbad
          go_wp2_with fail
          refine (CW _).out.mono ?_
          rintro E w5 ⟨rfl, b5⟩
          have B6 : Hid (Below w.heap.size w w5) := B5.out.trans (b5.mono B5.out.size)
          clear b5
          go_wp2
          go_ret
          exact ⟨rfl, B6.out⟩
        · have e1 : decide (t0 < 0) = false := decide_eq_false (by omega)
          rcases Int.lt_or_le t1 t0 with b2 | b2
          · have e2 : decide (t1 < t0) = true := decide_eq_true b2
            clear hbad
            go_wp2_with fail
            refine (CW _).out.mono ?_
            rintro E w5 ⟨rfl, b5⟩
            have B6 : Hid (Below w.heap.size w w5) := B5.out.trans (b5.mono B5.out.size)
            clear b5
            go_wp2
            go_ret
            exact ⟨rfl, B6.out⟩
          · have e2 : decide (t1 < t0) = false := decide_eq_false (by omega)
            have e3 : decide (t1 ≥ 1099511627776) = true := decide_eq_true (by omega)
            have e4 : decide (1099511627776 ≤ t1) = true := decide_eq_true (by omega)
            clear hbad
            go_wp2_with fail
            refine (CW _).out.mono ?_
            rintro E w5 ⟨rfl, b5⟩
            have B6 : Hid (Below w.heap.size w w5) := B5.out.trans (b5.mono B5.out.size)
            clear b5
            go_wp2
            go_ret
            exact ⟨rfl, B6.out⟩
      · have hg : Hid (0 ≤ t0 ∧ t0 ≤ t1 ∧ t1 < 1099511627776) := ⟨by omega, by omega, by omega⟩
        have e1 : decide (t0 < 0) = false := decide_eq_false (by omega)
        have e2 : decide (t1 < t0) = false := decide_eq_false (by omega)
        have e3 : decide (t1 ≥ 1099511627776) = false := decide_eq_false (by omega)
        have e4 : decide (1099511627776 ≤ t1) = false := decide_eq_false (by omega)
        have CD1 := Lib.hid (due_any D4.out.a t0 (timeE_ok hg.out.1 (by have := hg.out.2; omega)) hg.out.1 (by have := S0.out.2.1; omega))
        have OWN : Hid ((∀ k, qa.turns k ∨ k = ta → k < w4.heap.size) ∧ ∀ k, qb.turns k ∨ k = tb → k < w4.heap.size) :=
          ⟨fun k hk => D4.out.symm.ltB k (hk.imp .inl (fun x => x)), fun k hk => D4.out.ltB k (hk.imp .inl (fun x => x))⟩
        clear hbad
        go_wp2_with fail
        refine CD1.out.mono ?_
        rintro E w5 ⟨D1, La, o1, ra, rc, rfl, hT, hR, hKp, hDI, hLt⟩
        have S1 : Hid (Duo W0 w5 ta qa 1024 t0 o1 La tb qb 1024 0 0 L2 ∧ w5.ownsRow w4.heap.size 86 3 (.slice ra D1.length rc) D1.length (flatF t0 D1) ∧ DueI t0 0 L2 D1 La o1 ∧ (∀ y ∈ La, t0 < y.2) ∧ w4.heap.size ≤ w5.heap.size) := ⟨D4.out.due hT hKp, hR, hDI, hLt, hKp.size⟩
        clear hT hR hKp hDI hLt CD1
        have x0 : w5.cell? ⟨w.heap.size, 0, none⟩ = some (.int .i64 t0) := (S1.out.1.low.cell (p := ⟨w.heap.size, 0, none⟩) F0.out.2.2.1).trans F0.out.2.2.2.1
        have x1 : w5.cell? ⟨w.heap.size, 1, none⟩ = some (.int .i64 t1) := (S1.out.1.low.cell (p := ⟨w.heap.size, 1, none⟩) F0.out.2.2.1).trans F0.out.2.2.2.2
        have LA : Hid (La.length ≤ 40) := by
          have h1 := S1.out.2.2.1.perm.length_eq
          have h2 := S0.out.2.1
          rw [List.length_append] at h1
          show La.length ≤ 40
          omega
        have CD2 := Lib.hid (due_any S1.out.1.a t1 (timeE_ok (by have := hg.out; omega) hg.out.2.2) hg.out.2.1 (by have := LA.out; omega))
        generalize hd1 : D1.length = n1 at *
        go_wp2_with fail
        refine CD2.out.mono ?_
        rintro E w6 ⟨D2, La2, o2, rb, rd, rfl, hT, hR, hKp, hDI, hLt⟩
        have S2 : Hid (Duo W0 w6 ta qa 1024 t1 o2 La2 tb qb 1024 0 0 L2 ∧ w6.ownsRow w4.heap.size 86 3 (.slice ra n1 rc) n1 (flatF t0 D1) ∧ w6.ownsRow w5.heap.size 86 3 (.slice rb D2.length rd) D2.length (flatF t1 D2) ∧ DueI t1 o1 La D2 La2 o2 ∧ (∀ y ∈ La2, t1 < y.2) ∧ w5.heap.size ≤ w6.heap.size) :=
          ⟨S1.out.1.due hT hKp, row_off S1.out.2.1 hKp OWN.out.1, hR, hDI, hLt, hKp.size⟩
        clear hT hR hKp hDI hLt CD2
        have x1 : w6.cell? ⟨w.heap.size, 1, none⟩ = some (.int .i64 t1) := (S2.out.1.low.cell (p := ⟨w.heap.size, 1, none⟩) F0.out.2.2.1).trans F0.out.2.2.2.2
        have CD3 := Lib.hid (due_any S2.out.1.b t1 (timeE_ok (by have := hg.out; omega) hg.out.2.2) (by have := hg.out; omega) (by have := S0.out.2.1; omega))
        generalize hd2 : D2.length = n2 at *
        go_wp2_with fail
        refine CD3.out.mono ?_
        rintro E w7 ⟨D, Lb, o3, rz, re, rfl, hT, hR, hKp, hDI, hLt⟩
        have S3 : Hid (Duo W0 w7 ta qa 1024 t1 o2 La2 tb qb 1024 t1 o3 Lb ∧ w7.ownsRow w4.heap.size 86 3 (.slice ra n1 rc) n1 (flatF t0 D1) ∧ w7.ownsRow w5.heap.size 86 3 (.slice rb n2 rd) n2 (flatF t1 D2) ∧ w7.ownsRow w6.heap.size 86 3 (.slice rz D.length re) D.length (flatF t1 D) ∧ w6.heap.size ≤ w7.heap.size) :=
          ⟨(S2.out.1.symm.due hT hKp).symm, row_off S2.out.2.1 hKp OWN.out.2, row_off S2.out.2.2.1 hKp (fun k hk => by have := OWN.out.2 k hk; have := S1.out.2.2.2.2; omega), hR, hKp.size⟩
        have DD : Hid (D1 ++ D2 = D) := due_twice hg.out.2.1 S1.out.2.2.1 S1.out.2.2.2.1 S2.out.2.2.2.1 S2.out.2.2.2.2.1 hDI hLt
        have DL : Hid (∀ y ∈ D, y.1 ≠ id ∧ lastAt ks y.1 = y.2) := fun y hy => by
          have hm : y ∈ L2 := hDI.perm.mem_iff.2 (List.mem_append_left _ hy)
          exact ⟨S0.out.2.2 y hm, S0.out.1 y hm⟩
        have N12 : Hid (n1 + n2 = D.length ∧ D.length ≤ 40) := by
          refine ⟨by rw [← hd1, ← hd2, ← List.length_append, DD.out], ?_⟩
          have h1 := hDI.perm.length_eq
          have h2 := S0.out.2.1
          rw [List.length_append] at h1
          omega
        clear hT hR hKp hDI hLt CD3
        obtain ⟨vx, w8, hrun, hown, hgrow⟩ := fired_append S3.out.2.1 S3.out.2.2.1 (flatF_one t1 D2) (by have := S1.out.2.2.2.2; have := S2.out.2.2.2.2.2; have := S3.out.2.2.2.2; omega) (by have := N12.out; omega)
        obtain ⟨ax, cx, rfl⟩ := own_form hown
        have HRUN := Lib.hid hrun
        have S4 : Hid (AnewF w w8 ta tb a ks D t1 (.slice ax (n1 + n2) cx) (.slice rz D.length re)) := by
          have kg : Kept (fun k => (Value.slice ra n1 rc).ownBlock = some k) w7 w8 := (Kept.refl _ w7).grown hgrow (fun i e => .inl e)
          have ob := own_block S3.out.2.1
          have ol := own_lt S2.out.2.1
          have da := S3.out.1.a.kept kg (fun b hb e => by have := ob b e; have := D4.out.symm.ltB b hb; omega)
          have db := S3.out.1.b.kept kg (fun b hb e => by have := ob b e; have := D4.out.ltB b hb; omega)
          have lowW : Below W0.heap.size W0 w8 := S3.out.1.low.trans (kg.below S3.out.1.low.size (fun b e => by have := ob b e; have := D4.out.low.size; omega))
          refine ⟨⟨_, _, _, _, _, da⟩, ⟨_, _, _, _, _, db⟩, ⟨w4.heap.size, D1, D2, t0, hg.out.2.1, DD.out, by rw [← N12.out.1]; exact hown⟩, ⟨w6.heap.size, own_kept S3.out.2.2.2.1 (fun g e => kg.block g (own_lt S3.out.2.2.2.1 g e) (fun e' => by have := ol g e'; have := own_block S3.out.2.2.2.1 g e; omega))⟩, ?_, LOW.out _ lowW⟩
          exact F0.out.2.1.lies lowW
        have EN : n1 + n2 = D.length := N12.out.1
        have EN2 : (n1 : Int) + (n2 : Int) = (D.length : Int) := by omega
        rw [EN] at S4
        clear hrun hown hgrow S3 S2 S1 OWN LA D4 x0 x1 S0
        go_wp2_with (at_builtin; refine wpList_append_run rfl _ _ 82 82 rfl rfl _ _ _ _ rfl rfl HRUN.out ?_)
        clear HRUN
        try rw [EN]
        have HD2 := Lib.hid hd2
        clear EN EN2 hd1 hd2 HD2 LOW e1 e2 e3 e4
        obtain ⟨n, hn⟩ : ∃ n, D.length = n := ⟨_, rfl⟩
        have HDN := Lib.hid hn
        rw [hn] at S4 N12 ⊢
        have n40 := N12.out.2
        clear hn N12
        have f1 : ((n : Int) != (n : Int)) = false := by simp
        have f2 : (n != n) = false := by simp
        go_wp2_with fail
        go_loopg [18] n (fun gk s18 wr => ∃ k : Nat, s18 = .int .i64 k ∧ k ≤ n ∧ n - k ≤ gk ∧ Hid (AnewF w wr ta tb a ks D t1 (.slice ax n cx) (.slice rz n re)))
        case atStart => exact ⟨0, rfl, Nat.zero_le _, Nat.le_refl _, S4⟩
        case round =>
          rename World => W8
          obtain ⟨k, rfl, hkn, hgk, HF⟩ := hrel
          clear S4
          by_cases hlt : k < n
          · have k3 : decide ((k : Int) < (n : Int)) = true := decide_eq_true (by omega)
            have k4 : decide (k < n) = true := decide_eq_true hlt
            have k5 : (k : Int) < (n : Int) := by omega
            have hkD : k < D.length := by rw [HDN.out]; exact hlt
            obtain ⟨hm1, _⟩ := mem_getD5 hkD
            have HY := Lib.hid (DL.out _ hm1)
            obtain ⟨B3, D1', D2', t0', hle, hDD, hrx⟩ := HF.out.rx
            obtain ⟨B4, hrz⟩ := HF.out.rz
            rw [HDN.out] at hrx hrz
            obtain ⟨gx, rfl, hcx⟩ := rowN hrx (by omega)
            obtain ⟨gz, rfl, hcz⟩ := rowN hrz (by omega)
            obtain ⟨u0, u1, zl, u2, hzl⟩ := flat_two t0' t1 hle D1' D2' k (by rw [hDD]; exact hkD)
            obtain ⟨v0, v1, v2⟩ := flatF_at t1 D k hkD
            rw [hDD] at u0 u1 hzl
            have x0 := hcx _ _ u0
            have x1 := hcx _ _ u1
            have x2 := hcx _ _ u2
            have z0 := hcz _ _ v0
            have z1 := hcz _ _ v1
            have z2 := hcz _ _ v2
            have XC : Hid (∀ W', Below W8.heap.size W8 W' → W'.cell? ⟨gx, k * 3, none⟩ = some (.int .i64 (D.getD k (0, 0)).1) ∧ W'.cell? ⟨gx, k * 3 + 1, none⟩ = some (.int .i64 (D.getD k (0, 0)).2)) := fun W' b => ⟨keep1' x0 b, keep1' x1 b⟩
            clear hrx hrz hcx hcz u0 u1 u2 v0 v1 v2 hDD hm1
            obtain ⟨y, hy⟩ : ∃ y, D.getD k (0, 0) = y := ⟨_, rfl⟩
            rw [hy] at x0 x1 z0 z1 z2 HY hzl XC
            clear hy
            obtain ⟨y1, y2⟩ := y
            obtain ⟨wl, hwl⟩ : ∃ wl, t1 - y2 = wl := ⟨_, rfl⟩
            simp only [] at x0 x1 z0 z1 z2 hzl XC
            rw [hwl] at z2 hzl
            clear hwl
            have n1' : (y1 != y1) = false := by simp
            have n2' : (y2 != y2) = false := by simp
            have n3 : decide (zl > wl) = false := decide_eq_false (by omega)
            have n4 : decide (wl < zl) = false := decide_eq_false (by omega)
            have n5 : (y1 == id) = false := by have := HY.out.1; simpa using this
            go_wp2_with fail
            go_quiet (fail)
            have AF : Hid (AnewF w (W8.drewN nq) ta tb a ks D t1 (.slice (some ⟨gx, 0, none⟩) n cx) (.slice (some ⟨gz, 0, none⟩) n re)) := HF.out.lies (grewN W8 nq).below
            have XX := Lib.hid (XC.out _ (grewN W8 nq).below)
            generalize W8.drewN nq = W9 at *
            clear x0 x1 x2 z0 z1 z2 XC HF n1' n2' n3 n4 n5 hzl
            go_wp2_with fail
            go_loopg [19, 20] len (fun gk s19 s20 wr => ∃ m : Nat, s20 = .int .i64 m ∧ s19 = .int .i64 (lastAt (ks.take m) y1) ∧ m ≤ len ∧ len - m ≤ gk ∧ Hid (AnewF w wr ta tb a ks D t1 (.slice (some ⟨gx, 0, none⟩) n cx) (.slice (some ⟨gz, 0, none⟩) n re) ∧ wr.cell? ⟨gx, k * 3, none⟩ = some (.int .i64 y1) ∧ wr.cell? ⟨gx, k * 3 + 1, none⟩ = some (.int .i64 y2)))
            case atStart => exact ⟨0, rfl, rfl, Nat.zero_le _, Nat.le_refl _, AF.out, XX.out⟩
            case round =>
              rename World => W10
              obtain ⟨m, rfl, rfl, hm, hgk2, HG⟩ := hrel
              clear AF XX
              obtain ⟨x0, x1⟩ := HG.out.2
              by_cases hmk : m < len
              · have q1 : decide ((m : Int) < (len : Int)) = true := decide_eq_true (by omega)
                have q2 : decide (m < len) = true := decide_eq_true hmk
                have q3 : (m : Int) < (len : Int) := by omega
                have hmks : m < ks.length := by rw [HN.out]; exact hmk
                rcases HG.out.1.keys with hz | ⟨g, of, rfl, hg, hc⟩
                · omega
                obtain ⟨⟨c0, c1⟩, _⟩ := hc m hmks
                have LST := Lib.hid (lastAt_snoc (ks.take m) (ks.getD m (0, 0)) y1)
                rw [← take_snoc hmks] at LST
                clear hc hg
                generalize ks.getD m (0, 0) = x at *
                obtain ⟨p1, p2⟩ := x
                simp only [] at c0 c1 LST
                have CX : Hid (∀ W', Below W10.heap.size W10 W' → W'.cell? ⟨g, of + m * 2, none⟩ = some (.int .i64 p2)) := fun W' b => keep1' c0 b
                by_cases hp : p1 = y1
                · subst hp
                  have e0 : (p1 == p1) = true := by simp
                  by_cases hp0 : 0 ≤ p2
                  · have e1 : decide (p2 ≥ 0) = true := decide_eq_true hp0
                    have e2 : decide (0 ≤ p2) = true := decide_eq_true hp0
                    by_cases hp1 : p2 < 1099511627776
                    · have e3 : decide (p2 < 1099511627776) = true := decide_eq_true hp1
                      have LE : Hid (lastAt (ks.take (m + 1)) p1 = p2) := LST.out.trans (if_pos ⟨rfl, hp0, hp1⟩)
                      clear LST hp0 hp1
                      go_wp2_with fail
                      go_quiet (fail)
                      have G2 : Hid (AnewF w (W10.drewN nq) ta tb (some ⟨g, of, none⟩) ks D t1 (.slice (some ⟨gx, 0, none⟩) n cx) (.slice (some ⟨gz, 0, none⟩) n re) ∧ (W10.drewN nq).cell? ⟨gx, k * 3, none⟩ = some (.int .i64 p1) ∧ (W10.drewN nq).cell? ⟨gx, k * 3 + 1, none⟩ = some (.int .i64 y2)) := ⟨HG.out.1.lies (grewN W10 nq).below, x0, x1⟩
                      have c0 := CX.out _ (grewN W10 nq).below
                      generalize W10.drewN nq = W11 at *
                      clear HG CX c1 x0 x1
                      go_wp2
                      go_roundg (len - (m + 1))
                      case measure => omega
                      case rel => exact ⟨m + 1, by go_num, by rw [LE.out], by omega, Nat.le_refl _, G2⟩
                    · have e3 : decide (p2 < 1099511627776) = false := decide_eq_false (by omega)
                      have LE : Hid (lastAt (ks.take (m + 1)) p1 = lastAt (ks.take m) p1) := LST.out.trans (if_neg (fun h => hp1 h.2.2))
                      clear LST hp0 hp1
                      go_wp2_with fail
                      go_quiet (fail)
                      have G2 : Hid (AnewF w (W10.drewN nq) ta tb (some ⟨g, of, none⟩) ks D t1 (.slice (some ⟨gx, 0, none⟩) n cx) (.slice (some ⟨gz, 0, none⟩) n re) ∧ (W10.drewN nq).cell? ⟨gx, k * 3, none⟩ = some (.int .i64 p1) ∧ (W10.drewN nq).cell? ⟨gx, k * 3 + 1, none⟩ = some (.int .i64 y2)) := ⟨HG.out.1.lies (grewN W10 nq).below, x0, x1⟩
                      generalize W10.drewN nq = W11 at *
                      clear HG CX c0 c1 x0 x1
                      go_wp2
                      go_roundg (len - (m + 1))
                      case measure => omega
                      case rel => exact ⟨m + 1, by go_num, by rw [LE.out], by omega, Nat.le_refl _, G2⟩
                  · have e1 : decide (p2 ≥ 0) = false := decide_eq_false (by omega)
                    have e2 : decide (0 ≤ p2) = false := decide_eq_false (by omega)
                    have LE : Hid (lastAt (ks.take (m + 1)) p1 = lastAt (ks.take m) p1) := LST.out.trans (if_neg (fun h => hp0 h.2.1))
                    clear LST hp0
                    go_wp2_with fail
                    go_quiet (fail)
                    have G2 : Hid (AnewF w (W10.drewN nq) ta tb (some ⟨g, of, none⟩) ks D t1 (.slice (some ⟨gx, 0, none⟩) n cx) (.slice (some ⟨gz, 0, none⟩) n re) ∧ (W10.drewN nq).cell? ⟨gx, k * 3, none⟩ = some (.int .i64 p1) ∧ (W10.drewN nq).cell? ⟨gx, k * 3 + 1, none⟩ = some (.int .i64 y2)) := ⟨HG.out.1.lies (grewN W10 nq).below, x0, x1⟩
                    generalize W10.drewN nq = W11 at *
                    clear HG CX c0 c1 x0 x1
                    go_wp2
                    go_roundg (len - (m + 1))
                    case measure => omega
                    case rel => exact ⟨m + 1, by go_num, by rw [LE.out], by omega, Nat.le_refl _, G2⟩
                · have e0 : (p1 == y1) = false := by simpa using hp
                  have LE : Hid (lastAt (ks.take (m + 1)) y1 = lastAt (ks.take m) y1) := LST.out.trans (if_neg (fun h => hp h.1))
                  clear LST hp
                  go_wp2_with fail
                  go_quiet (fail)
                  have G2 : Hid (AnewF w (W10.drewN nq) ta tb (some ⟨g, of, none⟩) ks D t1 (.slice (some ⟨gx, 0, none⟩) n cx) (.slice (some ⟨gz, 0, none⟩) n re) ∧ (W10.drewN nq).cell? ⟨gx, k * 3, none⟩ = some (.int .i64 y1) ∧ (W10.drewN nq).cell? ⟨gx, k * 3 + 1, none⟩ = some (.int .i64 y2)) := ⟨HG.out.1.lies (grewN W10 nq).below, x0, x1⟩
                  generalize W10.drewN nq = W11 at *
                  clear HG CX c0 c1 x0 x1
                  go_wp2
                  go_roundg (len - (m + 1))
                  case measure => omega
                  case rel => exact ⟨m + 1, by go_num, by rw [LE.out], by omega, Nat.le_refl _, G2⟩
              · obtain rfl : len = m := by omega
                have q1 : decide ((len : Int) < (len : Int)) = false := decide_eq_false (by omega)
                have q2 : decide (len < len) = false := decide_eq_false (by omega)
                have hlast : lastAt (ks.take len) y1 = y2 := by
                  rw [← HN.out, List.take_length]
                  exact HY.out.2
                have HF2 := Lib.hid HG.out.1
                rw [hlast]
                have n2' : (y2 != y2) = false := by simp
                clear HG hlast
                go_wp2
                go_roundg (n - (k + 1))
                case measure => omega
                case rel => exact ⟨k + 1, by go_num, by omega, Nat.le_refl _, HF2⟩
          · obtain rfl : n = k := by omega
            have k3 : decide ((n : Int) < (n : Int)) = false := decide_eq_false (by omega)
            have k4 : decide (n < n) = false := decide_eq_false (by omega)
            obtain ⟨Ba, qa', ma, oa, Lna, hta⟩ := HF.out.ta
            obtain ⟨Bb, qb', mb, ob, Lnb, htb⟩ := HF.out.tb
            have HT : Hid (Ts Ba W8 ta qa' ma t1 oa Lna ∧ Ts Bb W8 tb qb' mb t1 ob Lnb ∧ Below w.heap.size w W8) := ⟨hta, htb, HF.out.low⟩
            have tt : (t1 == t1) = true := by simp
            clear hta htb HF
            go_wp2_with fail
            refine (tnow_any HT.out.1).mono ?_
            rintro E w9 ⟨rfl, rfl⟩
            go_wp2_with fail
            refine (tnow_any HT.out.2.1).mono ?_
            rintro E w10 ⟨rfl, rfl⟩
            go_wp2_with fail
            refine (CW _).out.mono ?_
            rintro E w11 ⟨rfl, b11⟩
            go_wp2
            go_ret
            exact ⟨rfl, HT.out.2.2.trans (b11.mono HT.out.2.2.size)⟩

theorem walk_TimersAnew (a : Option Addr) (len cap : Nat) (id t0 t1 : Int) (w : World) (h : ∃ l, IsKeys w a len cap l) (hid : Is64 id) (h0 : Is64 t0) (h1 : Is64 t1) :
    Calls Try.prog 9 #[.slice a len cap, .int .i64 id, .agg #[.int .i64 t0, .int .i64 t1]] w fun E w' => E = .returned (.bool true) ∧ Below w.heap.size w w' := by
  obtain ⟨l, rfl, hc, _, hk, hb, _⟩ := h
  by_cases hl : 40 < l.length
  · exact anew_long a l.length cap id t0 t1 hl w
  · exact anew_core a cap l id t0 t1 (by omega) hid w hk
end Go.Proofs.Ytpglkakbiaihdaa
