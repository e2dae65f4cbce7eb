/-
  Several texts as one.
-/
import Derived.Test.YtcipilggddpnpaaRx2
import Derived.Test.YtcipilggddpnpaaRx1
import Derived.Test.YtcipilggddpnpaaQx1
import Derived.Test.YtcipilggddpnpaaTx1
import Derived.Laws.EntriesVeiled
/-
  The document's answer for queues: the first ones, as a row of the reference's own.
-/
namespace Go.Proofs.Ytcipilggddpnpaa
open Go.RowKit Go.Shelf Go.Maps
set_option linter.unusedVariables false
set_option linter.unusedSimpArgs false

/-- A reference's row. -/
theorem refis_row {X : Nat} {W : World} {rf : Nat} {S : List Ent} (h : RefIs X W rf S) (hg : ∀ x ∈ S, Is64 x.1 ∧ Is64 x.2) : ∃ a cap, W.cell? ⟨rf, 0, none⟩ = some (.slice a S.length cap) ∧ All4 X W a S.length S ∧ S.length ≤ cap := by
  obtain ⟨a, cap, h1, h2⟩ := h
  obtain ⟨x1, x2⟩ := all4_own h2 hg
  exact ⟨a, cap, by simp [World.cell?, h1], x1, x2⟩

set_option maxHeartbeats 1000000 in
set_option maxRecDepth 20000 in
theorem rleast4_any {X : Nat} {W : World} {rf : Nat} {S : List Ent} (h : RefIs X W rf S) (hg : ∀ x ∈ S, Is64 x.1 ∧ Is64 x.2) (hl : S.length < 1099511627776) (n : Int) (hn : Is64 n) :
    Calls Try.prog 25 #[.pointer (some ⟨rf, 0, none⟩), .int .i64 n] W fun E w' => ∃ a cap, E = .returned (.slice a (min n.toNat S.length) cap) ∧ All4 X w' a (min n.toNat S.length) (S.take n.toNat) ∧ min n.toNat S.length ≤ cap ∧ Below W.heap.size W w' := by
  obtain ⟨a, cap, hc, hrow, hcap⟩ := refis_row h hg
  have mixed : Try.prog.follows .mixedOrders = true := by kernel_rfl
  by_cases h1 : n < 1
  · have t1 : decide (n < 1) = true := decide_eq_true h1
    have z : n.toNat = 0 := by omega
    have fin : ∃ a cap, (Ending.returned (.slice none 0 0)) = .returned (.slice a (min n.toNat S.length) cap) ∧ All4 X W a (min n.toNat S.length) (S.take n.toNat) ∧ min n.toNat S.length ≤ cap ∧ Below W.heap.size W W := by
      rw [z, Nat.zero_min, List.take_zero]
      exact ⟨none, 0, rfl, ⟨rfl, fun i hi => absurd hi (Nat.not_lt_zero i), fun x hx => by cases hx⟩, Nat.le_refl _, Below.refl _ _⟩
    have FIN := Lib.hid fin
    clear fin hrow h
    go_enter Try.func25, Try.ntmps25
    go_wp2
    go_ret
    exact FIN.out
  · have t1 : decide (n < 1) = false := decide_eq_false h1
    obtain ⟨k, rfl⟩ := Int.eq_ofNat_of_zero_le (show 0 ≤ n by omega)
    rw [Int.toNat_natCast]
    obtain ⟨len, hlen⟩ : ∃ len, S.length = len := ⟨_, rfl⟩
    obtain ⟨m, hm⟩ : ∃ m, min k len = m := ⟨_, rfl⟩
    have fin : ∀ W', Below W.heap.size W W' → ∃ a' cap', (Ending.returned (.slice a m cap)) = .returned (.slice a' (min k len) cap') ∧ All4 X W' a' (min k len) (S.take k) ∧ min k len ≤ cap' ∧ Below W.heap.size W W' := fun W' b => by
      refine ⟨a, cap, by rw [hm], ?_, by rw [hlen] at hcap; omega, b⟩
      have hh := (hrow.kept (kept_lies (S := fun _ => False) b) (fun _ _ x => x)).head (k := min k len) (by omega)
      rw [hlen] at hrow
      have e : S.take (min k len) = S.take k := by
        by_cases hk : k ≤ len
        · rw [Nat.min_eq_left hk]
        · rw [Nat.min_eq_right (by omega), List.take_of_length_le (by omega), List.take_of_length_le (by omega)]
      rw [e] at hh
      exact hh
    rw [hlen] at hc hcap hl ⊢
    have FIN := Lib.hid fin
    have e1 : min (k : Int) (len : Int) = (m : Int) := by omega
    have e2 : min (len : Int) (k : Int) = (m : Int) := by omega
    have e3 : m ≤ cap := by omega
    have e4 : decide (m ≤ cap) = true := decide_eq_true e3
    have e5 : (m : Int) ≤ (cap : Int) := by omega
    have e6 : ¬ (m : Int) < 0 := by omega
    clear fin hrow h hg
    clear hlen
    go_enter Try.func25, Try.ntmps25
    go_wp2_with fail
    go_region
    go_wp2
    go_ret
    exact FIN.out _ (grewN W 1).below
end Go.Proofs.Ytcipilggddpnpaa

/-
  The law's same, of queues: a queue and its reference, side by side.
-/
namespace Go.Proofs.Ytcipilggddpnpaa
open Go.RowKit Go.Shelf Go.Maps
set_option linter.unusedVariables false
set_option linter.unusedSimpArgs false

theorem Pq.first {X : Nat} {W : World} {q : QB} {rf : Nat} {S : List Ent} (h : Pq X W q rf S) :
    Calls Try.prog 28 #[.pointer (some ⟨q.qb, 0, none⟩)] W fun E w' => E = .returned (.tuple #[.agg #[.int .i64 (S.getD 0 (0, 0)).2, .int .i64 (S.getD 0 (0, 0)).1], .int .i64 (if S.length = 0 then 14 else 0)]) ∧ Below W.heap.size W w' := by
  by_cases h0 : S.length = 0
  · have e : S = [] := List.eq_nil_of_length_eq_zero h0
    have hq := h.queue
    rw [if_pos h0]
    subst e
    exact (qfirst_nil hq).mono fun _ _ ⟨e, g⟩ => ⟨e, g.below⟩
  · rw [if_neg h0]
    exact (qfirst_any h.queue _ (first4 h.sorted (by omega))).mono fun _ _ ⟨e, g⟩ => ⟨e, g.below⟩
theorem Pq.last {X : Nat} {W : World} {q : QB} {rf : Nat} {S : List Ent} (h : Pq X W q rf S) :
    Calls Try.prog 29 #[.pointer (some ⟨q.qb, 0, none⟩)] W fun E w' => E = .returned (.tuple #[.agg #[.int .i64 (S.getD (S.length - 1) (0, 0)).2, .int .i64 (S.getD (S.length - 1) (0, 0)).1], .int .i64 (if S.length = 0 then 14 else 0)]) ∧ Below W.heap.size W w' := by
  by_cases h0 : S.length = 0
  · have e : S = [] := List.eq_nil_of_length_eq_zero h0
    have hq := h.queue
    rw [if_pos h0]
    subst e
    exact (qlast_nil hq).mono fun _ _ ⟨e, g⟩ => ⟨e, g.below⟩
  · rw [if_neg h0]
    exact (qlast_any h.queue _ (last4 h.sorted (by omega))).mono fun _ _ ⟨e, g⟩ => ⟨e, g.below⟩

set_option maxHeartbeats 4000000 in
set_option maxRecDepth 100000 in
theorem same4_any {X : Nat} {W : World} {q : QB} {rf : Nat} {S : List Ent} (h : Pq X W q rf S) (hl : S.length < 1099511627775) :
    Calls Try.prog 22 #[.pointer (some ⟨q.qb, 0, none⟩), .pointer (some ⟨rf, 0, none⟩)] W fun E w' => E = .returned (.bool true) ∧ Below W.heap.size W w' := by
  have mixed : Try.prog.follows .mixedOrders = true := by kernel_rfl
  have mixedT : Try.prog.follows .mixedOrders = true := by kernel_rfl
  obtain ⟨len, hlen⟩ : ∃ len, S.length = len := ⟨_, rfl⟩
  have C1 := h.first
  have C2 : ∀ W', Below W.heap.size W W' → _ := fun W' b => (h.lies b).last
  obtain ⟨u1, hu1⟩ : ∃ u1, (S.getD 0 (0, 0)).2 = u1 := ⟨_, rfl⟩
  obtain ⟨u2, hu2⟩ : ∃ u2, (S.getD 0 (0, 0)).1 = u2 := ⟨_, rfl⟩
  obtain ⟨v1, hv1⟩ : ∃ v1, (S.getD (S.length - 1) (0, 0)).2 = v1 := ⟨_, rfl⟩
  obtain ⟨v2, hv2⟩ : ∃ v2, (S.getD (S.length - 1) (0, 0)).1 = v2 := ⟨_, rfl⟩
  rw [hu1, hu2, hlen] at C1
  simp only [hv1, hv2] at C2
  simp only [hlen] at C2
  obtain ⟨er, her⟩ : ∃ er : Int, (if len = 0 then (14 : Int) else 0) = er := ⟨_, rfl⟩
  rw [her] at C1
  simp only [her] at C2
  have HC1 := Lib.hid C1
  have HC2 := Lib.hid C2
  have ROW : Hid (∀ W', Below W.heap.size W W' → ∃ a cap, W'.cell? ⟨rf, 0, none⟩ = some (.slice a len cap) ∧ All4 X W' a len S ∧ len ≤ cap) := fun W' b => by
    have := refis_row (h.lies b).ref (fun x hx => (h.good x hx).2)
    rw [hlen] at this
    exact this
  have CL : Hid (∀ W', Below W.heap.size W W' → Calls Try.prog 27 #[.pointer (some ⟨q.qb, 0, none⟩)] W' fun E w' => E = .returned (.int .i64 len) ∧ W' = w') := fun W' b => by
    have := qlen_any (h.lies b).queue
    rw [hlen] at this
    exact this
  have CA : Hid (∀ W', Below W.heap.size W W' → Calls Try.prog 24 #[.pointer (some ⟨q.qb, 0, none⟩), .int .i64 ((len : Int) + 1)] W' fun E w' => ∃ a cap, E = .returned (.slice a len cap) ∧ All4 X w' a len S ∧ len ≤ cap ∧ Below W'.heap.size W' w') := fun W' b => by
    refine (qleast_any (h.lies b).queue (List.Perm.refl S) h.sorted h.diff (by omega) ((len : Int) + 1)).mono ?_
    rintro E w' ⟨a, cap, rfl, hr, hk⟩
    have e1 : ((len : Int) + 1).toNat = len + 1 := by omega
    have e2 : min (len + 1) S.length = len := by omega
    have e3 : S.take (len + 1) = S := List.take_of_length_le (by omega)
    rw [e1, e2, e3] at hr
    obtain ⟨x1, x2⟩ := all4_own hr (fun x hx => (h.good x hx).2)
    refine ⟨a, cap, by rw [e1, e2], ⟨x1.row, fun i hi => ?_, x1.good⟩, x2, hk.below (Nat.le_refl _) (fun _ x => x.elim)⟩
    obtain ⟨g, f1, f2, f3, f4, f5⟩ := x1.cell i hi
    exact ⟨g, f1, Nat.le_trans (Nat.le_trans h.base b.size) f2, f3, f4, f5⟩
  have CK : Hid (∀ W' a b ca cb, All4 X W' a len S → All4 X W' b len S → Calls Try.prog 23 #[.slice a len ca, .slice b len cb] W' fun E w' => E = .returned (.bool true) ∧ Below W'.heap.size W' w') := fun W' a b ca cb ha hb => keys4_same ha hb (by omega) ca cb
  have GT : Hid (0 < len → (S.getD 0 (0, 0)).2 = u1 ∧ (S.getD 0 (0, 0)).1 = u2 ∧ (S.getD (len - 1) (0, 0)).2 = v1 ∧ (S.getD (len - 1) (0, 0)).1 = v2) := fun _ => ⟨hu1, hu2, by rw [← hlen]; exact hv1, by rw [← hlen]; exact hv2⟩
  have GZ : Hid (len = 0 → u1 = 0 ∧ u2 = 0 ∧ v1 = 0 ∧ v2 = 0) := fun h0 => by
    have e : S = [] := List.eq_nil_of_length_eq_zero (by omega)
    subst e
    exact ⟨hu1.symm, hu2.symm, hv1.symm, hv2.symm⟩
  have ER := Lib.hid her
  have l60 : len < 1099511627775 := by omega
  clear C1 C2 hu1 hu2 hv1 hv2 h hl hlen her
  go_enter Try.func22, Try.ntmps22
  go_wp2_with fail
  refine HC1.out.mono ?_
  rintro E w1 ⟨rfl, b1⟩
  have bk := below_al w1 (.cells #[.int .i64 u1, .int .i64 u2] 37)
  have K1 := Lib.hid (B2.start w1 u1 u2)
  have B1 := Lib.hid (b1.trans (bk.mono b1.size))
  clear b1 bk
  go_wp2_with fail
  refine (HC2.out _ B1.out).mono ?_
  rintro E w2 ⟨rfl, b2⟩
  obtain ⟨W4, hW4⟩ : ∃ W4, w2.alloc (.cells #[.int .i64 v1, .int .i64 v2] 37) = W4 := ⟨_, rfl⟩
  have b4 : Below w2.heap.size w2 W4 := by rw [← hW4]; exact below_al w2 _
  have K4 : Hid (B2 W4 w1.heap.size u1 u2 ∧ B2 W4 w2.heap.size v1 v2 ∧ Below W.heap.size W W4) :=
    ⟨(K1.out.next b2).next b4, by rw [← hW4]; exact B2.start w2 v1 v2, B1.out.trans ((b2.trans (b4.mono b2.size)).mono B1.out.size)⟩
  have HW4 := Lib.hid hW4
  clear b2 b4 hW4 K1
  obtain ⟨a, cap, c0, hrow, hcap⟩ := ROW.out W4 K4.out.2.2
  have HROW := Lib.hid hrow
  clear hrow
  have q1 : ((len : Int) != (len : Int)) = false := by simp
  have q2 : IntKind.i64.wrap ((len : Int) + 1) = (len : Int) + 1 := by rw [IntKind.wrap_i64]; omega
  go_upto_region 3 with (fail)
  rw [HW4.out]
  go_upto_region 4 with (fail)
  have B0 : Hid (Below W4.heap.size W4 W4.drew) := (grewN W4 1).below
  have UP : Hid (∀ W', Below W4.heap.size W4 W' → Below W.heap.size W W') := fun W' b => K4.out.2.2.trans (b.mono K4.out.2.2.size)
  have RF : Hid (∀ W', Below W4.heap.size W4 W' → W'.cell? ⟨rf, 0, none⟩ = some (.slice a len cap) ∧ All4 X W' a len S) := fun W' b => ⟨keep1r c0 b, HROW.out.kept (kept_lies (S := fun _ => False) b) (fun _ _ x => x)⟩
  have CL4 : Hid (∀ W', Below W4.heap.size W4 W' → Calls Try.prog 27 #[.pointer (some ⟨q.qb, 0, none⟩)] W' fun E w' => E = .returned (.int .i64 len) ∧ W' = w') := fun W' b => CL.out W' (UP.out W' b)
  have CA4 : Hid (∀ W', Below W4.heap.size W4 W' → Calls Try.prog 24 #[.pointer (some ⟨q.qb, 0, none⟩), .int .i64 ((len : Int) + 1)] W' fun E w' => ∃ a2 c2, E = .returned (.slice a2 len c2) ∧ Below W4.heap.size W4 w' ∧ All4 X w' a2 len S ∧ w'.cell? ⟨rf, 0, none⟩ = some (.slice a len cap)) := fun W' b => by
    refine (CA.out W' (UP.out W' b)).mono ?_
    rintro E w' ⟨a2, c2, rfl, h1, _, h2⟩
    have b2 := b.trans (h2.mono b.size)
    exact ⟨a2, c2, rfl, b2, h1, (RF.out w' b2).1⟩
  have CK4 : Hid (∀ W' a2 c2, Below W4.heap.size W4 W' → All4 X W' a2 len S → Calls Try.prog 23 #[.slice a2 len c2, .slice a len cap] W' fun E w' => E = .returned (.bool true) ∧ Below W4.heap.size W4 w' ∧ w'.cell? ⟨rf, 0, none⟩ = some (.slice a len cap)) := fun W' a2 c2 b ha => by
    refine (CK.out W' a2 a c2 cap ha (RF.out W' b).2).mono ?_
    rintro E w' ⟨rfl, h2⟩
    have b2 := b.trans (h2.mono b.size)
    exact ⟨rfl, b2, (RF.out w' b2).1⟩
  clear CL CA CK HC1 HC2 ROW
  go_region_held3 (fun w' => w'.cell? ⟨rf, 0, none⟩ = some (.slice a len cap))
    (first | exact c0 | exact s0 | exact u0)
    (first
      | (go_at_call 23; (refine (CK4.out _ _ _ hq9 ha9).mono ?_); rintro E w8 ⟨rfl, hq8, u0⟩)
      | (go_at_call 24; (refine (CA4.out _ B0.out).mono ?_); rintro E w9 ⟨a2, c2, rfl, hq9, ha9, s0⟩)
      | (go_at_call 27; (refine (CL4.out _ (by first | exact hq8 | exact hq9 | exact B0.out)).mono ?_); rintro E w7 ⟨rfl, rfl⟩))
  obtain ⟨x0, x1⟩ := (K4.out.1.next hq8).cells
  obtain ⟨x2, x3⟩ := (K4.out.2.1.next hq8).cells
  have UP8 := Lib.hid (UP.out w8 hq8)
  have RF8 := Lib.hid (RF.out w8 hq8).2
  clear CL4 CA4 CK4 UP RF K4 hq8 B0 c0
  by_cases h0 : len = 0
  · subst h0
    have e := ER.out
    rw [if_pos rfl] at e
    subst e
    obtain ⟨rfl, rfl, rfl, rfl⟩ := GZ.out rfl
    have n0 : (((0 : Nat) : Int) == 0) = true := by decide
    go_wp2
    go_ret
    exact ⟨rfl, UP8.out⟩
  · obtain ⟨p, rfl⟩ : ∃ p, len = p + 1 := ⟨len - 1, by omega⟩
    have e := ER.out
    rw [if_neg h0] at e
    subst e
    have n0 : (((p + 1 : Nat) : Int) == 0) = false := beq_eq_false_iff_ne.2 (by omega)
    have n1 : ((p : Int) + 1 == 0) = false := beq_eq_false_iff_ne.2 (by omega)
    have n2 : (p + 1 == 0) = false := beq_eq_false_iff_ne.2 (by omega)
    have n3 : (0 : Int) < (p : Int) + 1 := by omega
    have n4 : (p : Int) < (p : Int) + 1 := by omega
    have n5 : IntKind.i64.wrap (((p + 1 : Nat) : Int) - 1) = (p : Int) := by rw [IntKind.wrap_i64]; omega
    have n6 : IntKind.i64.wrap ((p : Int) + 1 - 1) = (p : Int) := by rw [IntKind.wrap_i64]; omega
    have n7 : decide (0 < p + 1) = true := decide_eq_true (by omega)
    have n8 : decide (p < p + 1) = true := decide_eq_true (by omega)
    obtain ⟨g1, g2, g3, g4⟩ := GT.out (by omega)
    have HAL : Hid (∃ g, a = some ⟨g, 0, none⟩ ∧ (w8.cell? ⟨g, 0, none⟩ = some (.int .i64 u1) ∧ w8.cell? ⟨g, 1, none⟩ = some (.int .i64 u2)) ∧ w8.cell? ⟨g, p * 2, none⟩ = some (.int .i64 v1) ∧ w8.cell? ⟨g, p * 2 + 1, none⟩ = some (.int .i64 v2)) := by
      obtain ⟨g, e, _, _, a0, a1⟩ := RF8.out.cell 0 (by omega)
      obtain ⟨g', e', _, _, a2, a3⟩ := RF8.out.cell p (by omega)
      rw [e] at e'
      cases e'
      rw [Nat.add_sub_cancel] at g3 g4
      rw [g1] at a0
      rw [g2] at a1
      rw [g3] at a2
      rw [g4] at a3
      exact ⟨g, e, ⟨by simpa using a0, by simpa using a1⟩, a2, a3⟩
    obtain ⟨g, rfl, ⟨z0, z1⟩, z2, z3⟩ := HAL.out
    clear g1 g2 g3 g4
    go_upto_region 8 with (fail)
    go_quiet (fail)
    have UP9 := Lib.hid (UP8.out.trans ((grewN w8 nq).below.mono UP8.out.size))
    go_wp2
    go_ret
    exact ⟨rfl, UP9.out⟩
end Go.Proofs.Ytcipilggddpnpaa

/-
  ready.Queue: Until; timers.Queue: Armed, for a range over either.
-/
namespace Go.Proofs.Ytcipilggddpnpaa
open Go.RowKit Go.Sort Go.Shelf Go.Maps
set_option linter.unusedVariables false
set_option linter.unusedSimpArgs false
attribute [local go_sem] Oper.semAt_some

theorem seqAt_grew {B c : Nat} {S : List K.Ent} {w w' : World} (h : K.SeqAt B c S w) (g : Grew w w') : K.SeqAt B c S w' := by
  obtain ⟨hB, rv, hcell, hrv⟩ := h
  refine ⟨hB, rv, (g.block (Array.getElem?_eq_some_iff.1 hcell).1).trans hcell, ?_⟩
  rcases hrv with h | ⟨rb, cap, h1, h2, h3, h4⟩
  · exact .inl h
  · exact .inr ⟨rb, cap, h1, h2, h3, h4.kept (g.block h4.lt)⟩
theorem SeqOwn.later {P : Program} {gf : Nat} {lb : Array Value} {encs : Nat → Array Value} {F : Nat → Prop} {c N : Nat} {w w' : World} (h : SeqOwn P gf lb encs F c N w) (b : Below w.heap.size w w') : SeqOwn P gf lb encs F c N w' :=
  fun l J Jx W hW => h l J Jx W (b.trans (hW.mono b.size))

set_option maxHeartbeats 1000000 in
set_option maxRecDepth 20000 in
theorem quntil_any {B : Nat} {w : World} {q : QB} {L T : List Ent} (h : Qs B w q L) (hT : T.Perm L) (hs : Sorted T) (hd : T.Pairwise (fun x y => x.1 ≠ y.1)) (hl : T.length < 1099511627776) (t : Int) :
    Calls Try.prog 20 #[.pointer (some ⟨q.qb, 0, none⟩), .int .i64 t] w fun E w' => ∃ cu ct F, E = .returned (.func (.func 52) #[] #[.pointer (some ⟨cu, 0, none⟩), .pointer (some ⟨ct, 0, none⟩)]) ∧ SeqOwn Try.prog 52 #[.pointer (some ⟨cu, 0, none⟩), .pointer (some ⟨ct, 0, none⟩)] (enU T) F 1 (untilN t T) w' ∧ (∀ k, F k → w.heap.size ≤ k ∧ k < w'.heap.size) ∧ Kept (fun _ => False) w w' := by
  obtain ⟨W0, hW0⟩ : ∃ W0, w.alloc (.cells #[.int .i64 t] 3) = W0 := ⟨_, rfl⟩
  have g0 : Grew w W0 := by rw [← hW0]; exact (Grew.refl w).alloc _
  have b0 : W0.heap[w.heap.size]? = some (.cells #[.int .i64 t] 3 (0, 0)) := by rw [← hW0]; exact heap_alloc_new _ _
  have C1 := Lib.hid (fromFirst_any (h.grew g0))
  have C2 := Lib.hid (up_all ((h.grew g0).perm hT.symm).up hd hs)
  have H0 : Hid (Grew w W0 ∧ W0.heap[w.heap.size]? = some (.cells #[.int .i64 t] 3 (0, 0))) := ⟨g0, b0⟩
  have HW := Lib.hid hW0
  clear h hT hs hd g0 b0 hW0
  go_enter Try.func20, Try.ntmps20
  go_wp2_with fail
  rw [HW.out]
  refine C1.out.mono ?_
  rintro e W1' ⟨rfl, rfl⟩
  go_wp2_with fail
  refine C2.out.mono ?_
  rintro e W1 ⟨rfl, hseq, hk⟩
  obtain ⟨W3, hW3⟩ : ∃ W3, W1.alloc (.cells #[.func (.func 77) #[] #[.pointer (some ⟨W0.heap.size, 0, none⟩)]] 93) = W3 := ⟨_, rfl⟩
  have HF : Hid (∃ F, SeqOwn Try.prog 52 #[.pointer (some ⟨W1.heap.size, 0, none⟩), .pointer (some ⟨w.heap.size, 0, none⟩)] (enU T) F 1 (untilN t T) W3 ∧ (∀ k, F k → w.heap.size ≤ k ∧ k < W3.heap.size) ∧ Kept (fun _ => False) w W3) := by
    obtain ⟨g0, b0⟩ := H0.out
    have g3 : Grew W1 W3 := by rw [← hW3]; exact (Grew.refl W1).alloc _
    have e3 : W3.heap[W1.heap.size]? = some (.cells #[.func (.func 77) #[] #[.pointer (some ⟨W0.heap.size, 0, none⟩)]] 93 (0, 0)) := by rw [← hW3]; exact heap_alloc_new _ _
    have hlt : w.heap.size < W0.heap.size := (Array.getElem?_eq_some_iff.1 b0).1
    have b3 : W3.heap[w.heap.size]? = some (.cells #[.int .i64 t] 3 (0, 0)) := (g3.block (Nat.lt_of_lt_of_le hlt hk.size)).trans ((hk.block _ hlt (fun x => x)).trans b0)
    have sq := seqAt_grew hseq g3
    have hcl : W0.heap.size < W3.heap.size := by
      obtain ⟨_, rv, hcell, _⟩ := sq
      exact (Array.getElem?_eq_some_iff.1 hcell).1
    obtain ⟨rb, r1, r2, ho⟩ := until_own (by omega) sq (Array.getElem?_eq_some_iff.1 e3).1 (by simp [World.cell?, e3]) b3
    refine ⟨_, ho, fun k hk' => ?_, (g0.kept _).trans (hk.trans (g3.kept _))⟩
    have z := g0.size
    have z2 := hk.size
    have z3 := g3.size
    rcases hk' with rfl | rfl | rfl
    · exact ⟨z, hcl⟩
    · exact ⟨by omega, r2⟩
    · exact ⟨Nat.le_refl _, by omega⟩
  have HW3 := Lib.hid hW3
  clear hseq hk C1 C2 H0 HW hW3
  go_wp2
  refine bodyPost_ret (v := .func (.func 52) #[] #[.pointer (some ⟨W1.heap.size, 0, none⟩), .pointer (some ⟨w.heap.size, 0, none⟩)]) (by simp [results, Try.f20, go_sem]) rfl ?_
  rw [HW3.out]
  obtain ⟨F, f1, f2, f3⟩ := HF.out
  exact ⟨_, _, F, rfl, f1, f2, f3⟩

/-- What Armed's yield is handed in round k. -/
def enA (T : List Ent) (k : Nat) : Array Value := #[.int .i64 (T.getD k (0, 0)).1, .int .i64 (T.getD k (0, 0)).2]

theorem untilN_all (t : Int) : ∀ T : List Ent, (∀ x ∈ T, x.2 ≤ t) → untilN t T = T.length
  | [], _ => rfl
  | x :: r, h => by
    unfold untilN
    rw [if_pos (h x List.mem_cons_self), untilN_all t r (fun y hy => h y (List.mem_cons_of_mem _ hy))]
    rfl

end Go.Proofs.Ytcipilggddpnpaa

/-
  What stays while a queue and another reference are turned: an iterator that was asked for earlier, a copy, the elder reference.
-/
namespace Go.Proofs.Ytcipilggddpnpaa
open Go.RowKit Go.Sort Go.Shelf Go.Maps
set_option linter.unusedVariables false
set_option linter.unusedSimpArgs false
attribute [local go_sem] Oper.semAt_some

theorem seqAt_kept {B c : Nat} {S : List K.Ent} {w w' : World} {T : Nat → Prop} (h : K.SeqAt B c S w) (k : Kept T w w') (ht : ∀ b o, T b → B ≤ b → w.heap[b]? = some o → tyOf o = some 48) : K.SeqAt B c S w' := by
  obtain ⟨hB, rv, hc, hr⟩ := h
  refine ⟨hB, rv, (k.block c (Array.getElem?_eq_some_iff.1 hc).1 (fun s => absurd (ht c _ s hB hc) (by show some _ ≠ some _; decide))).trans hc, ?_⟩
  rcases hr with hr | ⟨rb, cap, h1, h2, h3, h4⟩
  · exact .inl hr
  · refine .inr ⟨rb, cap, h1, h2, h3, h4.kept (k.block rb h4.lt (fun s => ?_))⟩
    obtain ⟨⟨cur, hcur, _⟩, _⟩ := h4
    exact absurd (ht rb _ s h1 hcur) (by show some _ ≠ some _; decide)

/-- What Until's iterator reads: All's, its own time. -/
structure UnR (Y : Nat) (W : World) (cu ct cb : Nat) (t : Int) (T : List Ent) : Prop where
  seq : K.SeqAt Y cb (T.map kN) W
  fn : W.heap[cu]? = some (.cells #[.func (.func 77) #[] #[.pointer (some ⟨cb, 0, none⟩)]] 93 (0, 0))
  num : W.heap[ct]? = some (.cells #[.int .i64 t] 3 (0, 0))
  base : Y ≤ cu ∧ Y ≤ ct
theorem UnR.kept {Y : Nat} {W W' : World} {cu ct cb : Nat} {t : Int} {T : List Ent} {S : Nat → Prop} (h : UnR Y W cu ct cb t T) (k : Kept S W W') (ht : ∀ b o, S b → Y ≤ b → W.heap[b]? = some o → tyOf o = some 48) : UnR Y W' cu ct cb t T :=
  ⟨seqAt_kept h.seq k ht,
   (k.block cu (Array.getElem?_eq_some_iff.1 h.fn).1 (fun s => absurd (ht cu _ s h.base.1 h.fn) (by show some _ ≠ some _; decide))).trans h.fn,
   (k.block ct (Array.getElem?_eq_some_iff.1 h.num).1 (fun s => absurd (ht ct _ s h.base.2 h.num) (by show some _ ≠ some _; decide))).trans h.num, h.base⟩
theorem UnR.lies {Y : Nat} {W W' : World} {cu ct cb : Nat} {t : Int} {T : List Ent} (h : UnR Y W cu ct cb t T) (b : Below W.heap.size W W') : UnR Y W' cu ct cb t T := h.kept (kept_lies (S := fun _ => False) b) (fun _ _ x => x.elim)
theorem UnR.own {Y : Nat} {W : World} {cu ct cb : Nat} {t : Int} {T : List Ent} (h : UnR Y W cu ct cb t T) (hl : T.length ≤ 1099511627776) :
    ∃ F, SeqOwn Try.prog 52 #[.pointer (some ⟨cu, 0, none⟩), .pointer (some ⟨ct, 0, none⟩)] (enU T) F 1 (untilN t T) W ∧ ∀ k, F k → Y ≤ k ∧ k < W.heap.size := by
  obtain ⟨rb, r1, r2, ho⟩ := until_own hl h.seq (Array.getElem?_eq_some_iff.1 h.fn).1 (by simp [World.cell?, h.fn]) h.num
  refine ⟨_, ho, fun k hk => ?_⟩
  rcases hk with rfl | rfl | rfl
  · obtain ⟨hB, rv, hcell, _⟩ := h.seq
    exact ⟨hB, (Array.getElem?_eq_some_iff.1 hcell).1⟩
  · exact ⟨r1, r2⟩
  · exact ⟨h.base.2, (Array.getElem?_eq_some_iff.1 h.num).1⟩

set_option maxHeartbeats 1000000 in
set_option maxRecDepth 20000 in
theorem quntil_raw {B : Nat} {w : World} {q : QB} {L T : List Ent} (h : Qs B w q L) (hT : T.Perm L) (hs : Sorted T) (hd : T.Pairwise (fun x y => x.1 ≠ y.1)) (hl : T.length < 1099511627776) (t : Int) :
    Calls Try.prog 20 #[.pointer (some ⟨q.qb, 0, none⟩), .int .i64 t] w fun E w' => ∃ cu ct cb, E = .returned (.func (.func 52) #[] #[.pointer (some ⟨cu, 0, none⟩), .pointer (some ⟨ct, 0, none⟩)]) ∧ UnR w.heap.size w' cu ct cb t T ∧ Kept (fun _ => False) w w' := by
  obtain ⟨W0, hW0⟩ : ∃ W0, w.alloc (.cells #[.int .i64 t] 3) = W0 := ⟨_, rfl⟩
  have g0 : Grew w W0 := by rw [← hW0]; exact (Grew.refl w).alloc _
  have b0 : W0.heap[w.heap.size]? = some (.cells #[.int .i64 t] 3 (0, 0)) := by rw [← hW0]; exact heap_alloc_new _ _
  have C1 := Lib.hid (fromFirst_any (h.grew g0))
  have C2 := Lib.hid (up_all ((h.grew g0).perm hT.symm).up hd hs)
  have H0 : Hid (Grew w W0 ∧ W0.heap[w.heap.size]? = some (.cells #[.int .i64 t] 3 (0, 0))) := ⟨g0, b0⟩
  have HW := Lib.hid hW0
  clear h hT hs hd g0 b0 hW0
  go_enter Try.func20, Try.ntmps20
  go_wp2_with fail
  rw [HW.out]
  refine C1.out.mono ?_
  rintro e W1' ⟨rfl, rfl⟩
  go_wp2_with fail
  refine C2.out.mono ?_
  rintro e W1 ⟨rfl, hseq, hk⟩
  obtain ⟨W3, hW3⟩ : ∃ W3, W1.alloc (.cells #[.func (.func 77) #[] #[.pointer (some ⟨W0.heap.size, 0, none⟩)]] 93) = W3 := ⟨_, rfl⟩
  have HF : Hid (UnR w.heap.size W3 W1.heap.size w.heap.size W0.heap.size t T ∧ Kept (fun _ => False) w W3) := by
    obtain ⟨g0, b0⟩ := H0.out
    have g3 : Grew W1 W3 := by rw [← hW3]; exact (Grew.refl W1).alloc _
    have e3 : W3.heap[W1.heap.size]? = some (.cells #[.func (.func 77) #[] #[.pointer (some ⟨W0.heap.size, 0, none⟩)]] 93 (0, 0)) := by rw [← hW3]; exact heap_alloc_new _ _
    have hlt : w.heap.size < W0.heap.size := (Array.getElem?_eq_some_iff.1 b0).1
    have b3 : W3.heap[w.heap.size]? = some (.cells #[.int .i64 t] 3 (0, 0)) := (g3.block (Nat.lt_of_lt_of_le hlt hk.size)).trans ((hk.block _ hlt (fun x => x)).trans b0)
    obtain ⟨hB, rv, hcell, hrv⟩ := seqAt_grew hseq g3
    refine ⟨⟨⟨g0.size, rv, hcell, ?_⟩, e3, b3, Nat.le_trans g0.size hk.size, Nat.le_refl _⟩, (g0.kept _).trans (hk.trans (g3.kept _))⟩
    rcases hrv with h | ⟨rb, cap, h1, h2⟩
    · exact .inl h
    · exact .inr ⟨rb, cap, Nat.le_trans g0.size h1, h2⟩
  have HW3 := Lib.hid hW3
  clear hseq hk C1 C2 H0 HW hW3
  go_wp2
  refine bodyPost_ret (v := .func (.func 52) #[] #[.pointer (some ⟨W1.heap.size, 0, none⟩), .pointer (some ⟨w.heap.size, 0, none⟩)]) (by simp [results, Try.f20, go_sem]) rfl ?_
  rw [HW3.out]
  exact ⟨_, _, _, rfl, HF.out.1, HF.out.2⟩

theorem refis_keptX {B : Nat} {w w' : World} {rf : Nat} {L : List Ent} {S : Nat → Prop} (h : RefIs B w rf L) (k : Kept S w w') (hs : ∀ b o, S b → w.heap[b]? = some o → b ≠ rf ∧ tyOf o ≠ some 37) : RefIs B w' rf L := by
  obtain ⟨a, cap, h1, h2⟩ := h
  refine ⟨a, cap, (k.block rf (Array.getElem?_eq_some_iff.1 h1).1 (fun s => (hs rf _ s h1).1 rfl)).trans h1, own_kept h2 (fun g e => ?_)⟩
  refine k.block g (own_lt h2 g e) (fun s => ?_)
  rcases h2.2 with ⟨e2, _⟩ | ⟨g', c, cur, e2, _, h3, _⟩
  · rw [e2] at e; cases e
  · rw [e2] at e
    cases e
    exact (hs _ _ s h3).2 rfl
theorem Pq.keptX {X : Nat} {W W' : World} {q : QB} {rf : Nat} {S : List Ent} {T : Nat → Prop} (h : Pq X W q rf S) (k : Kept T W W') (hq : ∀ b, q.own b → ¬ T b) (hr : ∀ b o, T b → W.heap[b]? = some o → b ≠ rf ∧ tyOf o ≠ some 37) : Pq X W' q rf S :=
  ⟨h.queue.kept k hq, refis_keptX h.ref k hr, h.sorted, h.diff, h.good, Nat.le_trans h.base k.size, h.rb⟩

/-- While both are turned: what is there, what has stayed since V. -/
structure Two4 (X : Nat) (q0 : QB) (ot : Nat) (V W : World) (m : Nat) (i : Nat) : Prop where
  here : ∃ q S, Pq X W q ot S ∧ q.qb = q0.qb ∧ S.length ≤ m + 20 * i ∧ ∀ k, q.turns k → q0.turns k ∨ V.heap.size ≤ k
  kept : Kept (fun k => q0.turns k ∨ k = ot) V W
  below : Below X V W
theorem Two4.does {X : Nat} {q0 : QB} {ot : Nat} {V W : World} {m i : Nat} (h : Two4 X q0 ot V W m i) (hX : X ≤ V.heap.size) (hi : m + 20 * i < 100000) (k t id : Int) (hx : Is64 id ∧ Is64 t) (l : List Ent) (a : Option Addr) (cap : Nat) (hk : KeysIn X W a l) (h20 : l.length ≤ 20) (hcap : l.length ≤ cap) :
    Calls Try.prog 19 #[.pointer (some ⟨q0.qb, 0, none⟩), .pointer (some ⟨ot, 0, none⟩), .agg #[.int .i64 k, .int .i64 t, .int .i64 id, .slice a l.length cap]] W fun E w' => E = .returned (.bool true) ∧ Two4 X q0 ot V w' m (i + 1) := by
  obtain ⟨⟨q, S, p, hq, hS, ht⟩, hk1, hb⟩ := h
  rw [← hq]
  refine (does4_any p (by omega) k t id hx a cap hk h20 hcap).mono ?_
  rintro E w' ⟨rfl, q', S', p', hq', hS', ⟨hb', hk'⟩, ht'⟩
  refine ⟨rfl, ⟨q', S', p', hq'.trans hq, by omega, fun j hj => ?_⟩, hk1.andThen hk' (fun j hj => ?_), hb.trans hb'⟩
  · rcases ht' j hj with h1 | h1
    · exact ht j h1
    · exact .inr (Nat.le_trans hk1.size h1)
  · rcases hj with hj | hj
    · rcases ht j hj with h1 | h1
      · exact .inl (.inl h1)
      · exact .inr h1
    · exact .inl (.inr hj)
end Go.Proofs.Ytcipilggddpnpaa

/-
  A row that a range's rounds fill, beyond blocks that the iterator has for itself; the reference's Until as a row.
-/
namespace Go.Proofs.Ytcipilggddpnpaa
open Go.RowKit Go.Sort Go.Shelf Go.Maps
set_option linter.unusedVariables false
set_option linter.unusedSimpArgs false

/-- Between two rounds: the first k lie in the row that block lb tells, from block B on; all else is as it was. -/
def LstJ (W1 : World) (B lb : Nat) (T : List Ent) (k : Nat) (W : World) : Prop :=
  ∃ a cap, W.heap[lb]? = some (.cells #[.slice a k cap] 46 (0, 0)) ∧ W.ownsRow B 37 2 (.slice a k cap) k (flatR (T.take k)) ∧ Kept (fun i => i = lb) W1 W
theorem lstJ_own {W1 : World} {B lb : Nat} {T : List Ent} (hl : lb < W1.heap.size) : OwnFrom W1.heap.size (LstJ W1 B lb T) := fun k A B' row hs hg hr => by
  obtain ⟨a, cap, h1, h2, h3⟩ := hs
  refine ⟨a, cap, (hg.block lb (Array.getElem?_eq_some_iff.1 h1).1 (fun e => by have := (hr lb e.symm).1; omega)).trans h1, ?_, h3.grown hg (fun i e => .inr (hr i e).1)⟩
  refine own_kept h2 (fun g e => hg.block g (own_lt h2 g e) (fun e2 => ?_))
  obtain ⟨_, o, ho, hc⟩ := hr g e2.symm
  obtain ⟨o', h4, h5⟩ := own_cellsAt h2 e
  rw [ho] at h4
  cases h4
  rw [hc] at h5
  cases h5
theorem LstJ.grew {W1 W W' : World} {B lb k : Nat} {T : List Ent} (h : LstJ W1 B lb T k W) (g : Grew W W') : LstJ W1 B lb T k W' := by
  obtain ⟨a, cap, h1, h2, h3⟩ := h
  exact ⟨a, cap, (g.block (Array.getElem?_eq_some_iff.1 h1).1).trans h1, own_kept h2 (fun b e => g.block (own_lt h2 b e)), h3.trans (g.kept _)⟩
theorem LstJ.next {W1 Wb w2 : World} {B lb k : Nat} {T : List Ent} {a : Option Addr} {cap : Nat} {v2 : Value} (hl : lb < B) (hB : W1.heap.size ≤ B) (hk : k < T.length)
    (h1 : Wb.heap[lb]? = some (.cells #[.slice a k cap] 46 (0, 0))) (h2 : Wb.ownsRow B 37 2 (.slice a k cap) k (flatR (T.take k))) (h3 : Kept (fun i => i = lb) W1 Wb) (o : Obj)
    (ho : w2.ownsRow B 37 2 v2 (k + 1) (flatR (T.take k) ++ [.int .i64 (T.getD k (0, 0)).2, .int .i64 (T.getD k (0, 0)).1])) (hg : (Wb.alloc o).grownBy w2 (Value.slice a k cap).ownBlock) :
    LstJ W1 B lb T (k + 1) (w2.setCell ⟨lb, 0, none⟩ v2) ∧ w2.cell? ⟨lb, 0, none⟩ = some (.slice a k cap) ∧ w2.frozen? ⟨lb, 0, none⟩ = false := by
  have hne : some lb ≠ (Value.slice a k cap).ownBlock := fun e => by have := own_block h2 lb e.symm; omega
  have hlb : lb < Wb.heap.size := (Array.getElem?_eq_some_iff.1 h1).1
  have e1 : w2.heap[lb]? = some (.cells #[.slice a k cap] 46 (0, 0)) := (hg.block lb (by simp; omega) hne).trans ((Below.heap_alloc _ _ _ hlb).trans h1)
  obtain ⟨a2, cap2, rfl⟩ := own_form ho
  refine ⟨⟨a2, cap2, ?_, ?_, ?_⟩, by simp [World.cell?, e1], by simp [World.frozen?, e1]⟩
  · simp [World.setCell, Array.getElem?_modify, e1]
  · have e : flatR (T.take k) ++ [Value.int .i64 (T.getD k (0, 0)).2, Value.int .i64 (T.getD k (0, 0)).1] = flatR (T.take (k + 1)) := by
      have : T.take (k + 1) = T.take k ++ [T.getD k (0, 0)] := by
        rw [List.take_add_one, List.getD_eq_getElem?_getD, List.getElem?_eq_getElem hk]; rfl
      rw [this, flatR_append]
      rfl
    rw [← e]
    exact own_kept ho (fun g eg => Below.heap_setCell _ _ _ _ (by have := own_block ho g eg; show g ≠ lb; omega))
  · exact (((h3.alloc o).grown hg (fun i e => .inr (Nat.le_trans hB (own_block h2 i e))))).setCell (.inl rfl) _
theorem LstJ.keeps {W1 Wb w2 : World} {B lb k : Nat} {T : List Ent} {a : Option Addr} {cap : Nat} {v2 : Value} (hl : lb < W1.heap.size) (hB : W1.heap.size ≤ B) (hb : B ≤ Wb.heap.size)
    (h2 : Wb.ownsRow B 37 2 (.slice a k cap) k (flatR (T.take k))) (h3 : Kept (fun i => i = lb) W1 Wb) (o : Obj) (hg : (Wb.alloc o).grownBy w2 (Value.slice a k cap).ownBlock) :
    KeepsFrom W1.heap.size Wb (w2.setCell ⟨lb, 0, none⟩ v2) ∧ ∀ i, i ≠ lb → i < B → (w2.setCell ⟨lb, 0, none⟩ v2).heap[i]? = Wb.heap[i]? := by
  have hz := hg.size
  have hz2 : (Wb.alloc o).heap.size = Wb.heap.size + 1 := by simp
  have h3s := h3.size
  refine ⟨⟨by rw [World.size_setCell]; omega, fun i o' hi ho hno => ?_⟩, fun i h1 h4 => ?_⟩
  · have hlt : i < Wb.heap.size := (Array.getElem?_eq_some_iff.1 ho).1
    rw [Below.heap_setCell _ _ _ _ (by show i ≠ lb; omega), hg.block i (by omega) (fun e => ?_), Below.heap_alloc _ _ _ hlt]
    · exact ho
    · obtain ⟨o2, e1, e2⟩ := own_cellsAt h2 e.symm
      rw [ho] at e1
      cases e1
      rw [hno] at e2
      cases e2
  · rw [Below.heap_setCell _ _ _ _ (by show i ≠ lb; omega), hg.block i (by omega) (fun e => by have := own_block h2 i e.symm; omega), Below.heap_alloc _ _ _ (by omega)]

set_option maxHeartbeats 2000000 in
set_option maxRecDepth 20000 in
theorem runtil4_any {X : Nat} {W : World} {rf : Nat} {S : List Ent} (h : RefIs X W rf S) (hg : ∀ x ∈ S, Is64 x.1 ∧ Is64 x.2) (hl : S.length < 1099511627776) (t : Int) :
    ∃ a cap, All4 X W a (untilN t S) (S.take (untilN t S)) ∧ ∀ w, Below W.heap.size W w → Calls Try.prog 26 #[.pointer (some ⟨rf, 0, none⟩), .int .i64 t] w fun E w' => E = .returned (.slice a (untilN t S) cap) ∧ w = w' := by
  obtain ⟨a, cap, hc0, hrow, hcap⟩ := refis_row h hg
  have hN := untilN_le t S
  refine ⟨a, cap, hrow.head hN, fun w b => ?_⟩
  have hc := keep1r hc0 b
  have hr2 := hrow.kept (kept_lies (S := fun _ => False) b) (fun _ _ x => x)
  have LT := Lib.hid (untilN_lt t S)
  have AT := Lib.hid (untilN_at t S)
  have HR : Hid (S.length ≤ cap ∧ ∀ i, i < S.length → ∃ g, a = some ⟨g, 0, none⟩ ∧ w.cell? ⟨g, i * 2, none⟩ = some (.int .i64 (S.getD i (0, 0)).2)) := by
    refine ⟨hcap, fun i hi => ?_⟩
    obtain ⟨g, e, _, _, k1, _⟩ := hr2.cell i hi
    exact ⟨g, e, k1⟩
  clear h hrow hr2 hc0 b hcap hg
  obtain ⟨len, hlen⟩ : ∃ len, S.length = len := ⟨_, rfl⟩
  obtain ⟨N, hNN⟩ : ∃ N, untilN t S = N := ⟨_, rfl⟩
  rw [hNN] at hN LT AT ⊢
  rw [hlen] at hN AT HR hc hl
  clear hlen hNN
  go_enter Try.func26, Try.ntmps26
  go_wp2_with fail
  go_loopg [5] N (fun gk s5 wr => ∃ i : Nat, s5 = .int .i64 i ∧ i ≤ N ∧ N - i ≤ gk ∧ wr = w)
  case atStart => exact ⟨0, rfl, Nat.zero_le _, Nat.le_refl _, rfl⟩
  case round =>
    obtain ⟨i, rfl, hi, hgk, rfl⟩ := hrel
    by_cases hlen : i < len
    · have t1 : decide ((i : Int) < (len : Int)) = true := decide_eq_true (by omega)
      have t2 : decide (i < len) = true := decide_eq_true hlen
      have t3 : (i : Int) < (len : Int) := by omega
      obtain ⟨g, rfl, c1⟩ := HR.out.2 i hlen
      by_cases hiN : i < N
      · have h3 := LT.out i hiN
        generalize (S.getD i (0, 0)).2 = tm at *
        have t4 : decide (tm ≤ t) = true := decide_eq_true h3
        clear h3
        go_wp2
        go_roundg (N - (i + 1))
        case measure => omega
        case rel => exact ⟨i + 1, by go_num, by omega, Nat.le_refl _, rfl⟩
      · obtain rfl : i = N := by omega
        have h3 := AT.out hlen
        generalize (S.getD i (0, 0)).2 = tm at *
        have t4 : decide (tm ≤ t) = false := decide_eq_false (by omega)
        have t5 : decide (i ≤ cap) = true := decide_eq_true (by have := HR.out.1; omega)
        have t6 : (i : Int) ≤ (cap : Int) := by have := HR.out.1; omega
        clear h3
        go_wp2
        go_ret
        exact ⟨rfl, rfl⟩
    · obtain rfl : i = len := by omega
      have hNi : N = i := by omega
      have t1 : decide ((i : Int) < (i : Int)) = false := decide_eq_false (by omega)
      have t2 : decide (i < i) = false := decide_eq_false (by omega)
      have t5 : decide (i ≤ cap) = true := decide_eq_true HR.out.1
      have t6 : (i : Int) ≤ (cap : Int) := by have := HR.out.1; omega
      go_wp2
      go_ret
      rw [hNi]
      exact ⟨rfl, rfl⟩
end Go.Proofs.Ytcipilggddpnpaa

/-
  ReadyParts: what stays while the queue goes on, with another reference beside it.
-/
namespace Go.Proofs.Ytcipilggddpnpaa
open Go.RowKit Go.Sort Go.Shelf Go.Maps
set_option linter.unusedVariables false
set_option linter.unusedSimpArgs false

def Two2 (W : World) (b : Nat) (x y : Int) : Prop := W.heap[b]? = some (.cells #[.int .i64 x, .int .i64 y] 41 (0, 0))
theorem Two2.lt {W : World} {b : Nat} {x y : Int} (h : Two2 W b x y) : b < W.heap.size := (Array.getElem?_eq_some_iff.1 h).1
theorem Two2.cells {W : World} {b : Nat} {x y : Int} (h : Two2 W b x y) : W.cell? ⟨b, 0, none⟩ = some (.int .i64 x) ∧ W.cell? ⟨b, 1, none⟩ = some (.int .i64 y) := by
  unfold Two2 at h
  exact ⟨by simp [World.cell?, h], by simp [World.cell?, h]⟩
theorem Two2.below {W W' : World} {b X : Nat} {x y : Int} (h : Two2 W b x y) (hb : Below X W W') (hX : b < X) : Two2 W' b x y := (hb.block b hX).trans h
theorem Two2.start (w : World) (x y : Int) : Below w.heap.size w (w.alloc (.cells #[.int .i64 x, .int .i64 y] 41)) ∧ Two2 (w.alloc (.cells #[.int .i64 x, .int .i64 y] 41)) w.heap.size x y := ⟨(Below.refl _ _).alloc (Nat.le_refl _) _, heap_alloc_new _ _⟩

theorem below_put4p {B : Nat} {w W : World} {D : Nat} {o : Obj} (h : Below B w W) (hD : B ≤ D) : Below B w (W.putObj D o) :=
  ⟨h.os, h.tape, h.output, by simp [World.putObj]; exact h.size, fun k hk => (World.putObj_heap_other (by omega)).trans (h.block k hk)⟩

/-- A copy beside the elder reference, the iterator, the row's box. -/
structure Sty4 (X Y lb : Nat) (W : World) (r : QB) (rf cu ct cb : Nat) (y : Int) (S : List Ent) : Prop where
  copy : Pq X W r rf S
  iter : UnR Y W cu ct cb y S
  box : W.heap[lb]? = some (.cells #[.slice none 0 0] 46 (0, 0))
theorem Sty4.kept {X Y lb : Nat} {W W' : World} {r : QB} {rf cu ct cb : Nat} {y : Int} {S : List Ent} {T : Nat → Prop} (h : Sty4 X Y lb W r rf cu ct cb y S) (k : Kept T W W')
    (h1 : ∀ b, r.own b → ¬ T b) (h2 : ∀ b o, T b → W.heap[b]? = some o → b ≠ rf ∧ tyOf o ≠ some 37) (h3 : ∀ b o, T b → Y ≤ b → W.heap[b]? = some o → tyOf o = some 48) (h4 : ¬ T lb) : Sty4 X Y lb W' r rf cu ct cb y S :=
  ⟨h.copy.keptX k h1 h2, h.iter.kept k h3, (k.block lb (Array.getElem?_eq_some_iff.1 h.box).1 h4).trans h.box⟩
theorem Sty4.lies {X Y lb : Nat} {W W' : World} {r : QB} {rf cu ct cb : Nat} {y : Int} {S : List Ent} (h : Sty4 X Y lb W r rf cu ct cb y S) (b : Below W.heap.size W W') : Sty4 X Y lb W' r rf cu ct cb y S :=
  h.kept (kept_lies (S := fun _ => False) b) (fun _ _ x => x) (fun _ _ x => x.elim) (fun _ _ x => x.elim) (fun x => x)
theorem Qs.fb_not {B : Nat} {W : World} {q : QB} {L : List Ent} (h : Qs B W q L) : ¬ q.turns q.fb := fun hm => by
  have hb := h.box
  unfold K.FBox at hb
  rcases hm with hm | hm
  · obtain ⟨ob, ho, ht⟩ := h.up.kinds q.fb hm
    rw [hb] at ho
    cases ho
    rcases ht with e | e | e <;> simp [tyOf] at e
  · obtain ⟨ob, ho, ht⟩ := h.down.kinds q.fb hm
    rw [hb] at ho
    cases ho
    rcases ht with e | e | e <;> simp [tyOf] at e
/-- The numbers of the blocks, in their order. -/
structure Num4 (X Y Z lb ot rf : Nat) (q r : QB) : Prop where
  own : ∀ k, q.own k → k < lb
  copy : ∀ b, r.own b → (Z ≤ b ∧ b < ot) ∨ b = q.fb
  ord : lb < Y ∧ Y ≤ Z ∧ Z ≤ ot ∧ rf < lb
theorem Sty4.beside {X Y Z lb ot : Nat} {V W : World} {q r : QB} {rf cu ct cb : Nat} {y : Int} {S S' : List Ent} (h : Sty4 X Y lb V r rf cu ct cb y S) (p : Pq X V q ot S') (k : Kept (fun k => q.turns k ∨ k = ot) V W) (n : Num4 X Y Z lb ot rf q r) : Sty4 X Y lb W r rf cu ct cb y S := by
  obtain ⟨o1, o2, o3, o4⟩ := n.ord
  obtain ⟨a', c', hot, _⟩ := p.ref
  have hfb := p.queue.fb_not
  refine h.kept k (fun b hb hs => ?_) (fun b o hs ho => ?_) (fun b o hs hY ho => ?_) (fun hs => ?_)
  · rcases hs with hs | rfl
    · have := n.own b (.inl hs)
      rcases n.copy b hb with e | rfl
      · omega
      · exact hfb hs
    · rcases n.copy b hb with e | e
      · omega
      · have := n.own b (.inr (.inr e))
        omega
  · rcases hs with hs | rfl
    · obtain ⟨ob, ho', e1, e2⟩ := p.queue.kindsR b (.inl hs)
      rw [ho] at ho'
      cases ho'
      refine ⟨fun e => ?_, e2⟩
      subst e
      obtain ⟨a2, c2, h2, _⟩ := h.copy.ref
      rw [ho] at h2
      cases h2
      exact e1 rfl
    · rw [hot] at ho
      cases ho
      exact ⟨by omega, by show some _ ≠ some _; decide⟩
  · rcases hs with hs | rfl
    · have := n.own b (.inl hs)
      omega
    · rw [hot] at ho
      cases ho
      rfl
  · rcases hs with hs | hs
    · have := n.own lb (.inl hs)
      omega
    · omega
/-- All three behind the range. -/
theorem Sty4.ranged {X Y Z lb ot : Nat} {V W W' : World} {q q' r : QB} {rf cu ct cb : Nat} {y : Int} {S S' : List Ent} (h : Sty4 X Y lb W r rf cu ct cb y S) (p : Pq X W q' ot S') (hq : q'.qb = q.qb) (ht : ∀ k, q'.turns k → q.turns k ∨ V.heap.size ≤ k) (hV : lb < V.heap.size) (k : Kept (fun i => i = lb) W W') (n : Num4 X Y Z lb ot rf q r) : Pq X W' r rf S ∧ Pq X W' q' ot S' := by
  obtain ⟨o1, o2, o3, o4⟩ := n.ord
  have hty : ∀ (b : Nat) (o : Obj) (rf : Nat), rf ≠ lb → b = lb → W.heap[b]? = some o → b ≠ rf ∧ tyOf o ≠ some 37 := fun b o rf hne e ho => by
    subst e
    rw [h.box] at ho
    cases ho
    exact ⟨fun e => hne e.symm, by show some _ ≠ some _; decide⟩
  refine ⟨h.copy.keptX k (fun b hb e => ?_) (fun b o e ho => hty b o rf (by omega) e ho), p.keptX k (fun b hb e => ?_) (fun b o e ho => hty b o ot (by omega) e ho)⟩
  · subst e
    rcases n.copy b hb with e | e
    · omega
    · have := n.own b (.inr (.inr e))
      omega
  · subst e
    rcases hb with hb | hb | hb
    · rcases ht b hb with e | e
      · have := n.own b (.inl e)
        omega
      · omega
    · have := n.own q.qb (.inr (.inl rfl))
      omega
    · have hbx := p.queue.box
      unfold K.FBox at hbx
      rw [← hb, h.box] at hbx
      simp at hbx
end Go.Proofs.Ytcipilggddpnpaa
