/-
  The walk of RatioParts.
-/
import Derived.Test.YthindhclcdbnfaaRatC
namespace Go.Proofs.Ythindhclcdbnfaa
open Go.RowKit
set_option linter.unusedVariables false

set_option maxRecDepth 20000 in
theorem rparts_out (r s t u : Int) (h : r < 0 ∨ s < 0 ∨ t < 0 ∨ u < 0 ∨ 4194304 < r ∨ 4194304 < s ∨ 1099511627776 < t ∨ 1099511627776 < u) (cA : AwC) (w : World) :
    Calls Try.prog 7 #[.agg #[.int .i64 r, .int .i64 s], .agg #[.int .i64 t, .int .i64 u]] w fun E w' => E = .returned (.bool true) ∧ Below w.heap.size w w' := by
  by_cases h0 : r < 0
  · have h0' : decide (r < 0) = true := by simpa using h0
    clear h
    go_enter Try.func7, Try.ntmps7
    go_wp2_with (go_at_call 14; refine (Hid.out cA _).mono ?_; rintro E w1 ⟨rfl, b1⟩)
    go_ret
    exact ⟨rfl, below_alloc (below_alloc b1)⟩
  have h0' : decide (r < 0) = false := by simpa using h0
  by_cases h1 : s < 0
  · have h1' : decide (s < 0) = true := by simpa using h1
    clear h
    go_enter Try.func7, Try.ntmps7
    go_wp2_with (go_at_call 14; refine (Hid.out cA _).mono ?_; rintro E w1 ⟨rfl, b1⟩)
    go_ret
    exact ⟨rfl, below_alloc (below_alloc b1)⟩
  have h1' : decide (s < 0) = false := by simpa using h1
  by_cases h2 : t < 0
  · have h2' : decide (t < 0) = true := by simpa using h2
    clear h
    go_enter Try.func7, Try.ntmps7
    go_wp2_with (go_at_call 14; refine (Hid.out cA _).mono ?_; rintro E w1 ⟨rfl, b1⟩)
    go_ret
    exact ⟨rfl, below_alloc (below_alloc b1)⟩
  have h2' : decide (t < 0) = false := by simpa using h2
  by_cases h3 : u < 0
  · have h3' : decide (u < 0) = true := by simpa using h3
    clear h
    go_enter Try.func7, Try.ntmps7
    go_wp2_with (go_at_call 14; refine (Hid.out cA _).mono ?_; rintro E w1 ⟨rfl, b1⟩)
    go_ret
    exact ⟨rfl, below_alloc (below_alloc b1)⟩
  have h3' : decide (u < 0) = false := by simpa using h3
  by_cases h4 : 4194304 < r
  · have h4' : decide (4194304 < r) = true := by simpa using h4
    clear h
    go_enter Try.func7, Try.ntmps7
    go_wp2_with (go_at_call 14; refine (Hid.out cA _).mono ?_; rintro E w1 ⟨rfl, b1⟩)
    go_ret
    exact ⟨rfl, below_alloc (below_alloc b1)⟩
  have h4' : decide (4194304 < r) = false := by simpa using h4
  by_cases h5 : 4194304 < s
  · have h5' : decide (4194304 < s) = true := by simpa using h5
    clear h
    go_enter Try.func7, Try.ntmps7
    go_wp2_with (go_at_call 14; refine (Hid.out cA _).mono ?_; rintro E w1 ⟨rfl, b1⟩)
    go_ret
    exact ⟨rfl, below_alloc (below_alloc b1)⟩
  have h5' : decide (4194304 < s) = false := by simpa using h5
  by_cases h6 : 1099511627776 < t
  · have h6' : decide (1099511627776 < t) = true := by simpa using h6
    clear h
    go_enter Try.func7, Try.ntmps7
    go_wp2_with (go_at_call 14; refine (Hid.out cA _).mono ?_; rintro E w1 ⟨rfl, b1⟩)
    go_ret
    exact ⟨rfl, below_alloc (below_alloc b1)⟩
  have h6' : decide (1099511627776 < t) = false := by simpa using h6
  have h7' : decide (1099511627776 < u) = true := by simp; omega
  clear h h0 h1 h2 h3 h4 h5 h6
  go_enter Try.func7, Try.ntmps7
  go_wp2_with (go_at_call 14; refine (Hid.out cA _).mono ?_; rintro E w1 ⟨rfl, b1⟩)
  go_ret
  exact ⟨rfl, below_alloc (below_alloc b1)⟩

set_option maxRecDepth 20000 in
set_option maxHeartbeats 2000000 in
theorem rparts_core (r s t u fa fb fc fd fx ga gb gc gd gx : Int) (r0 : 0 ≤ r) (r1 : r ≤ 4194304) (s0 : 0 ≤ s) (s1 : s ≤ 4194304) (t0 : 0 ≤ t) (t1 : t ≤ 1099511627776) (u0 : 0 ≤ u) (u1 : u ≤ 1099511627776)
    (zfa : 0 ≤ fa ∧ fa ≤ 17592186044416) (zfb : 0 ≤ fb ∧ fb ≤ 17592186044416) (zfc : 0 ≤ fc ∧ fc ≤ 17592186044416) (zfd : 0 ≤ fd ∧ fd ≤ 17592186044416) (zfx : 0 ≤ fx ∧ fx ≤ 17592186044416) (zga : 0 ≤ ga ∧ ga ≤ 17592186044416) (zgb : 0 ≤ gb ∧ gb ≤ 17592186044416) (zgc : 0 ≤ gc ∧ gc ≤ 17592186044416) (zgd : 0 ≤ gd ∧ gd ≤ 17592186044416) (zgx : 0 ≤ gx ∧ gx ≤ 17592186044416)
    (f1 : fa + fb ≤ fc) (f2 : fa + fd ≤ fx) (f3 : fc - 1 ≤ fa + fb) (f4 : fx - 1 ≤ fa + fd)
    (k1 : gc ≤ ga + gb) (k2 : gx ≤ ga + gd) (k3 : ga + gb ≤ gc + 1) (k4 : ga + gd ≤ gx + 1)
    (cf1 : RatC 12 #[.int .i64 r, .int .i64 t, .bool false] fa) (cf2 : RatC 12 #[.int .i64 s, .int .i64 t, .bool false] fb) (cf3 : RatC 12 #[.int .i64 (r + s), .int .i64 t, .bool false] fc) (cf4 : RatC 12 #[.int .i64 r, .int .i64 u, .bool false] fd) (cf5 : RatC 12 #[.int .i64 r, .int .i64 (t + u), .bool false] fx)
    (cg1 : RatC 12 #[.int .i64 r, .int .i64 t, .bool true] ga) (cg2 : RatC 12 #[.int .i64 s, .int .i64 t, .bool true] gb) (cg3 : RatC 12 #[.int .i64 (r + s), .int .i64 t, .bool true] gc) (cg4 : RatC 12 #[.int .i64 r, .int .i64 u, .bool true] gd) (cg5 : RatC 12 #[.int .i64 r, .int .i64 (t + u), .bool true] gx) (cA : AwC) (w : World) :
    Calls Try.prog 7 #[.agg #[.int .i64 r, .int .i64 s], .agg #[.int .i64 t, .int .i64 u]] w fun E w' => E = .returned (.bool true) ∧ Below w.heap.size w w' := by
  have g0 : decide (r < 0) = false := by simp; omega
  have g1 : decide (s < 0) = false := by simp; omega
  have g2 : decide (t < 0) = false := by simp; omega
  have g3 : decide (u < 0) = false := by simp; omega
  have g4 : decide (4194304 < r) = false := by simp; omega
  have g5 : decide (4194304 < s) = false := by simp; omega
  have g6 : decide (1099511627776 < t) = false := by simp; omega
  have g7 : decide (1099511627776 < u) = false := by simp; omega
  obtain ⟨lfa, mfa⟩ := zfa
  obtain ⟨lfb, mfb⟩ := zfb
  obtain ⟨lfc, mfc⟩ := zfc
  obtain ⟨lfd, mfd⟩ := zfd
  obtain ⟨lfx, mfx⟩ := zfx
  obtain ⟨lga, mga⟩ := zga
  obtain ⟨lgb, mgb⟩ := zgb
  obtain ⟨lgc, mgc⟩ := zgc
  obtain ⟨lgd, mgd⟩ := zgd
  obtain ⟨lgx, mgx⟩ := zgx
  have F1 : decide (fc < fa + fb) = false := by simp; omega
  have F2 : decide (fx < fa + fd) = false := by simp; omega
  have F3 : decide (fa + fb < fc - 1) = false := by simp; omega
  have F4 : decide (fa + fd < fx - 1) = false := by simp; omega
  have K1 : decide (ga + gb < gc) = false := by simp; omega
  have K2 : decide (ga + gd < gx) = false := by simp; omega
  have K3 : decide (gc + 1 < ga + gb) = false := by simp; omega
  have K4 : decide (gx + 1 < ga + gd) = false := by simp; omega
  clear f1 f2 f3 f4 k1 k2 k3 k4
  go_enter Try.func7, Try.ntmps7
  go_wp2_with fail
  go_loopw [9] (fun i wr => ∃ k : Nat, k ≤ 2 ∧ i = .int .i64 k ∧ Hid (Below w.heap.size w wr)) (fun i _ => 2 - (intOf i).toNat)
  case atStart => exact ⟨0, by omega, rfl, ((Below.refl _ _).alloc (Nat.le_refl _) _).alloc (by simp) _⟩
  case round =>
    obtain ⟨k, hk, rfl, HB⟩ := hrel
    obtain rfl | rfl | rfl : k = 0 ∨ k = 1 ∨ k = 2 := by omega
    · go_wp2_with fail
      refine (Hid.out cf1 _).mono ?_
      rintro E w1 ⟨rfl, d1⟩
      go_wp2_with fail
      refine (Hid.out cf2 _).mono ?_
      rintro E w2 ⟨rfl, d2⟩
      go_wp2_with fail
      refine (Hid.out cf3 _).mono ?_
      rintro E w3 ⟨rfl, d3⟩
      go_wp2_with fail
      refine (Hid.out cf4 _).mono ?_
      rintro E w4 ⟨rfl, d4⟩
      go_wp2_with fail
      refine (Hid.out cf5 _).mono ?_
      rintro E w5 ⟨rfl, d5⟩
      clear cg1 cg2 cg3 cg4 cg5 lga lgb lgc lgd lgx mga mgb mgc mgd mgx K1 K2 K3 K4 r0 r1 s0 s1 t0 t1 u0 u1 g0 g1 g2 g3 g4 g5 g6 g7 cf1 cf2 cf3 cf4 cf5
      go_upto_region 18 with fail
      simp only [List.append_eq, List.cons_append, List.nil_append]
      go_wp2
      have q1 := HB.out.trans (d1.mono HB.out.size)
      have q2 := q1.trans (d2.mono q1.size)
      have q3 := q2.trans (d3.mono q2.size)
      have q4 := q3.trans (d4.mono q3.size)
      have q5 := q4.trans (d5.mono q4.size)
      exact ⟨⟨1, by omega, by go_num, q5⟩, by simp [intOf]⟩
    · go_wp2_with fail
      refine (Hid.out cg1 _).mono ?_
      rintro E w1 ⟨rfl, d1⟩
      go_wp2_with fail
      refine (Hid.out cg2 _).mono ?_
      rintro E w2 ⟨rfl, d2⟩
      go_wp2_with fail
      refine (Hid.out cg3 _).mono ?_
      rintro E w3 ⟨rfl, d3⟩
      go_wp2_with fail
      refine (Hid.out cg4 _).mono ?_
      rintro E w4 ⟨rfl, d4⟩
      go_wp2_with fail
      refine (Hid.out cg5 _).mono ?_
      rintro E w5 ⟨rfl, d5⟩
      clear cf1 cf2 cf3 cf4 cf5 lfa lfb lfc lfd lfx mfa mfb mfc mfd mfx F1 F2 F3 F4 r0 r1 s0 s1 t0 t1 u0 u1 g0 g1 g2 g3 g4 g5 g6 g7 cg1 cg2 cg3 cg4 cg5
      go_upto_region 18 with fail
      simp only [List.append_eq, List.cons_append, List.nil_append]
      go_wp2
      have q1 := HB.out.trans (d1.mono HB.out.size)
      have q2 := q1.trans (d2.mono q1.size)
      have q3 := q2.trans (d3.mono q2.size)
      have q4 := q3.trans (d4.mono q3.size)
      have q5 := q4.trans (d5.mono q4.size)
      exact ⟨⟨2, by omega, by go_num, q5⟩, by simp [intOf]⟩
    · go_wp2_with fail
      refine (Hid.out cA _).mono ?_
      rintro E w1 ⟨rfl, d1⟩
      go_wp2
      go_ret
      exact ⟨rfl, HB.out.trans (d1.mono HB.out.size)⟩

/-- What the parts of two are next to the part of the sum: up. -/
theorem parts_up {P Q a b c : Nat} (hP : P ≤ a * 1048576 ∧ a * 1048576 < P + 1048576) (hQ : Q ≤ b * 1048576 ∧ b * 1048576 < Q + 1048576) (hS : P + Q ≤ c * 1048576 ∧ c * 1048576 < P + Q + 1048576) : c ≤ a + b ∧ a + b ≤ c + 1 := by omega
theorem parts_down {P Q a b c : Nat} (hP : a * 1048576 ≤ P ∧ P < a * 1048576 + 1048576) (hQ : b * 1048576 ≤ Q ∧ Q < b * 1048576 + 1048576) (hS : c * 1048576 ≤ P + Q ∧ P + Q < c * 1048576 + 1048576) : a + b ≤ c ∧ c ≤ a + b + 1 := by omega
theorem part_le {r t a : Nat} (hr : r ≤ 8388608) (ht : t ≤ 2199023255552) (h : a * 1048576 < r * t + 1048576) : a ≤ 17592186044416 := by
  have : r * t ≤ 8388608 * 2199023255552 := Nat.mul_le_mul hr ht
  omega
theorem pack_up (r t : Nat) (hr : r ≤ 8388608) (ht : t ≤ 2199023255552) : ∃ a, divQ r t 1048576 true = a ∧ (r * t ≤ a * 1048576 ∧ a * 1048576 < r * t + 1048576) ∧ a ≤ 17592186044416 := by
  have h := divQ_up (a := r) (b := t) (c := 1048576) (by omega)
  exact ⟨_, rfl, h, part_le hr ht h.2⟩
theorem pack_down (r t : Nat) (hr : r ≤ 8388608) (ht : t ≤ 2199023255552) : ∃ a, divQ r t 1048576 false = a ∧ (a * 1048576 ≤ r * t ∧ r * t < a * 1048576 + 1048576) ∧ a ≤ 17592186044416 := by
  have h := divQ_down_le (P := r * t) (c := 1048576) (by omega)
  rw [← divQ_down] at h
  exact ⟨_, rfl, h, part_le hr ht (by omega)⟩

theorem walk_RatioParts (r s t u : Int) (w : World) (hr : -9223372036854775808 ≤ r ∧ r ≤ 9223372036854775807) (hs : -9223372036854775808 ≤ s ∧ s ≤ 9223372036854775807) (ht : -9223372036854775808 ≤ t ∧ t ≤ 9223372036854775807) (hu : -9223372036854775808 ≤ u ∧ u ≤ 9223372036854775807) :
    Calls Try.prog 7 #[.agg #[.int .i64 r, .int .i64 s], .agg #[.int .i64 t, .int .i64 u]] w fun E w' => E = .returned (.bool true) ∧ Below w.heap.size w w' := by
  by_cases h : r < 0 ∨ s < 0 ∨ t < 0 ∨ u < 0 ∨ 4194304 < r ∨ 4194304 < s ∨ 1099511627776 < t ∨ 1099511627776 < u
  · exact rparts_out r s t u h awC w
  obtain ⟨r, rfl⟩ := Int.eq_ofNat_of_zero_le (by omega : 0 ≤ r)
  obtain ⟨s, rfl⟩ := Int.eq_ofNat_of_zero_le (by omega : 0 ≤ s)
  obtain ⟨t, rfl⟩ := Int.eq_ofNat_of_zero_le (by omega : 0 ≤ t)
  obtain ⟨u, rfl⟩ := Int.eq_ofNat_of_zero_le (by omega : 0 ≤ u)
  have r1 : r ≤ 4194304 := by omega
  have s1 : s ≤ 4194304 := by omega
  have t1 : t ≤ 1099511627776 := by omega
  have u1 : u ≤ 1099511627776 := by omega
  clear h hr hs ht hu
  obtain ⟨fa, efa, Ifa, Bfa⟩ := pack_down r t (by omega) (by omega)
  obtain ⟨fb, efb, Ifb, Bfb⟩ := pack_down s t (by omega) (by omega)
  obtain ⟨fc, efc, Ifc, Bfc⟩ := pack_down (r + s) t (by omega) (by omega)
  obtain ⟨fd, efd, Ifd, Bfd⟩ := pack_down r u (by omega) (by omega)
  obtain ⟨fx, efx, Ifx, Bfx⟩ := pack_down r (t + u) (by omega) (by omega)
  obtain ⟨ga, ega, Iga, Bga⟩ := pack_up r t (by omega) (by omega)
  obtain ⟨gb, egb, Igb, Bgb⟩ := pack_up s t (by omega) (by omega)
  obtain ⟨gc, egc, Igc, Bgc⟩ := pack_up (r + s) t (by omega) (by omega)
  obtain ⟨gd, egd, Igd, Bgd⟩ := pack_up r u (by omega) (by omega)
  obtain ⟨gx, egx, Igx, Bgx⟩ := pack_up r (t + u) (by omega) (by omega)
  rw [Nat.add_mul] at Ifc Igc
  rw [Nat.mul_add] at Ifx Igx
  have D1 := parts_down Ifa Ifb Ifc
  have D2 := parts_down Ifa Ifd Ifx
  have U1 := parts_up Iga Igb Igc
  have U2 := parts_up Iga Igd Igx
  clear Ifa Ifb Ifc Ifd Ifx Iga Igb Igc Igd Igx
  have e3 : (r : Int) + (s : Int) = ((r + s : Nat) : Int) := by omega
  have e4 : (t : Int) + (u : Int) = ((t + u : Nat) : Int) := by omega
  exact rparts_core r s t u fa fb fc fd fx ga gb gc gd gx (by omega) (by omega) (by omega) (by omega) (by omega) (by omega) (by omega) (by omega)
    ⟨by omega, by omega⟩ ⟨by omega, by omega⟩ ⟨by omega, by omega⟩ ⟨by omega, by omega⟩ ⟨by omega, by omega⟩ ⟨by omega, by omega⟩ ⟨by omega, by omega⟩ ⟨by omega, by omega⟩ ⟨by omega, by omega⟩ ⟨by omega, by omega⟩
    (by omega) (by omega) (by omega) (by omega) (by omega) (by omega) (by omega) (by omega)
    (partC r t fa false (by omega) (by omega) efa (by omega)) (partC s t fb false (by omega) (by omega) efb (by omega)) (by rw [e3]; exact partC (r + s) t fc false (by omega) (by omega) efc (by omega)) (partC r u fd false (by omega) (by omega) efd (by omega)) (by rw [e4]; exact partC r (t + u) fx false (by omega) (by omega) efx (by omega))
    (partC r t ga true (by omega) (by omega) ega (by omega)) (partC s t gb true (by omega) (by omega) egb (by omega)) (by rw [e3]; exact partC (r + s) t gc true (by omega) (by omega) egc (by omega)) (partC r u gd true (by omega) (by omega) egd (by omega)) (by rw [e4]; exact partC r (t + u) gx true (by omega) (by omega) egx (by omega)) awC w
end Go.Proofs.Ythindhclcdbnfaa
