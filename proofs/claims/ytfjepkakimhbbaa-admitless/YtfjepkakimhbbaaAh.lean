/-
  admit's law: the document's answer, and the law's own helpers.
-/
import Derived.Test.YtfjepkakimhbbaaAg
import Derived.Deep.LoopGhost
namespace Go.Proofs.Ytfjepkakimhbbaa
open Go.RowKit Go.Sort Go.Shelf Go.Maps
set_option linter.unusedVariables false
set_option linter.unusedSimpArgs false

theorem rrule_any (c k : Int) (w : World) :
    Calls Try.prog 12 #[.int .i64 c, .int .i64 k] w fun e w' => e = .returned (.bool (ruleE c k == 0)) ∧ w = w' := by
  by_cases h1 : 0 ≤ c
  · have h1' : decide (0 ≤ c) = true := decide_eq_true h1
    by_cases h2 : c ≤ 1048576
    · have h2' : decide (c ≤ 1048576) = true := decide_eq_true h2
      by_cases h3 : 1 ≤ k
      · have h3' : decide (1 ≤ k) = true := decide_eq_true h3
        by_cases h4 : k ≤ 16
        · have h4' : decide (k ≤ 16) = true := decide_eq_true h4
          have e : ruleE c k = 0 := if_neg (by omega)
          rw [e]
          go_enter Try.func12, Try.ntmps12
          go_wp2
          go_ret
          exact ⟨rfl, rfl⟩
        · have h4' : decide (k ≤ 16) = false := decide_eq_false h4
          have e : ruleE c k = 1 := if_pos (by omega)
          rw [e]
          go_enter Try.func12, Try.ntmps12
          go_wp2
          go_ret
          exact ⟨rfl, rfl⟩
      · have h3' : decide (1 ≤ k) = false := decide_eq_false h3
        have e : ruleE c k = 1 := if_pos (by omega)
        rw [e]
        go_enter Try.func12, Try.ntmps12
        go_wp2
        go_ret
        exact ⟨rfl, rfl⟩
    · have h2' : decide (c ≤ 1048576) = false := decide_eq_false h2
      have e : ruleE c k = 1 := if_pos (by omega)
      rw [e]
      go_enter Try.func12, Try.ntmps12
      go_wp2
      go_ret
      exact ⟨rfl, rfl⟩
  · have h1' : decide (0 ≤ c) = false := decide_eq_false h1
    have e : ruleE c k = 1 := if_pos (by omega)
    rw [e]
    go_enter Try.func12, Try.ntmps12
    go_wp2
    go_ret
    exact ⟨rfl, rfl⟩

theorem right_xyz (x y z : Int) (w : World) :
    Calls Try.prog 21 #[.agg #[.int .i64 x, .int .i64 y, .int .i64 z]] w fun e w' => e = .returned (.bool (okB (x, y, z))) ∧ Below w.heap.size w w' := by
  have B := fun o => (Below.refl w.heap.size w).alloc (Nat.le_refl _) o
  have bad : ¬ (1 ≤ x ∧ x ≤ y ∧ y ≤ z ∧ z ≤ 1073741824) → okB (x, y, z) = false := fun hn => by
    rcases Bool.eq_false_or_eq_true (okB (x, y, z)) with e | e
    · exact absurd (okB_may e) hn
    · exact e
  by_cases h1 : 1 ≤ x
  · have h1' : decide (1 ≤ x) = true := decide_eq_true h1
    by_cases h2 : x ≤ y
    · have h2' : decide (x ≤ y) = true := decide_eq_true h2
      by_cases h3 : y ≤ z
      · have h3' : decide (y ≤ z) = true := decide_eq_true h3
        by_cases h4 : z ≤ 1073741824
        · have h4' : decide (z ≤ 1073741824) = true := decide_eq_true h4
          rw [okB_of (p := (x, y, z)) ⟨h1, h2, h3, h4⟩]
          go_enter Try.func21, Try.ntmps21
          go_wp2
          go_ret
          exact ⟨rfl, B _⟩
        · have h4' : decide (z ≤ 1073741824) = false := decide_eq_false h4
          rw [bad (by omega)]
          go_enter Try.func21, Try.ntmps21
          go_wp2
          go_ret
          exact ⟨rfl, B _⟩
      · have h3' : decide (y ≤ z) = false := decide_eq_false h3
        rw [bad (by omega)]
        go_enter Try.func21, Try.ntmps21
        go_wp2
        go_ret
        exact ⟨rfl, B _⟩
    · have h2' : decide (x ≤ y) = false := decide_eq_false h2
      rw [bad (by omega)]
      go_enter Try.func21, Try.ntmps21
      go_wp2
      go_ret
      exact ⟨rfl, B _⟩
  · have h1' : decide (1 ≤ x) = false := decide_eq_false h1
    rw [bad (by omega)]
    go_enter Try.func21, Try.ntmps21
    go_wp2
    go_ret
    exact ⟨rfl, B _⟩

theorem upA_eq (h : Bool) {p : Pa} (hp : okB p = true) : upA h p = ((divQ p.1.toNat 1048576 (if h = true then p.2.1 else p.2.2).toNat true : Nat) : Int) := by
  have hm := okB_may hp
  have hc : checkE p.1 p.2.1 p.2.2 = 0 := by simpa [okB] using hp
  have ho := (ask_ok (h := h) hp).1
  obtain ⟨x, hx, hx1, hx2⟩ : ∃ x, (if h = true then p.2.1 else p.2.2) = x ∧ p.1 ≤ x ∧ x ≤ 1073741824 := ⟨_, rfl, by split <;> omega, by split <;> omega⟩
  have e : askR h p = divR p.1 1048576 x true := by
    unfold askR useR
    rw [if_pos hc, hx]
  rw [e] at ho
  rw [hx]
  unfold divR at ho
  rw [if_neg (by omega), if_neg (by omega)] at ho
  split at ho
  · exact ((congrArg Prod.fst ho).symm)
  · cases (congrArg Prod.snd ho)

theorem tdiv_nat (x y : Nat) : ((x : Nat) : Int).tdiv (y : Int) = ((x / y : Nat) : Int) := by
  rw [Int.tdiv_eq_ediv_of_nonneg (by omega)]
  exact (Int.natCast_ediv x y).symm
theorem nat_mulc (x c : Nat) : ((x : Nat) : Int) * ((c : Nat) : Int) = ((x * c : Nat) : Int) := (Int.natCast_mul x c).symm
set_option maxHeartbeats 1000000 in
theorem rup_any (a b : Nat) (hb : 0 < b) (hb1 : b ≤ 1073741824) (ha : a ≤ b) (w : World) :
    Calls Try.prog 33 #[.int .i64 (a : Int), .int .i64 (b : Int)] w fun e w' => e = .returned (.int .i64 ((divQ a 1048576 b true : Nat) : Int)) ∧ w = w' := by
  obtain ⟨v, hv⟩ : ∃ v, a * 1048576 / b = v := ⟨_, rfl⟩
  have m1 : a * 1048576 ≤ 1073741824 * 1048576 := Nat.mul_le_mul_right _ (by omega)
  have hvb : v * b ≤ a * 1048576 := by rw [← hv]; exact Nat.div_mul_le_self _ _
  have hv1 : v ≤ a * 1048576 := by rw [← hv]; exact Nat.div_le_self _ _
  have hk : ((b : Int) == 0) = false := by simp; omega
  have ed : ((a : Int) * 1048576).tdiv (b : Int) = (v : Int) := by
    rw [← hv]
    have := tdiv_nat (a * 1048576) b
    rwa [← nat_mulc a 1048576] at this
  have hz : ((v : Int) * (b : Int)) = ((v * b : Nat) : Int) := by rw [Int.natCast_mul]
  have ew : wrap64 ((v : Int) * (b : Int)) = ((v * b : Nat) : Int) := by rw [hz]; exact wrapA (by omega) (by omega)
  by_cases hlt : v * b < a * 1048576
  · have e1 : divQ a 1048576 b true = v + 1 := by rw [divQ_more a 1048576 b (by rw [hv]; omega), hv]
    rw [e1]
    have d1 : decide ((v : Int) * (b : Int) < (a : Int) * 1048576) = true := decide_eq_true (by rw [hz]; omega)
    have EW := Lib.hid ew
    clear hv e1 hz
    go_enter Try.func33, Try.ntmps33
    go_wp2
    go_ret
    exact ⟨rfl, rfl⟩
  · have e1 : divQ a 1048576 b true = v := by rw [divQ_exact a 1048576 b (by rw [hv]; omega), hv]
    rw [e1]
    have d1 : decide ((v : Int) * (b : Int) < (a : Int) * 1048576) = false := decide_eq_false (by rw [hz]; omega)
    have EW := Lib.hid ew
    clear hv e1 hz
    go_enter Try.func33, Try.ntmps33
    go_wp2
    go_ret
    exact ⟨rfl, rfl⟩

theorem rup_at (h : Bool) {p : Pa} (hp : okB p = true) (w : World) :
    Calls Try.prog 33 #[.int .i64 p.1, .int .i64 (if h = true then p.2.1 else p.2.2)] w fun e w' => e = .returned (.int .i64 (upA h p)) ∧ w = w' := by
  have hm := okB_may hp
  rw [upA_eq h hp]
  obtain ⟨x, hx, hx1, hx2⟩ : ∃ x, (if h = true then p.2.1 else p.2.2) = x ∧ p.1 ≤ x ∧ x ≤ 1073741824 := ⟨_, rfl, by split <;> omega, by split <;> omega⟩
  rw [hx]
  have k := rup_any p.1.toNat x.toNat (by omega) (by omega) (by omega) w
  rwa [Int.toNat_of_nonneg (by omega), Int.toNat_of_nonneg (by omega)] at k

theorem asks_ok (h : Bool) (x y z : Int) (hp : okB (x, y, z) = true) (w : World) :
    Calls Try.prog 23 #[.bool h, .agg #[.int .i64 x, .int .i64 y, .int .i64 z]] w fun e w' => e = .returned (.int .i64 (upA h (x, y, z))) ∧ Below w.heap.size w w' := by
  have B := fun o => (Below.refl w.heap.size w).alloc (Nat.le_refl _) o
  have C := fun W => rup_at h hp W
  cases h with
  | true =>
    have CA : Hid (∀ W, Calls Try.prog 33 #[.int .i64 x, .int .i64 y] W fun e w' => e = .returned (.int .i64 (upA true (x, y, z))) ∧ W = w') := C
    clear C
    generalize upA true (x, y, z) = u at *
    go_enter Try.func23, Try.ntmps23
    go_wp2_with fail
    refine (CA.out _).mono ?_
    rintro e w1 ⟨rfl, rfl⟩
    go_wp2
    go_ret
    exact ⟨rfl, B _⟩
  | false =>
    have CA : Hid (∀ W, Calls Try.prog 33 #[.int .i64 x, .int .i64 z] W fun e w' => e = .returned (.int .i64 (upA false (x, y, z))) ∧ W = w') := C
    clear C
    generalize upA false (x, y, z) = u at *
    go_enter Try.func23, Try.ntmps23
    go_wp2_with fail
    refine (CA.out _).mono ?_
    rintro e w1 ⟨rfl, rfl⟩
    go_wp2
    go_ret
    exact ⟨rfl, B _⟩

theorem rbound_any (h : Bool) (c k m : Int) (hr : ruleE c k = 0) (m0 : 0 ≤ m) (m1 : m ≤ 1048576) (w : World) :
    Calls Try.prog 16 #[.bool h, .int .i64 c, .int .i64 k, .int .i64 m] w fun e w' => e = .returned (.int .i64 (boundN h c k m)) ∧ w = w' := by
  obtain ⟨⟨a0, a1⟩, ⟨b0, b1⟩, d0, d1⟩ := bound_in hr m0 m1
  obtain ⟨⟨c0, c1⟩, k0, k1⟩ := ruleE_may hr
  have e1 : wrap64 (k * 1048576 - wrap64 ((k - 1) * m)) = k * 1048576 - (k - 1) * m := by
    rw [wrapA (x := (k - 1) * m) (by omega) (by omega), wrapA (by omega) (by omega)]
  have e2 : wrap64 (c * k) = c * k := wrapA (by omega) (by omega)
  have E1 := Lib.hid e1
  have E2 := Lib.hid e2
  clear e1 e2
  cases h with
  | true =>
    have e : boundN true c k m = k * 1048576 - (k - 1) * m := rfl
    rw [e]
    go_enter Try.func16, Try.ntmps16
    go_wp2
    go_ret
    exact ⟨by first | rfl | (rw [← E1.out]; rfl), rfl⟩
  | false =>
    have e : boundN false c k m = c * k := rfl
    rw [e]
    go_enter Try.func16, Try.ntmps16
    go_wp2
    go_ret
    exact ⟨by first | rfl | (rw [← E2.out]; rfl), rfl⟩

/-- What the document's Load answers. -/
def rloadR (h : Bool) (L : List Pa) : Int × Int × Bool := if allB L = true then (sumU h L, maxU h L, true) else (0, 0, false)

set_option maxHeartbeats 2000000 in
theorem rload_any (h : Bool) (a : Option Addr) (cap : Nat) (L : List Pa) (hl : L.length ≤ 1000) (w : World) (hp : PAt w a L) :
    Calls Try.prog 17 #[.bool h, .slice a L.length cap] w fun e w' => e = .returned (.tuple #[.int .i64 (rloadR h L).1, .int .i64 (rloadR h L).2.1, .bool (rloadR h L).2.2]) ∧ Below w.heap.size w w' := by
  obtain ⟨R, hR⟩ : ∃ R, rloadR h L = R := ⟨_, rfl⟩
  rw [hR]
  have HR0 := Lib.hid hR
  have HP := Lib.hid hp
  obtain ⟨n, hn⟩ : ∃ n, L.length = n := ⟨_, rfl⟩
  have HN := Lib.hid hn
  rw [hn] at hl ⊢
  clear hR hp hn
  go_enter Try.func17, Try.ntmps17
  go_wp2
  go_loopg [7, 8, 9, 10] n (fun gk s7 s8 s9 s10 wr => ∃ i : Nat, s7 = .int .i64 (sumU h (L.take i)) ∧ s8 = .int .i64 (maxU h (L.take i)) ∧ s9 = .int .i64 i ∧ i ≤ n ∧ n - i ≤ gk ∧ Hid (allB (L.take i) = true ∧ Below w.heap.size w wr))
  case atStart => exact ⟨0, rfl, rfl, rfl, Nat.zero_le _, Nat.le_refl _, rfl, Below.refl _ _⟩
  case round =>
    obtain ⟨i, rfl, rfl, rfl, hin, hgk, HR⟩ := hrel
    rename World => W1
    by_cases hi : i < n
    · have hi' : decide ((i : Int) < (n : Int)) = true := decide_eq_true (by omega)
      have hiz : (i : Int) < (n : Int) := by omega
      have q4 : IntKind.i64.wrap ((i : Int) + 1) = (i : Int) + 1 := by rw [IntKind.wrap_i64]; omega
      have hil : i < L.length := by rw [HN.out]; exact hi
      rcases HP.out.next HR.out.2 with h' | ⟨g, o, rfl, hg, hc⟩
      · omega
      obtain ⟨⟨e1, e2, e3⟩, hf⟩ := hc i hil
      have HI := Lib.hid (uIn h HR.out.1)
      have HT : Hid ((L.take i).length ≤ 1000) := by show _ ≤ _; rw [List.length_take]; omega
      have HG := Lib.hid hg
      obtain ⟨p, hpp⟩ : ∃ p, L.getD i p0 = p := ⟨_, rfl⟩
      have HPP := Lib.hid hpp
      rw [hpp] at e1 e2 e3
      clear hc hf hpp
      obtain ⟨x1, x2, x3⟩ := p
      dsimp only at e1 e2 e3
      have CR : Hid (∀ W, Calls Try.prog 21 #[.agg #[.int .i64 x1, .int .i64 x2, .int .i64 x3]] W fun e w' => e = .returned (.bool (okB (x1, x2, x3))) ∧ Below W.heap.size W w') := fun W => right_xyz x1 x2 x3 W
      cases ho : okB (x1, x2, x3) with
      | true =>
        rw [ho] at CR
        have CA : Hid (∀ W, Calls Try.prog 23 #[.bool h, .agg #[.int .i64 x1, .int .i64 x2, .int .i64 x3]] W fun e w' => e = .returned (.int .i64 (upA h (x1, x2, x3))) ∧ Below W.heap.size W w') := fun W => asks_ok h x1 x2 x3 ho W
        obtain ⟨_, u0, u1⟩ := ask_ok (h := h) ho
        have HA : Hid (allB (L.take (i + 1)) = true ∧ sumU h (L.take (i + 1)) = sumU h (L.take i) + upA h (x1, x2, x3) ∧ maxU h (L.take (i + 1)) = max (maxU h (L.take i)) (upA h (x1, x2, x3))) := by
          rw [take_snoc hil, allB_snoc, sumU_snoc, maxU_snoc, HR.out.1, HPP.out, ho]
          exact ⟨rfl, rfl, rfl⟩
        obtain ⟨⟨s0, s1⟩, ⟨m0, m1⟩, _⟩ := HI.out
        have ht := HT.out
        have s2 : sumU h (L.take i) ≤ 1048576000 := by omega
        clear s1 ht ho HPP HI HT hil
        have HS : Hid (∀ s m : Int, s = sumU h (L.take i) + upA h (x1, x2, x3) → m = max (maxU h (L.take i)) (upA h (x1, x2, x3)) → s = sumU h (L.take (i + 1)) ∧ m = maxU h (L.take (i + 1))) := fun s m e1 e2 => ⟨e1.trans HA.out.2.1.symm, e2.trans HA.out.2.2.symm⟩
        generalize upA h (x1, x2, x3) = u at *
        generalize sumU h (L.take i) = s at *
        generalize maxU h (L.take i) = m at *
        have hw : IntKind.i64.wrap (s + u) = s + u := by rw [IntKind.wrap_i64]; omega
        have hw2 : wrap64 (s + u) = s + u := wrapA (by omega) (by omega)
        go_wp2_with fail
        refine (CR.out _).mono ?_
        rintro e w2 ⟨rfl, b2⟩
        have f1 := (b2.cell (p := ⟨g, o + i * 3, none⟩) HG.out).trans e1
        have f2 := (b2.cell (p := ⟨g, o + i * 3 + 1, none⟩) HG.out).trans e2
        have f3 := (b2.cell (p := ⟨g, o + i * 3 + 2, none⟩) HG.out).trans e3
        go_wp2_with fail
        refine (CA.out _).mono ?_
        rintro e w3 ⟨rfl, b3⟩
        have HB : Hid (Below w.heap.size w w3) := by
          have q := HR.out.2.trans (b2.mono HR.out.2.size)
          exact q.trans (b3.mono q.size)
        clear f1 f2 f3 e1 e2 e3 b2 b3
        go_wp2
        go_roundg (n - (i + 1))
        case measure => omega
        exact ⟨i + 1, by rw [HA.out.2.1], by rw [HA.out.2.2], by go_num, by omega, by omega, HA.out.1, HB.out⟩
      | false =>
        rw [ho] at CR
        obtain rfl : R = (0, 0, false) := by
          rw [← HR0.out]
          unfold rloadR
          rw [if_neg]
          rw [allB_bad hil (by rw [HPP.out]; exact ho)]
          simp
        clear HPP HI HT ho hil HR0
        generalize sumU h (L.take i) = s at *
        generalize maxU h (L.take i) = m at *
        go_wp2_with fail
        refine (CR.out _).mono ?_
        rintro e w2 ⟨rfl, b2⟩
        go_wp2
        go_ret3
        exact ⟨rfl, HR.out.2.trans (b2.mono HR.out.2.size)⟩
    · obtain rfl : i = n := by omega
      have hi' : decide ((i : Int) < (i : Int)) = false := decide_eq_false (by omega)
      have et : L.take i = L := List.take_of_length_le (by rw [HN.out]; exact Nat.le_refl _)
      obtain ⟨ha, hb⟩ := HR.out
      rw [et] at ha ⊢
      have er : rloadR h L = (sumU h L, maxU h L, true) := if_pos ha
      obtain ⟨s, hs⟩ : ∃ s, sumU h L = s := ⟨_, rfl⟩
      obtain ⟨m, hm⟩ : ∃ m, maxU h L = m := ⟨_, rfl⟩
      rw [hs, hm] at er ⊢
      obtain rfl : R = (s, m, true) := HR0.out.symm.trans er
      have HB := Lib.hid hb
      clear hb ha HR HR0 er et hs hm
      go_wp2
      go_ret3
      exact ⟨rfl, HB.out⟩
end Go.Proofs.Ytfjepkakimhbbaa
