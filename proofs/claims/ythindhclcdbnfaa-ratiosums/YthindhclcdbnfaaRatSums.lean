/-
  The walk of RatioSums.
-/
import Derived.Test.YthindhclcdbnfaaRatV
import Derived.Test.YthindhclcdbnfaaRatC
import Derived.Test.YthindhclcdbnfaaIsRow
namespace Go.Proofs.Ythindhclcdbnfaa
open Go.RowKit
set_option linter.unusedVariables false

def negs (l : List Int) : Bool := l.any (fun z => decide (z < 0))
theorem negs_take (zs : List Int) (k : Nat) (hk : k < zs.length) : negs (zs.take (k + 1)) = (negs (zs.take k) || decide (zs.getD k 0 < 0)) := by
  unfold negs
  rw [List.take_add_one, List.any_append, List.getD_eq_getElem?_getD, List.getElem?_eq_getElem hk]
  simp
theorem go_drop (zs : List Int) (k : Nat) (s m : Int) (hk : k < zs.length) :
    sumsGo s m (zs.drop k) = if zs.getD k 0 < 0 then (0, 0, 10) else if s + zs.getD k 0 ≤ 9223372036854775807 then sumsGo (s + zs.getD k 0) (max m (zs.getD k 0)) (zs.drop (k + 1)) else (0, 0, 11) := by
  rw [List.drop_eq_getElem_cons hk, List.getD_eq_getElem?_getD, List.getElem?_eq_getElem hk]
  rfl
/-- Without one below 0 both sums tell the same. -/
theorem go_sum : ∀ (l : List Int) (s m : Int), negs l = false → 0 ≤ s → sumR s l = ((sumsGo s m l).1, (sumsGo s m l).2.2)
  | [], s, m, _, _ => rfl
  | x :: l, s, m, h, hs => by
    unfold negs at h
    rw [List.any_cons, Bool.or_eq_false_iff] at h
    have hx : ¬ x < 0 := by simpa using h.1
    show (if -9223372036854775808 ≤ s + x ∧ s + x ≤ 9223372036854775807 then sumR (s + x) l else (0, 11)) = ((if x < 0 then (0, 0, 10) else if s + x ≤ 9223372036854775807 then sumsGo (s + x) (max m x) l else (0, 0, 11)).1, (if x < 0 then (0, 0, 10) else if s + x ≤ 9223372036854775807 then sumsGo (s + x) (max m x) l else (0, 0, 11)).2.2)
    rw [if_neg hx]
    by_cases hf : s + x ≤ 9223372036854775807
    · rw [if_pos ⟨by omega, hf⟩, if_pos hf]
      exact go_sum l (s + x) (max m x) h.2 (by omega)
    · rw [if_neg (by omega), if_neg hf]

/-- What the law's own loop has told behind k numbers. -/
def LawSt (zs : List Int) (k : Nat) (sum top want : Int) (below : Bool) : Prop :=
  below = negs (zs.take k) ∧ ((want = 0 ∧ below = false ∧ sumsGo 0 0 zs = sumsGo sum top (zs.drop k)) ∨ (want ≠ 0 ∧ sumsGo 0 0 zs = (0, 0, want)))
theorem LawSt.start (zs : List Int) : LawSt zs 0 0 0 0 false := ⟨rfl, .inl ⟨rfl, rfl, rfl⟩⟩
theorem LawSt.on {zs : List Int} {k : Nat} {sum top want : Int} {below : Bool} (h : LawSt zs k sum top want below) (hk : k < zs.length) (hw : want ≠ 0) : LawSt zs (k + 1) sum top want (below || decide (zs.getD k 0 < 0)) := by
  refine ⟨by rw [negs_take zs k hk, h.1], .inr ⟨hw, ?_⟩⟩
  rcases h.2 with ⟨e, _⟩ | ⟨_, e⟩
  · exact absurd e hw
  · exact e
theorem LawSt.neg {zs : List Int} {k : Nat} {sum top : Int} {below : Bool} (h : LawSt zs k sum top 0 below) (hk : k < zs.length) (hx : zs.getD k 0 < 0) : LawSt zs (k + 1) sum top 10 true := by
  refine ⟨by rw [negs_take zs k hk]; simp only [hx, decide_true, Bool.or_true], .inr ⟨by decide, ?_⟩⟩
  rcases h.2 with ⟨_, _, e⟩ | ⟨e, _⟩
  · rw [e, go_drop zs k sum top hk, if_pos hx]
  · exact absurd rfl e
theorem LawSt.over {zs : List Int} {k : Nat} {sum top : Int} {below : Bool} (h : LawSt zs k sum top 0 below) (hk : k < zs.length) (hx : ¬ zs.getD k 0 < 0) (hf : ¬ sum + zs.getD k 0 ≤ 9223372036854775807) : LawSt zs (k + 1) sum top 11 false := by
  rcases h.2 with ⟨_, b, e⟩ | ⟨e, _⟩
  · refine ⟨by rw [negs_take zs k hk, ← h.1, b, decide_eq_false hx]; rfl, .inr ⟨by decide, ?_⟩⟩
    rw [e, go_drop zs k sum top hk, if_neg hx, if_neg hf]
  · exact absurd rfl e
theorem LawSt.fit {zs : List Int} {k : Nat} {sum top : Int} {below : Bool} (h : LawSt zs k sum top 0 below) (hk : k < zs.length) (hx : ¬ zs.getD k 0 < 0) (hf : sum + zs.getD k 0 ≤ 9223372036854775807) : LawSt zs (k + 1) (sum + zs.getD k 0) (max top (zs.getD k 0)) 0 false := by
  rcases h.2 with ⟨_, b, e⟩ | ⟨e, _⟩
  · refine ⟨by rw [negs_take zs k hk, ← h.1, b, decide_eq_false hx]; rfl, .inl ⟨rfl, rfl, ?_⟩⟩
    rw [e, go_drop zs k sum top hk, if_neg hx, if_pos hf]
  · exact absurd rfl e
/-- What the law's loop has told at its end. -/
theorem LawSt.done {zs : List Int} {sum top want : Int} {below : Bool} (h : LawSt zs zs.length sum top want below) :
    (want = 0 ∧ below = false ∧ rsumR zs = (sum, 0) ∧ sumsGo 0 0 zs = (sum, top, 0)) ∨ (want ≠ 0 ∧ below = true ∧ rsumR zs = (0, 10) ∧ sumsGo 0 0 zs = (0, 0, want)) ∨ (want ≠ 0 ∧ below = false ∧ rsumR zs = (0, want) ∧ sumsGo 0 0 zs = (0, 0, want)) := by
  obtain ⟨hb, h⟩ := h
  rw [List.take_length] at hb
  have hr : ∀ g, below = false → sumsGo 0 0 zs = g → rsumR zs = (g.1, g.2.2) := fun g e eg => by
    rw [hb] at e
    have := go_sum zs 0 0 e (by omega)
    rw [eg] at this
    unfold rsumR
    unfold negs at e
    rw [if_neg (by rw [e]; decide)]
    exact this
  rcases h with ⟨hw, b, e⟩ | ⟨hw, e⟩
  · rw [List.drop_length] at e
    exact .inl ⟨hw, b, hr _ b e, e⟩
  · cases below with
    | true =>
      refine .inr (.inl ⟨hw, rfl, ?_, e⟩)
      unfold rsumR
      unfold negs at hb
      exact if_pos hb.symm
    | false => exact .inr (.inr ⟨hw, rfl, hr _ rfl e, e⟩)

theorem rsums_long (a : Option Addr) (n cap : Nat) (hn : 60 < n) (hn2 : n ≤ 9223372036854775807) (cA : AwC) (w : World) :
    Calls Try.prog 5 #[.slice a n cap] w fun E w' => E = .returned (.bool true) ∧ Below w.heap.size w w' := by
  have h1 : decide ((60 : Int) < (n : Int)) = true := by simp; omega
  go_enter Try.func5, Try.ntmps5
  go_wp2_with (go_at_call 14; refine (Hid.out cA _).mono ?_; rintro E w1 ⟨rfl, b1⟩)
  go_ret
  exact ⟨rfl, b1⟩

set_option maxRecDepth 20000 in
set_option maxHeartbeats 2000000 in
theorem rsums_core (a : Option Addr) (zs : List Int) (n cap : Nat) (r1 r2 g1 g2 g3 : Int) (HN : Hid (zs.length = n)) (HR : Hid (rsumR zs = (r1, r2))) (HG : Hid (sumsGo 0 0 zs = (g1, g2, g3))) (HZ : Hid (∀ z ∈ zs, Is64 z)) (hn : n ≤ 60)
    (c1 : Hid (∀ W, RowI W a zs → Calls Try.prog 19 #[.slice a n cap] W fun E w' => E = .returned (.tuple #[.int .i64 r1, .int .i64 r2]) ∧ W = w'))
    (c2 : Hid (∀ W, Calls Try.prog 21 #[.slice a n cap] W fun E w' => E = .returned (.func (.func 28) #[] #[.pointer (some ⟨W.heap.size, 0, none⟩)]) ∧ w' = W.alloc (.cells #[.slice a n cap] 35)))
    (c3 : Hid (∀ Bs W, Bs < W.heap.size → W.cell? ⟨Bs, 0, none⟩ = some (.slice a n cap) → RowI W a zs → Calls Try.prog 20 #[.func (.func 28) #[] #[.pointer (some ⟨Bs, 0, none⟩)]] W fun E w' => E = .returned (.tuple #[.int .i64 g1, .int .i64 g2, .int .i64 g3]) ∧ Below W.heap.size W w'))
    (c4 : Hid (∀ W, Calls Try.prog 20 #[.nilFunc] W fun E w' => E = .returned (.tuple #[.int .i64 0, .int .i64 0, .int .i64 0]) ∧ Below W.heap.size W w')) (cA : AwC) (w : World) (HI : Hid (RowI w a zs)) :
    Calls Try.prog 5 #[.slice a n cap] w fun E w' => E = .returned (.bool true) ∧ Below w.heap.size w w' := by
  have h60 : decide ((60 : Int) < (n : Int)) = false := by simp; omega
  go_enter Try.func5, Try.ntmps5
  go_wp2_with fail
  refine (c1.out _ HI.out).mono ?_
  rintro E w' ⟨rfl, rfl⟩
  go_wp2_with fail
  refine (c2.out _).mono ?_
  rintro E w2 ⟨rfl, hw2⟩
  have B2 : Hid (Below w.heap.size w w2) := by rw [hw2]; exact (Below.refl _ _).alloc (Nat.le_refl _) _
  have s2 : Hid (w.heap.size < w2.heap.size) := by rw [hw2]; show _ < _; simp
  have e2 : Hid (w2.cell? ⟨w.heap.size, 0, none⟩ = some (.slice a n cap)) := by rw [hw2]; show _ = _; simp [go_sem]
  clear hw2
  go_wp2_with fail
  refine (c3.out _ _ s2.out e2.out (HI.out.next B2.out)).mono ?_
  rintro E w3 ⟨rfl, b3⟩
  have B3 := Lib.hid (B2.out.trans (b3.mono B2.out.size))
  clear b3 s2 e2 B2
  go_wp2_with fail
  refine (c4.out _).mono ?_
  rintro E w4 ⟨rfl, b4⟩
  have B4 := Lib.hid (B3.out.trans (b4.mono B3.out.size))
  have HI4 := Lib.hid (HI.out.next B4.out)
  clear b4 B3 c1 c2 c3 c4 HI
  go_wp2_with fail
  go_loop [11, 12, 13, 14, 15] (fun s t wn b i => ∃ (k : Nat) (sum top want : Int) (below : Bool), k ≤ n ∧ 0 ≤ sum ∧ sum ≤ 9223372036854775807 ∧ 0 ≤ top ∧ top ≤ 9223372036854775807 ∧ s = .int .i64 sum ∧ t = .int .i64 top ∧ wn = .int .i64 want ∧ b = .bool below ∧ i = .int .i64 k ∧ Hid (LawSt zs k sum top want below)) (fun _ _ _ _ i => n - (intOf i).toNat)
  case atStart => exact ⟨0, 0, 0, 0, false, by omega, by omega, by omega, by omega, by omega, rfl, rfl, rfl, rfl, rfl, LawSt.start zs⟩
  case round =>
    obtain ⟨k, sum, top, want, below, hk, s0, s1, t0, t1, rfl, rfl, rfl, rfl, rfl, HS⟩ := hrel
    by_cases hlt : k < n
    · have hlt' : k < zs.length := by rw [HN.out]; exact hlt
      obtain ⟨hm0, hm1⟩ := HZ.out (zs.getD k 0) (by rw [List.getD_eq_getElem?_getD, List.getElem?_eq_getElem hlt']; exact List.getElem_mem _)
      obtain ⟨g, o, rfl, hc⟩ : ∃ g o, a = some ⟨g, o, none⟩ ∧ w4.cell? ⟨g, o + k, none⟩ = some (.int .i64 (zs.getD k 0)) := by
        rcases HI4.out with h | ⟨g, o, ha, _, hc⟩
        · rw [h] at hlt'; exact absurd hlt' (by simp)
        · exact ⟨g, o, ha, hc k hlt'⟩
      by_cases hw : want = 0
      · subst hw
        have hbf : below = false := by
          rcases HS.out.2 with ⟨_, b, _⟩ | ⟨e, _⟩
          · exact b
          · exact absurd rfl e
        subst hbf
        by_cases hx : zs.getD k 0 < 0
        · have HE := Lib.hid (HS.out.neg hlt' hx)
          clear HS hlt' HI4
          generalize zs.getD k 0 = x at *
          have hx' : decide (x < 0) = true := by simpa using hx
          go_wp2
          exact ⟨⟨k + 1, sum, top, 10, true, by omega, s0, s1, t0, t1, rfl, rfl, rfl, rfl, by go_num, HE⟩, by simp [intOf]; omega⟩
        · by_cases hf : sum + zs.getD k 0 ≤ 9223372036854775807
          · have HE := Lib.hid (HS.out.fit hlt' hx hf)
            clear HS hlt' HI4
            generalize zs.getD k 0 = x at *
            have hx' : decide (x < 0) = false := by simpa using hx
            have hf' : decide (9223372036854775807 - x < sum) = false := by simp; omega
            go_wp2
            exact ⟨⟨k + 1, sum + x, max top x, 0, false, by omega, by omega, by omega, by omega, by omega, rfl, rfl, rfl, rfl, by go_num, HE⟩, by simp [intOf]; omega⟩
          · have HE := Lib.hid (HS.out.over hlt' hx hf)
            clear HS hlt' HI4
            generalize zs.getD k 0 = x at *
            have hx' : decide (x < 0) = false := by simpa using hx
            have hf' : decide (9223372036854775807 - x < sum) = true := by simp; omega
            go_wp2
            exact ⟨⟨k + 1, sum, top, 11, false, by omega, s0, s1, t0, t1, rfl, rfl, rfl, rfl, by go_num, HE⟩, by simp [intOf]; omega⟩
      · have HE := Lib.hid (HS.out.on hlt' hw)
        clear HS hlt' HI4
        generalize zs.getD k 0 = x at *
        have hw' : (want != 0) = true := by simp [hw]
        cases below with
        | true =>
          go_wp2
          exact ⟨⟨k + 1, sum, top, want, true, by omega, s0, s1, t0, t1, rfl, rfl, rfl, rfl, by go_num, HE⟩, by simp [intOf]; omega⟩
        | false =>
          go_wp2
          exact ⟨⟨k + 1, sum, top, want, decide (x < 0), by omega, s0, s1, t0, t1, rfl, rfl, rfl, rfl, by go_num, HE⟩, by simp [intOf]; omega⟩
    · obtain rfl : k = n := by omega
      have hd : LawSt zs zs.length sum top want below := by rw [HN.out]; exact HS.out
      clear HS HI4 HZ
      have hr := HR.out
      have hg := HG.out
      rcases hd.done with ⟨rfl, rfl, e1, e2⟩ | ⟨hw, rfl, e1, e2⟩ | ⟨hw, rfl, e1, e2⟩
      · rw [e1, Prod.mk.injEq] at hr
        rw [e2, Prod.mk.injEq, Prod.mk.injEq] at hg
        obtain ⟨rfl, rfl⟩ := hr
        obtain ⟨rfl, rfl, rfl⟩ := hg
        clear hd e1 e2 HR HG
        go_wp2_with fail
        refine (Hid.out cA _).mono ?_
        rintro E w5 ⟨rfl, b5⟩
        go_wp2
        go_ret
        exact ⟨rfl, B4.out.trans (b5.mono B4.out.size)⟩
      · rw [e1, Prod.mk.injEq] at hr
        rw [e2, Prod.mk.injEq, Prod.mk.injEq] at hg
        obtain ⟨rfl, rfl⟩ := hr
        obtain ⟨rfl, rfl, rfl⟩ := hg
        have hw' : (want != 0) = true := by simp [hw]
        clear hd e1 e2 HR HG
        go_wp2_with fail
        refine (Hid.out cA _).mono ?_
        rintro E w5 ⟨rfl, b5⟩
        go_wp2
        go_ret
        exact ⟨rfl, B4.out.trans (b5.mono B4.out.size)⟩
      · rw [e1, Prod.mk.injEq] at hr
        rw [e2, Prod.mk.injEq, Prod.mk.injEq] at hg
        obtain ⟨rfl, rfl⟩ := hr
        obtain ⟨rfl, rfl, rfl⟩ := hg
        have hw' : (want != 0) = true := by simp [hw]
        clear hd e1 e2 HR HG
        go_wp2_with fail
        refine (Hid.out cA _).mono ?_
        rintro E w5 ⟨rfl, b5⟩
        go_wp2
        go_ret
        exact ⟨rfl, B4.out.trans (b5.mono B4.out.size)⟩

theorem walk_RatioSums (a : Option Addr) (len cap : Nat) (zs : List Int) (w : World) (h : IsRow w a len cap zs) :
    Calls Try.prog 5 #[.slice a len cap] w fun E w' => E = .returned (.bool true) ∧ Below w.heap.size w w' := by
  obtain ⟨ys, rfl, hr, hz, hl⟩ := h.row
  by_cases h60 : 60 < ys.length
  · exact rsums_long a ys.length cap h60 hl awC w
  · exact rsums_core a ys ys.length cap (rsumR ys).1 (rsumR ys).2 (sumsGo 0 0 ys).1 (sumsGo 0 0 ys).2.1 (sumsGo 0 0 ys).2.2 (Lib.hid rfl) (Lib.hid rfl) (Lib.hid rfl) (Lib.hid hz) (by omega)
      (Lib.hid fun W hW => rsum_any a ys cap W hW hz (by omega)) (Lib.hid fun W => of_ret a ys.length cap W) (Lib.hid fun Bs W hB hC hW => sums_any Bs a cap ys hz (by omega) W hB hC hW) (Lib.hid fun W => sums_nil W) awC w (Lib.hid hr)
end Go.Proofs.Ythindhclcdbnfaa
