/-
  TimersSharp: its walk.
-/
import Derived.Test.YtegfkdcjejmmoaaTx1
import Derived.Test.YtegfkdcjejmmoaaIsRow
import Derived.Deep.LoopGhost
namespace Go.Proofs.Ytegfkdcjejmmoaa
open Go.RowKit Go.Shelf Go.Maps
set_option linter.unusedVariables false
set_option linter.unusedSimpArgs false

theorem armL_fresh {L : List Ent} {i z : Int} (h : ∀ x ∈ L, x.1 < i) : armL L (i, z) = (i, z) :: L := by
  unfold armL
  rw [filter_all (fun y hy => by have := h y hy; omega)]
/-- What is due at the first one's time is not late. -/
theorem due_sharp {L D Lc : List Ent} {x : Ent} {o' : Int} (hx : IsFirst L x) (h : DueI x.2 0 L D Lc o') (hl : ∀ y ∈ Lc, x.2 < y.2) : 0 < D.length ∧ D.length + Lc.length = L.length ∧ o' = 0 := by
  have hmem : x ∈ D ++ Lc := h.perm.mem_iff.1 hx.1
  have hD : x ∈ D := by
    rcases List.mem_append.1 hmem with e | e
    · exact e
    · have := hl x e
      omega
  have hlen := h.perm.length_eq
  rw [List.length_append] at hlen
  refine ⟨List.length_pos_of_mem hD, hlen.symm, ?_⟩
  have hall : ∀ y ∈ D, x.2 - y.2 = 0 := fun y hy => by
    have h1 := h.early y hy
    have hyL : y ∈ L := h.perm.mem_iff.2 (List.mem_append_left _ hy)
    by_cases e : y = x
    · subst e; omega
    · have := hx.2 y hyL e
      rw [ah_eq] at this
      simp only [decide_eq_true_eq] at this
      omega
  rw [h.worst]
  have : ∀ (R : List Ent), (∀ y ∈ R, x.2 - y.2 = 0) → R.foldl (fun m y => max m (x.2 - y.2)) 0 = 0 := by
    intro R
    induction R with
    | nil => intro _; rfl
    | cons y r ih =>
      intro hr
      rw [List.foldl_cons, hr y List.mem_cons_self]
      exact ih (fun u hu => hr u (List.mem_cons_of_mem _ hu))
  exact this D hall

set_option maxHeartbeats 1000000 in
theorem sharp_long (a : Option Addr) (len cap : Nat) (h : 60 < len) (w : World) :
    Calls Try.prog 10 #[.slice a len cap] w fun E w' => E = .returned (.bool true) ∧ Below w.heap.size w w' := by
  have CW := Lib.hid (fun W => awake5 W)
  have h1 : decide ((len : Int) > 60) = true := decide_eq_true (by omega)
  have h2 : decide (60 < len) = true := decide_eq_true h
  have h3 : decide (60 < (len : Int)) = true := decide_eq_true (by omega)
  go_enter Try.func10, Try.ntmps10
  go_wp2_with fail
  refine (CW.out _).mono ?_
  rintro E w1 ⟨rfl, b1⟩
  go_wp2
  go_ret
  exact ⟨rfl, b1⟩

set_option maxHeartbeats 4000000 in
set_option maxRecDepth 20000 in
theorem sharp_core (a : Option Addr) (cap : Nat) (ys : List Int) (hl : ys.length ≤ 60) (w : World) (hr : RowI w a ys) (h64 : ∀ z ∈ ys, Is64 z) :
    Calls Try.prog 10 #[.slice a ys.length cap] w fun E w' => E = .returned (.bool true) ∧ Below w.heap.size w w' := by
  have CW : ∀ W, Hid (Calls Try.prog 39 #[] W fun E w' => E = .returned (.bool true) ∧ Below W.heap.size W w') := fun W => awake5 W
  have C1 := Lib.hid (tnew_any w.heap.size w (Nat.le_refl _) 60 (by decide) (by decide))
  have HY : Hid (RowI w a ys ∧ ∀ z ∈ ys, Is64 z) := ⟨hr, h64⟩
  obtain ⟨len, hlen⟩ : ∃ len, ys.length = len := ⟨_, rfl⟩
  have HN := Lib.hid hlen
  rw [hlen] at hl ⊢
  clear hr h64 hlen
  have h1 : decide ((len : Int) > 60) = false := decide_eq_false (by omega)
  have h2 : decide (60 < len) = false := decide_eq_false (by omega)
  go_enter Try.func10, Try.ntmps10
  go_wp2_with fail
  refine C1.out.mono ?_
  rintro E w1 ⟨tb, q1, rfl, t1, g1, _, _⟩
  have T1 : Hid (∃ q L, Ts w.heap.size w1 tb q 60 0 0 L ∧ L.length = 0 ∧ (∀ x ∈ L, x.1 < ((0 : Nat) : Int)) ∧ Below w.heap.size w w1) := ⟨q1, [], t1, rfl, (fun x hx => by cases hx), g1.below⟩
  clear t1 g1 C1
  go_wp2_with fail
  go_loopg [5, 6] len (fun gk s5 s6 wr => ∃ i k : Nat, s5 = .int .i64 k ∧ s6 = .int .i64 i ∧ i ≤ len ∧ len - i ≤ gk ∧ k ≤ i ∧ Hid (∃ q L, Ts w.heap.size wr tb q 60 0 0 L ∧ L.length = k ∧ (∀ x ∈ L, x.1 < (i : Int)) ∧ Below w.heap.size w wr))
  case atStart => exact ⟨0, 0, rfl, rfl, Nat.zero_le _, Nat.le_refl _, Nat.le_refl _, T1⟩
  case round =>
    rename World => W2
    obtain ⟨i, k, rfl, rfl, hin, hgk, hki, HR⟩ := hrel
    clear T1
    by_cases hi : i < len
    · have hi' : decide ((i : Int) < (len : Int)) = true := decide_eq_true (by omega)
      have hi2 : decide (i < len) = true := decide_eq_true hi
      have hiz : (i : Int) < (len : Int) := by omega
      obtain ⟨q, L, hT, hk, hids, hb⟩ := HR.out
      rcases HY.out.1.next hb with hz | ⟨g, of, rfl, hg, hc⟩
      · rw [hz] at HN
        have := HN.out
        simp at this
        omega
      have hil : i < ys.length := by rw [HN.out]; exact hi
      have c1 := hc i hil
      have hz64 : Is64 (ys.getD i 0) := HY.out.2 _ (by rw [List.getD_eq_getElem?_getD, List.getElem?_eq_getElem hil]; exact List.getElem_mem hil)
      have H2 : Hid (Ts w.heap.size W2 tb q 60 0 0 L ∧ L.length = k ∧ (∀ x ∈ L, x.1 < (i : Int)) ∧ Below w.heap.size w W2) := ⟨hT, hk, hids, hb⟩
      clear hc hT hk hids hb HR
      generalize ys.getD i 0 = z at *
      by_cases hz : timeE z = 0
      · have CA := Lib.hid (tarm_ok H2.out.1 H2.out.2.2.2.size (i : Int) z (by omega) hz ⟨⟨by omega, by omega⟩, hz64⟩ (by have := H2.out.2.1; omega) (.inr (by have := H2.out.2.1; omega)))
        have H3 : Hid (∀ w' q', LeftQ w.heap.size W2 w' q q' (armL L ((i : Int), z)) → ∃ q L, Ts w.heap.size w' tb q 60 0 0 L ∧ L.length = k + 1 ∧ (∀ x ∈ L, x.1 < ((i + 1 : Nat) : Int)) ∧ Below w.heap.size w w') := fun w' q' l => by
          have t := H2.out.1.arm l (by omega) hz ⟨⟨by omega, by omega⟩, hz64⟩
          rw [armL_fresh H2.out.2.2.1] at t
          refine ⟨q', _, t, by rw [List.length_cons, H2.out.2.1], fun x hx => ?_, H2.out.2.2.2.trans (l.below H2.out.1.queue H2.out.2.2.2.size)⟩
          rcases List.mem_cons.1 hx with rfl | hx
          · show (i : Int) < _; omega
          · have := H2.out.2.2.1 x hx; omega
        clear hz hz64
        go_wp2_with fail
        refine CA.out.mono ?_
        rintro E w3 ⟨rfl, q3, l3⟩
        have H4 := Lib.hid (H3.out _ _ l3)
        clear l3 H3 CA H2
        go_wp2
        go_roundg (len - (i + 1))
        case measure => omega
        case rel => exact ⟨i + 1, k + 1, by go_num, by go_num, by omega, Nat.le_refl _, by omega, H4⟩
      · have CA := Lib.hid (tarm_bad (w := W2) (tb := tb) (i : Int) z (by omega) hz)
        have hne : (timeE z == 0) = false := by simpa using hz
        have H4 : Hid (∃ q L, Ts w.heap.size W2 tb q 60 0 0 L ∧ L.length = k ∧ (∀ x ∈ L, x.1 < ((i + 1 : Nat) : Int)) ∧ Below w.heap.size w W2) := ⟨q, L, H2.out.1, H2.out.2.1, fun x hx => by have := H2.out.2.2.1 x hx; omega, H2.out.2.2.2⟩
        clear hz hz64 H2
        generalize timeE z = r at *
        go_wp2_with fail
        refine CA.out.mono ?_
        rintro E w3 ⟨rfl, rfl⟩
        go_wp2
        go_roundg (len - (i + 1))
        case measure => omega
        case rel => exact ⟨i + 1, k, rfl, by go_num, by omega, Nat.le_refl _, by omega, H4⟩
    · obtain rfl : i = len := by omega
      have hi' : decide ((i : Int) < (i : Int)) = false := decide_eq_false (by omega)
      have hi2 : decide (i < i) = false := decide_eq_false (by omega)
      have T5 : Hid (∃ q L c, Ts w.heap.size W2 tb q 60 c 0 L ∧ L.length = k ∧ (∀ x ∈ L, c ≤ x.2) ∧ Below w.heap.size w W2) := by
        obtain ⟨q, L, hT, hk, hids, hb⟩ := HR.out
        exact ⟨q, L, 0, hT, hk, fun x hx => (timeE_may5 (hT.good x hx).1.2).1, hb⟩
      have hk60 : k ≤ 60 := by omega
      clear HR hgk hin hki
      go_wp2_with fail
      go_loopg [5, 7] 60 (fun gk s5 s7 wr => ∃ j k : Nat, s5 = .int .i64 k ∧ s7 = .int .i64 j ∧ j ≤ 60 ∧ 60 - j ≤ gk ∧ k + j ≤ 60 ∧ Hid (∃ q L c, Ts w.heap.size wr tb q 60 c 0 L ∧ L.length = k ∧ (∀ x ∈ L, c ≤ x.2) ∧ Below w.heap.size w wr))
      case atStart => exact ⟨0, k, rfl, rfl, Nat.zero_le _, Nat.le_refl _, by omega, T5⟩
      case round =>
        rename World => W5
        obtain ⟨j, k, rfl, rfl, hj, hgk, hkj, HR⟩ := hrel
        clear T5
        by_cases hgo : j < 60 ∧ 0 < k
        · obtain ⟨hj6, hk0⟩ := hgo
          have g1 : decide ((j : Int) < 60) = true := decide_eq_true (by omega)
          have g2 : decide ((k : Int) > 0) = true := decide_eq_true (by omega)
          have g3 : decide (0 < k) = true := decide_eq_true hk0
          have g4 : decide (0 < (k : Int)) = true := decide_eq_true (by omega)
          obtain ⟨q, L, c, hT, hk, hc, hb⟩ := HR.out
          obtain ⟨x, hx⟩ := has_first (L := L) (fun e => by rw [e] at hk; simp at hk; omega) hT.diff
          have CN := Lib.hid (tnext_any hT x hx)
          have ht := (hT.good x hx.1).1.2
          have CD : Hid (∀ W', Grew W5 W' → Calls Try.prog 47 #[.pointer (some ⟨tb, 0, none⟩), .int .i64 x.2] W' (DueP w.heap.size W' tb q 60 x.2 0 L)) := fun W' g => due_any (hT.grew g) x.2 ht (hc x hx.1) (by omega)
          have H6 : Hid (∀ W' w' (D Lc : List Ent) o', Grew W5 W' → Ts w.heap.size w' tb q 60 x.2 o' Lc → Kept (fun k => q.turns k ∨ k = tb) W' w' → DueI x.2 0 L D Lc o' → (∀ y ∈ Lc, x.2 < y.2) → 0 < D.length ∧ D.length + Lc.length = k ∧ ∃ q L c, Ts w.heap.size w' tb q 60 c 0 L ∧ L.length = Lc.length ∧ (∀ x ∈ L, c ≤ x.2) ∧ Below w.heap.size w w') := fun W' w' D Lc o' g t kp hd hlc => by
            obtain ⟨d1, d2, rfl⟩ := due_sharp hx hd hlc
            have tg := hT.grew g
            have b1 : Below w.heap.size w W' := hb.trans (g.below.mono hb.size)
            exact ⟨d1, by rw [d2, hk], q, Lc, x.2, t, rfl, fun y hy => by have := hlc y hy; omega, b1.trans (kp.below b1.size (fun k hk => by
              rcases hk with hk | rfl
              · exact tg.queue.from k (.inl hk)
              · exact tg.base))⟩
          clear hT hk hc hb hx ht HR
          generalize x.2 = at_ at *
          go_wp2_with fail
          refine CN.out.mono ?_
          rintro E w6 ⟨rfl, g6⟩
          have G6 := Lib.hid g6
          clear g6
          go_wp2_with fail
          refine (CD.out _ G6.out).mono ?_
          rintro E w7 ⟨D, Lc, o', ra, rc, rfl, hT, hR, hK, hD, hL⟩
          obtain ⟨d1, d2, d3⟩ := H6.out _ _ D Lc o' G6.out hT hK hD hL
          have D3 := Lib.hid d3
          clear hT hR hK hD hL d3 H6 CD CN
          generalize D.length = dl at *
          generalize Lc.length = ll at *
          have e1 : ((dl : Int) == 0) = false := by simp; omega
          have e2 : (dl == 0) = false := by simp; omega
          go_wp2
          go_roundg (60 - (j + 1))
          case measure => omega
          case rel => exact ⟨j + 1, ll, (by congr 1; omega), by go_num, by omega, Nat.le_refl _, by omega, D3⟩
        · obtain rfl : k = 0 := by omega
          by_cases hj6 : j < 60
          · have g1 : decide ((j : Int) < 60) = true := decide_eq_true (by omega)
            have g2 : decide (((0 : Nat) : Int) > 0) = false := rfl
            obtain ⟨q, L, c, hT, hk, hc, hb⟩ := HR.out
            obtain rfl : L = [] := List.length_eq_zero_iff.1 hk
            have CN := Lib.hid (tnext_nil hT)
            have H1 : Hid (∀ W', Grew W5 W' → Ts w.heap.size W' tb q 60 c 0 [] ∧ Below w.heap.size w W') := fun W' g => ⟨hT.grew g, hb.trans (g.below.mono hb.size)⟩
            clear hT hk hc hb HR
            go_wp2_with fail
            refine CN.out.mono ?_
            rintro E w7 ⟨rfl, g7⟩
            have H7 := Lib.hid (H1.out _ g7)
            clear g7 CN H1
            go_wp2_with fail
            refine (tworst_any H7.out.1).mono ?_
            rintro E w8 ⟨rfl, rfl⟩
            go_wp2_with fail
            refine (CW _).out.mono ?_
            rintro E w9 ⟨rfl, b9⟩
            go_wp2
            go_ret
            exact ⟨rfl, H7.out.2.trans (b9.mono H7.out.2.size)⟩
          · obtain rfl : j = 60 := by omega
            have g1 : decide (((60 : Nat) : Int) < 60) = false := rfl
            obtain ⟨q, L, c, hT, hk, hc, hb⟩ := HR.out
            obtain rfl : L = [] := List.length_eq_zero_iff.1 hk
            have CN := Lib.hid (tnext_nil hT)
            have H1 : Hid (∀ W', Grew W5 W' → Ts w.heap.size W' tb q 60 c 0 [] ∧ Below w.heap.size w W') := fun W' g => ⟨hT.grew g, hb.trans (g.below.mono hb.size)⟩
            clear hT hk hc hb HR
            go_wp2_with fail
            refine CN.out.mono ?_
            rintro E w7 ⟨rfl, g7⟩
            have H7 := Lib.hid (H1.out _ g7)
            clear g7 CN H1
            go_wp2_with fail
            refine (tworst_any H7.out.1).mono ?_
            rintro E w8 ⟨rfl, rfl⟩
            go_wp2_with fail
            refine (CW _).out.mono ?_
            rintro E w9 ⟨rfl, b9⟩
            go_wp2
            go_ret
            exact ⟨rfl, H7.out.2.trans (b9.mono H7.out.2.size)⟩

theorem walk_TimersSharp (a : Option Addr) (len cap : Nat) (zs : List Int) (w : World) (h : IsRow w a len cap zs) :
    Calls Try.prog 10 #[.slice a len cap] w fun E w' => E = .returned (.bool true) ∧ Below w.heap.size w w' := by
  by_cases hl : 60 < len
  · exact sharp_long a len cap hl w
  · obtain ⟨ys, rfl, h1, h2, h3⟩ := h.row
    exact sharp_core a cap ys (by omega) w h1 h2
end Go.Proofs.Ytegfkdcjejmmoaa
