/-
  HeapTurns: the law's walk.
-/
import Derived.Test.YtdmdebelcklfhaaOpsI
import Derived.Test.YtdmdebelcklfhaaAlk
namespace Go.Proofs.Ytdmdebelcklfhaa
open Go.RowKit Go.Sort Go.Shelf Go.Maps
set_option linter.unusedVariables false
set_option linter.unusedSimpArgs false

theorem Hs.lower {B B' : Nat} {w : World} {hb mb : Nat} {ro : Option Nat} {C : List Ent} (h : Hs B w hb mb ro C) (hB : B' ≤ B) : Hs B' w hb mb ro C := by
  obtain ⟨R, h1, h2, h3, h4⟩ := h
  exact ⟨R, h1, h2, h3, fun k hk => Nat.le_trans hB (h4 k hk)⟩
theorem KeyAt.keptH {B : Nat} {W W' : World} {hb mb xb : Nat} {ro : Option Nat} {C : List Ent} {y x : Int} (h : KeyAt W xb y x) (hh : Hs B W hb mb ro C) (k : Kept (Mine hb mb ro) W W') : KeyAt W' xb y x := by
  refine (k.block xb h.lt (fun hm => ?_)).trans h
  obtain ⟨o, ho, ht⟩ := hh.kinds xb hm
  unfold KeyAt at h
  rw [h] at ho
  cases ho
  rcases ht with e | e | e <;> simp [tyOf] at e

/-- Three heaps, apart from one another, and a key. -/
structure Tri (w : World) (xb : Nat) (y x : Int) (hh mh ha ma hb mb : Nat) (L Ca Cb : List Ent) (W : World) : Prop where
  heaps : ∃ rh ra rb, Hs w.heap.size W hh mh rh L ∧ Hs w.heap.size W ha ma ra Ca ∧ Hs w.heap.size W hb mb rb Cb ∧ Apart hh mh rh ha ma ra ∧ Apart hh mh rh hb mb rb ∧ Apart ha ma ra hb mb rb
  key : KeyAt W xb y x
  below : Below w.heap.size w W

section
variable {w W : World} {xb : Nat} {y x : Int} {hh mh ha ma hb mb : Nat} {L Ca Cb : List Ent}

/-- A call on the second heap. -/
theorem Tri.callA {f : Nat} {args : Array Value} {v : Value} {C' : List Ent} (h : Tri w xb y x hh mh ha ma hb mb L Ca Cb W)
    (hc : ∀ ra, Hs w.heap.size W ha ma ra Ca → w.heap.size ≤ W.heap.size → Calls Try.prog f args W fun e w' => e = .returned v ∧ ∃ ra', Left w.heap.size W w' ha ma ra ra' C') :
    Calls Try.prog f args W fun e w' => e = .returned v ∧ Tri w xb y x hh mh ha ma hb mb L C' Cb w' := by
  obtain ⟨⟨rh, ra, rb, h1, h2, h3, a1, a2, a3⟩, hk, hbl⟩ := h
  refine (hc ra h2 hbl.size).mono ?_
  rintro e w' ⟨rfl, ra', l⟩
  obtain ⟨p1, p2⟩ := l.apart a1.symm h1
  obtain ⟨p3, p4⟩ := l.apart a3 h3
  exact ⟨rfl, ⟨rh, ra', rb, p1, l.heap, p3, p2.symm, a2, p4⟩, hk.keptH h2 l.kept, hbl.trans (l.below h2 hbl.size)⟩
/-- .. on the third one. -/
theorem Tri.callB {f : Nat} {args : Array Value} {v : Value} {C' : List Ent} (h : Tri w xb y x hh mh ha ma hb mb L Ca Cb W)
    (hc : ∀ rb, Hs w.heap.size W hb mb rb Cb → w.heap.size ≤ W.heap.size → Calls Try.prog f args W fun e w' => e = .returned v ∧ ∃ rb', Left w.heap.size W w' hb mb rb rb' C') :
    Calls Try.prog f args W fun e w' => e = .returned v ∧ Tri w xb y x hh mh ha ma hb mb L Ca C' w' := by
  obtain ⟨⟨rh, ra, rb, h1, h2, h3, a1, a2, a3⟩, hk, hbl⟩ := h
  refine (hc rb h3 hbl.size).mono ?_
  rintro e w' ⟨rfl, rb', l⟩
  obtain ⟨p1, p2⟩ := l.apart a2.symm h1
  obtain ⟨p3, p4⟩ := l.apart a3.symm h2
  exact ⟨rfl, ⟨rh, ra, rb', p1, p3, l.heap, a1, p2.symm, p4.symm⟩, hk.keptH h3 l.kept, hbl.trans (l.below h3 hbl.size)⟩
theorem Tri.keep {W' : World} (h : Tri w xb y x hh mh ha ma hb mb L Ca Cb W) (k : Kept (fun _ => False) W W') : Tri w xb y x hh mh ha ma hb mb L Ca Cb W' := by
  obtain ⟨⟨rh, ra, rb, h1, h2, h3, a⟩, hk, hbl⟩ := h
  exact ⟨⟨rh, ra, rb, h1.kept k (fun _ _ x => x), h2.kept k (fun _ _ x => x), h3.kept k (fun _ _ x => x), a⟩, (k.block xb hk.lt (fun x => x)).trans hk, hbl.trans (k.below hbl.size (fun _ x => x.elim))⟩
theorem Tri.alikeA (h : Tri w xb y x hh mh ha ma hb mb L Ca Cb W) (hp : Ca.Perm L) (hd : Diff L) (hl : L.length ≤ 1099511627776) :
    Calls Try.prog 23 #[.pointer (some ⟨ha, 0, none⟩), .pointer (some ⟨hh, 0, none⟩)] W fun e w' => e = .returned (.bool true) ∧ Tri w xb y x hh mh ha ma hb mb L Ca Cb w' := by
  have h' := h
  obtain ⟨⟨rh, ra, rb, h1, h2, h3, a⟩, hk, hbl⟩ := h
  refine (alike_any _ _ W ha ma hh mh ra rh L (h2.perm hp) h1 hd hl).mono ?_
  rintro e w' ⟨rfl, k⟩
  exact ⟨rfl, h'.keep k⟩
theorem Tri.alikeB (h : Tri w xb y x hh mh ha ma hb mb L Ca Cb W) (hp : Cb.Perm L) (hd : Diff L) (hl : L.length ≤ 1099511627776) :
    Calls Try.prog 23 #[.pointer (some ⟨hb, 0, none⟩), .pointer (some ⟨hh, 0, none⟩)] W fun e w' => e = .returned (.bool true) ∧ Tri w xb y x hh mh ha ma hb mb L Ca Cb w' := by
  have h' := h
  obtain ⟨⟨rh, ra, rb, h1, h2, h3, a⟩, hk, hbl⟩ := h
  refine (alike_any _ _ W hb mb hh mh rb rh L (h3.perm hp) h1 hd hl).mono ?_
  rintro e w' ⟨rfl, k⟩
  exact ⟨rfl, h'.keep k⟩
end

set_option maxHeartbeats 1000000 in
set_option maxRecDepth 20000 in
theorem turns_long (a : Option Addr) (n cap : Nat) (y x : Int) (h60 : 60 < n) (w : World) :
    Calls Try.prog 5 #[.slice a n cap, .agg #[.int .i64 y, .int .i64 x]] w fun E w' => E = .returned (.bool true) ∧ Below w.heap.size w w' := by
  have hg0 : Grew w (w.alloc (.cells #[.int .i64 y, .int .i64 x] 36)) := (Grew.refl w).alloc _
  have C0 := Lib.hid (hs_new w.heap.size _ hg0.size)
  have HG := Lib.hid hg0
  clear hg0
  have C1 : ∀ W, Hid (Calls Try.prog 13 #[.slice a n cap] W fun e w' => e = .returned (.bool false) ∧ w' = W) := fun W => by
    have := few3_any a n cap W
    rwa [decide_eq_false (show ¬ n ≤ 60 by omega)] at this
  have CW : ∀ W, Hid (Calls Try.prog 14 #[] W fun e w' => e = .returned (.bool true) ∧ Below W.heap.size W w') := fun W => awake3 W
  go_enter Try.func5, Try.ntmps5
  go_wp2_with (first | (go_at_call 11; (with_reducible refine C0.out.mono ?_); rintro e w0 ⟨hb, mb, rfl, h0, g0, _, _⟩; have G0 := Lib.hid g0; clear h0 g0) | (go_at_call 13; (with_reducible refine (C1 _).out.mono ?_); rintro e w1 ⟨rfl, rfl⟩) | (go_at_call 14; (with_reducible refine (CW _).out.mono ?_); rintro e w2 ⟨rfl, b2⟩))
  go_ret
  have g := HG.out.trans G0.out
  exact ⟨rfl, g.below.trans (b2.mono g.size)⟩

theorem Did.key {B : Nat} {W W' : World} {hb mb xb : Nat} {ro : Option Nat} {rf : Nat} {L : List Ent} {y x : Int} (h : Did B W hb mb ro rf L W') (hp : Pr B W hb mb ro rf L) (hk : KeyAt W xb y x) : KeyAt W' xb y x := by
  obtain ⟨ro', L', _, _, k, _⟩ := h
  refine (k.block xb hk.lt (fun hm => ?_)).trans hk
  unfold KeyAt at hk
  rcases hm with hm | rfl
  · obtain ⟨o, ho, ht⟩ := hp.heap.kinds xb hm
    rw [hk] at ho
    cases ho
    rcases ht with e | e | e <;> simp [tyOf] at e
  · obtain ⟨a, cap, h1, _⟩ := hp.ref
    rw [hk] at h1
    simp at h1

theorem two_copies {w W1 W2 : World} {xb : Nat} {y x : Int} {B hh mh ha ma hb mb : Nat} {rh ra rb : Option Nat} {L : List Ent} {W : World} (h1 : Hs w.heap.size W hh mh rh L) (hk : KeyAt W xb y x) (hbl : Below w.heap.size w W)
    (c1 : Hs W.heap.size W1 ha ma ra L) (k1 : Kept (fun _ => False) W W1) (c2 : Hs W1.heap.size W2 hb mb rb L) (k2 : Kept (fun _ => False) W1 W2) : Tri w xb y x hh mh ha ma hb mb L L L W2 := by
  have k12 := k1.trans k2
  refine ⟨⟨rh, ra, rb, h1.kept k12 (fun _ _ x => x), (c1.kept k2 (fun _ _ x => x)).lower hbl.size, c2.lower (Nat.le_trans hbl.size k1.size), fun k a b => ?_, fun k a b => ?_, fun k a b => ?_⟩, (k12.block xb hk.lt (fun x => x)).trans hk, hbl.trans (k12.below hbl.size (fun _ x => x.elim))⟩
  · have e1 := h1.lt k a; have e2 := c1.from k b; omega
  · have e1 := h1.lt k a; have e2 := c2.from k b; have := k1.size; omega
  · have e1 := c1.lt k a; have e2 := c2.from k b; omega

set_option maxHeartbeats 4000000 in
set_option maxRecDepth 20000 in
/-- What stands behind the loop of calls: the heap h holds L, and the key lies in xb. -/
theorem turns_core (a : Option Addr) (n cap : Nat) (V : Nat → Int × Int × Int) (y x : Int) (hy : Is64 y) (hx : Is64 x) (h60 : n ≤ 60) (w : World) (hO : OpsAt w a n V) :
    Calls Try.prog 5 #[.slice a n cap, .agg #[.int .i64 y, .int .i64 x]] w fun E w' => E = .returned (.bool true) ∧ Below w.heap.size w w' := by
  obtain ⟨w0', hw0⟩ : ∃ w0', w.alloc (.cells #[.int .i64 y, .int .i64 x] 36) = w0' := ⟨_, rfl⟩
  have hg0 : Grew w w0' := by rw [← hw0]; exact (Grew.refl w).alloc _
  have hk0 : KeyAt w0' w.heap.size y x := by rw [← hw0]; exact heap_alloc_new _ _
  have C0 := Lib.hid (hs_new w.heap.size w0' hg0.size)
  have HG := Lib.hid (And.intro hg0 hk0)
  have C1 : ∀ W, Hid (Calls Try.prog 13 #[.slice a n cap] W fun e w' => e = .returned (.bool true) ∧ w' = W) := fun W => by
    have := few3_any a n cap W
    rwa [decide_eq_true h60] at this
  have CW : ∀ W, Hid (Calls Try.prog 14 #[] W fun e w' => e = .returned (.bool true) ∧ Below W.heap.size W w') := fun W => awake3 W
  have HO := Lib.hid hO
  have HXY : Hid (Is64 y ∧ Is64 x) := ⟨hy, hx⟩
  clear hO hg0 hk0 hy hx
  go_enter Try.func5, Try.ntmps5
  go_wp2_with (first | (go_at_call 11; (try rw [hw0]); (with_reducible refine C0.out.mono ?_); rintro e w1 ⟨hb, mb, rfl, h0, g0, _, _⟩; have G0 := Lib.hid (And.intro h0 g0); clear h0 g0) | (go_at_call 13; (with_reducible refine (C1 _).out.mono ?_); rintro e w2 ⟨rfl, hw2⟩; subst hw2))
  obtain ⟨W1, hW1⟩ : ∃ W1, w2.alloc (.cells #[.slice none 0 0] 33) = W1 := ⟨_, rfl⟩
  have H1 : Hid (Pr w.heap.size W1 hb mb none w2.heap.size [] ∧ Below w.heap.size w W1 ∧ KeyAt W1 w.heap.size y x) := by
    have g := HG.out.1.trans G0.out.2
    have gW : Grew w2 W1 := by rw [← hW1]; exact (Grew.refl _).alloc _
    exact ⟨pr_new G0.out.1 g.size hW1, (g.trans gW).below, ((G0.out.2.trans gW).block HG.out.2.lt).trans HG.out.2⟩
  rw [hW1]
  generalize w2.heap.size = rf at *
  clear hW1 G0 hw0 HG C0
  go_loopg [8] n (fun gk s wr => ∃ i : Nat, s = .int .i64 i ∧ i ≤ n ∧ n - i ≤ gk ∧ Hid (∃ ro L, Pr w.heap.size wr hb mb ro rf L ∧ L.length ≤ i ∧ Below w.heap.size w wr ∧ KeyAt wr w.heap.size y x))
  case atStart => exact ⟨0, rfl, Nat.zero_le _, Nat.le_refl _, none, [], H1.out.1, Nat.le_refl _, H1.out.2⟩
  case round =>
    rename World => W2
    obtain ⟨i, rfl, hin, hgk, HR⟩ := hrel
    by_cases hi : i < n
    · have hi' : decide ((i : Int) < (n : Int)) = true := decide_eq_true (by omega)
      have hiz : (i : Int) < (n : Int) := by omega
      have q4 : IntKind.i64.wrap ((i : Int) + 1) = (i : Int) + 1 := by rw [IntKind.wrap_i64]; omega
      obtain ⟨ro, L, hp, hl, hb2, hk2⟩ := HR.out
      rcases HO.out.below hb2 with h | ⟨g, o, rfl, hg, hc⟩
      · omega
      obtain ⟨⟨c1, c2, c3⟩, hy, hx⟩ := hc i hi
      have CD : Hid (Calls Try.prog 15 #[.pointer (some ⟨hb, 0, none⟩), .pointer (some ⟨rf, 0, none⟩), opV (V i).1 (V i).2.1 (V i).2.2] W2 fun e w' => e = .returned (.bool true) ∧ ∃ ro L, Pr w.heap.size w' hb mb ro rf L ∧ L.length ≤ i + 1 ∧ Below w.heap.size w w' ∧ KeyAt w' w.heap.size y x) := by
        refine (does_any w.heap.size W2 hb mb ro rf L hp (by omega) (V i).1 (V i).2.1 (V i).2.2 hy hx).mono ?_
        rintro e W3 ⟨rfl, hd⟩
        have hbb := hb2.trans ((hd.below hp).mono (Nat.le_refl _))
        have hkk := hd.key hp hk2
        obtain ⟨ro', L', hp', hl', _, _⟩ := hd
        exact ⟨rfl, ro', L', hp', by omega, hbb, hkk⟩
      clear hp hl hb2 hc hy hx HR H1 hk2
      generalize (V i).1 = q at *
      generalize (V i).2.1 = y' at *
      generalize (V i).2.2 = x' at *
      go_wp2_with (go_at_call 15; (with_reducible refine CD.out.mono ?_); rintro e W3 ⟨rfl, h3⟩; have H3 := Lib.hid h3; clear h3)
      go_roundg (n - (i + 1))
      case measure => omega
      case rel => exact ⟨i + 1, by go_num, by omega, Nat.le_refl _, (show Hid _ from H3.out)⟩
    · obtain rfl : i = n := by omega
      have hi' : decide ((i : Int) < (i : Int)) = false := decide_eq_false (by omega)
      obtain ⟨ro, L, hp, hl, hb2, hk2⟩ := HR.out
      have CC1 := Lib.hid (copy_any w.heap.size W2 hb mb ro L hp.heap hp.diff hp.ok (by omega))
      have CC2 : Hid (∀ W3, Kept (fun _ => False) W2 W3 → Calls Try.prog 17 #[.pointer (some ⟨hb, 0, none⟩)] W3 fun e w' => ∃ hc mc rc, e = .returned (.pointer (some ⟨hc, 0, none⟩)) ∧ Hs W3.heap.size w' hc mc rc L ∧ Kept (fun _ => False) W3 w') := fun W3 k => copy_any w.heap.size W3 hb mb ro L (hp.heap.kept k (fun _ _ x => x)) hp.diff hp.ok (by omega)
      have HP2 : Hid (Hs w.heap.size W2 hb mb ro L ∧ KeyAt W2 w.heap.size y x ∧ Below w.heap.size w W2) := ⟨hp.heap, hk2, hb2⟩
      have HD : Hid (Diff L ∧ L.length ≤ 1099511627776 ∧ L.length ≤ 60 ∧ ∀ z ∈ L, (0 ≤ z.1 ∧ Is64 z.1) ∧ Is64 z.2) := ⟨hp.diff, by omega, by omega, hp.ok⟩
      clear hp hl hb2 hk2 HR H1
      go_upto_region 11 with (first | (go_at_call 17; (with_reducible refine CC1.out.mono ?_); rintro e W3 ⟨ha, ma, ra, rfl, h3, k3⟩; have H3 := Lib.hid (And.intro h3 k3); clear h3 k3) | (go_at_call 17; (with_reducible refine (CC2.out _ H3.out.2).mono ?_); rintro e W4 ⟨hb', mb', rb', rfl, h4, k4⟩; have H4 := Lib.hid (And.intro h4 k4); clear h4 k4))
      have HT : Hid (Tri w w.heap.size y x hb mb ha ma hb' mb' L L L W4) := two_copies (B := 0) HP2.out.1 HP2.out.2.1 HP2.out.2.2 H3.out.1 H3.out.2 H4.out.1 H4.out.2
      clear H3 H4 CC1 CC2 HP2
      obtain ⟨hd, hl, hl60, hok⟩ := HD.out
      obtain ⟨hy, hx⟩ := HXY.out
      have k0 := HT.out.key.c0
      have k1 := HT.out.key.c1
      have CL1 : ∀ (Ca Cb : List Ent) (W : World), Tri w w.heap.size y x hb mb ha ma hb' mb' L Ca Cb W → Ca.Perm L → Hid (Calls Try.prog 23 #[.pointer (some ⟨ha, 0, none⟩), .pointer (some ⟨hb, 0, none⟩)] W fun e w' => e = .returned (.bool true) ∧ Tri w w.heap.size y x hb mb ha ma hb' mb' L Ca Cb w') := fun Ca Cb W h hp => h.alikeA hp hd hl
      have CL2 : ∀ (Ca Cb : List Ent) (W : World), Tri w w.heap.size y x hb mb ha ma hb' mb' L Ca Cb W → Cb.Perm L → Hid (Calls Try.prog 23 #[.pointer (some ⟨hb', 0, none⟩), .pointer (some ⟨hb, 0, none⟩)] W fun e w' => e = .returned (.bool true) ∧ Tri w w.heap.size y x hb mb ha ma hb' mb' L Ca Cb w') := fun Ca Cb W h hp => h.alikeB hp hd hl
      rcases there_or L x with ⟨j, hj, e⟩ | hn
      · obtain ⟨old, hm⟩ : ∃ old, (x, old) ∈ L := ⟨rky L j, by rw [← e]; exact mem_getD hj⟩
        obtain ⟨E, hE⟩ : ∃ E, L.erase (x, old) = E := ⟨_, rfl⟩
        have hPE : ((x, old) :: E).Perm L := by rw [← hE]; exact (List.perm_cons_erase hm).symm
        have hEn : ∀ z ∈ E, z.1 ≠ x := fun z hz => by
          have hd2 : Diff ((x, old) :: E) := (List.Perm.pairwise_iff (R := fun p q : Ent => p.1 ≠ q.1) (fun h => h.symm) hPE).2 hd
          exact fun e => (List.pairwise_cons.1 hd2).1 z hz e.symm
        have hEl : E.length < 1099511627776 := by have := hPE.length_eq; simp at this; omega
        have hox : (0 ≤ x ∧ Is64 x) ∧ Is64 old := hok _ hm
        have CG : Hid (Calls Try.prog 19 #[.pointer (some ⟨ha, 0, none⟩), .int .i64 x] W4 fun e w' => e = .returned (.tuple #[.int .i64 old, .int .i64 0]) ∧ W4 = w') := by
          obtain ⟨⟨rh, ra, rb, h1, h2, h3, _⟩, _, _⟩ := HT.out
          exact hs_get h2 (x, old) hm
        have CA1 : Hid (Calls Try.prog 20 #[.pointer (some ⟨ha, 0, none⟩), .int .i64 x, .int .i64 y] W4 fun e w' => e = .returned (.int .i64 0) ∧ Tri w w.heap.size y x hb mb ha ma hb' mb' L ((x, y) :: E) L w') :=
          HT.out.callA (fun ra hra _ => by
            have := hs_change hra (x, old) hm y hy
            rw [hE] at this
            exact this.mono (fun e w' ⟨h1, h2⟩ => ⟨h1, ra, h2⟩))
        have CB1 : ∀ W, Tri w w.heap.size y x hb mb ha ma hb' mb' L ((x, y) :: E) L W → Hid (Calls Try.prog 21 #[.pointer (some ⟨hb', 0, none⟩), .int .i64 x] W fun e w' => e = .returned (.tuple #[.int .i64 old, .int .i64 0]) ∧ Tri w w.heap.size y x hb mb ha ma hb' mb' L ((x, y) :: E) E w') := fun W h =>
          h.callB (fun rb hrb _ => by
            have := hs_drop hrb (x, old) hm
            rw [hE] at this
            exact this.mono (fun e w' ⟨h1, h2⟩ => ⟨h1, rb, h2⟩))
        have CB2 : ∀ W, Tri w w.heap.size y x hb mb ha ma hb' mb' L ((x, y) :: E) E W → Hid (Calls Try.prog 22 #[.pointer (some ⟨hb', 0, none⟩), .int .i64 x, .int .i64 y] W fun e w' => e = .returned (.int .i64 0) ∧ Tri w w.heap.size y x hb mb ha ma hb' mb' L ((x, y) :: E) ((x, y) :: E) w') := fun W h =>
          h.callB (fun rb hrb hB => hs_put hrb hB x y hox.1 hy hEn hEl)
        have CA2 : ∀ W, Tri w w.heap.size y x hb mb ha ma hb' mb' L ((x, y) :: E) ((x, y) :: E) W → Hid (Calls Try.prog 20 #[.pointer (some ⟨ha, 0, none⟩), .int .i64 x, .int .i64 old] W fun e w' => e = .returned (.int .i64 0) ∧ Tri w w.heap.size y x hb mb ha ma hb' mb' L ((x, old) :: E) ((x, y) :: E) w') := fun W h =>
          h.callA (fun ra hra _ => by
            have := hs_change hra (x, y) (by simp) old hox.2
            rw [show ((x, y) :: E).erase (x, y) = E by simp] at this
            exact this.mono (fun e w' ⟨h1, h2⟩ => ⟨h1, ra, h2⟩))
        have CB3 : ∀ W, Tri w w.heap.size y x hb mb ha ma hb' mb' L ((x, old) :: E) ((x, y) :: E) W → Hid (Calls Try.prog 20 #[.pointer (some ⟨hb', 0, none⟩), .int .i64 x, .int .i64 old] W fun e w' => e = .returned (.int .i64 0) ∧ Tri w w.heap.size y x hb mb ha ma hb' mb' L ((x, old) :: E) ((x, old) :: E) w') := fun W h =>
          h.callB (fun rb hrb _ => by
            have := hs_change hrb (x, y) (by simp) old hox.2
            rw [show ((x, y) :: E).erase (x, y) = E by simp] at this
            exact this.mono (fun e w' ⟨h1, h2⟩ => ⟨h1, rb, h2⟩))
        have HPE := Lib.hid hPE
        clear hd hl hl60 hok hy hx e hj hm hE hPE hEn hEl hox HD HXY
        go_wp2_with (first
          | (go_at_call 19; (with_reducible refine CG.out.mono ?_); rintro e W5 ⟨rfl, rfl⟩)
          | (go_at_call 20; (with_reducible refine CA1.out.mono ?_); rintro e W6 ⟨rfl, h6⟩; have a0 := h6.key.c0; have a1 := h6.key.c1; have H6 := Lib.hid h6; clear h6)
          | (go_at_call 21; (with_reducible refine (CB1 _ H6.out).out.mono ?_); rintro e W7 ⟨rfl, h7⟩; have b0 := h7.key.c0; have b1 := h7.key.c1; have H7 := Lib.hid h7; clear h7)
          | (go_at_call 22; (with_reducible refine (CB2 _ H7.out).out.mono ?_); rintro e W8 ⟨rfl, h8⟩; have d0 := h8.key.c0; have d1 := h8.key.c1; have H8 := Lib.hid h8; clear h8)
          | (go_at_call 20; (with_reducible refine (CA2 _ H8.out).out.mono ?_); rintro e W9 ⟨rfl, h9⟩; have e0 := h9.key.c0; have e1 := h9.key.c1; have H9 := Lib.hid h9; clear h9)
          | (go_at_call 20; (with_reducible refine (CB3 _ H9.out).out.mono ?_); rintro e W10 ⟨rfl, h10⟩; have H10 := Lib.hid h10; clear h10)
          | (go_at_call 23; (with_reducible refine (CL1 _ _ _ H10.out HPE.out).out.mono ?_); rintro e W11 ⟨rfl, h11⟩; have H11 := Lib.hid h11; clear h11)
          | (go_at_call 23; (with_reducible refine (CL2 _ _ _ H11.out HPE.out).out.mono ?_); rintro e W12 ⟨rfl, h12⟩; have H12 := Lib.hid h12; clear h12)
          | (go_at_call 14; (with_reducible refine (CW _).out.mono ?_); rintro e W13 ⟨rfl, b13⟩))
        go_ret
        exact ⟨rfl, H12.out.below.trans (b13.mono H12.out.below.size)⟩
      · have CG : Hid (Calls Try.prog 19 #[.pointer (some ⟨ha, 0, none⟩), .int .i64 x] W4 fun e w' => e = .returned (.tuple #[.int .i64 0, .int .i64 14]) ∧ W4 = w') := by
          obtain ⟨⟨rh, ra, rb, h1, h2, h3, _⟩, _, _⟩ := HT.out
          exact hs_get_none h2 x hx hn
        by_cases hx0 : x < 0
        · have hx0' : decide (x < 0) = true := decide_eq_true hx0
          have CP : Hid (Calls Try.prog 22 #[.pointer (some ⟨ha, 0, none⟩), .int .i64 x, .int .i64 y] W4 fun e w' => e = .returned (.int .i64 1) ∧ W4 = w') := put_neg W4 ha x y hx0
          clear hd hl hl60 hok hy hx hn HD HXY
          go_wp2_with (first
            | (go_at_call 19; (with_reducible refine CG.out.mono ?_); rintro e W5 ⟨rfl, rfl⟩)
            | (go_at_call 22; (with_reducible refine CP.out.mono ?_); rintro e W6 ⟨rfl, rfl⟩)
            | (go_at_call 23; (with_reducible refine (CL1 _ _ _ HT.out (List.Perm.refl _)).out.mono ?_); rintro e W11 ⟨rfl, h11⟩; have H11 := Lib.hid h11; clear h11)
            | (go_at_call 14; (with_reducible refine (CW _).out.mono ?_); rintro e W13 ⟨rfl, b13⟩))
          go_ret
          exact ⟨rfl, H11.out.below.trans (b13.mono H11.out.below.size)⟩
        · have hx0' : decide (x < 0) = false := decide_eq_false hx0
          have CP : Hid (Calls Try.prog 22 #[.pointer (some ⟨ha, 0, none⟩), .int .i64 x, .int .i64 y] W4 fun e w' => e = .returned (.int .i64 0) ∧ Tri w w.heap.size y x hb mb ha ma hb' mb' L ((x, y) :: L) L w') :=
            HT.out.callA (fun ra hra hB => hs_put hra hB x y ⟨by omega, hx⟩ hy hn (by omega))
          have CD : ∀ W, Tri w w.heap.size y x hb mb ha ma hb' mb' L ((x, y) :: L) L W → Hid (Calls Try.prog 21 #[.pointer (some ⟨ha, 0, none⟩), .int .i64 x] W fun e w' => e = .returned (.tuple #[.int .i64 y, .int .i64 0]) ∧ Tri w w.heap.size y x hb mb ha ma hb' mb' L L L w') := fun W h =>
            h.callA (fun ra hra _ => by
              have := hs_drop hra (x, y) (by simp)
              rw [show ((x, y) :: L).erase (x, y) = L by simp] at this
              exact this.mono (fun e w' ⟨h1, h2⟩ => ⟨h1, ra, h2⟩))
          clear hd hl hl60 hok hy hx hn HD HXY
          go_wp2_with (first
            | (go_at_call 19; (with_reducible refine CG.out.mono ?_); rintro e W5 ⟨rfl, rfl⟩)
            | (go_at_call 22; (with_reducible refine CP.out.mono ?_); rintro e W6 ⟨rfl, h6⟩; have a0 := h6.key.c0; have a1 := h6.key.c1; have H6 := Lib.hid h6; clear h6)
            | (go_at_call 21; (with_reducible refine (CD _ H6.out).out.mono ?_); rintro e W7 ⟨rfl, h7⟩; have b0 := h7.key.c0; have b1 := h7.key.c1; have H7 := Lib.hid h7; clear h7)
            | (go_at_call 23; (with_reducible refine (CL1 _ _ _ H7.out (List.Perm.refl _)).out.mono ?_); rintro e W11 ⟨rfl, h11⟩; have H11 := Lib.hid h11; clear h11)
            | (go_at_call 14; (with_reducible refine (CW _).out.mono ?_); rintro e W13 ⟨rfl, b13⟩))
          go_ret
          exact ⟨rfl, H11.out.below.trans (b13.mono H11.out.below.size)⟩

theorem walk_HeapTurns (a : Option Addr) (len cap : Nat) (y x : Int) (w : World) (h : IsOps w a len cap) (hy : Is64 y) (hx : Is64 x) :
    Calls Try.prog 5 #[.slice a len cap, .agg #[.int .i64 y, .int .i64 x]] w fun E w' => E = .returned (.bool true) ∧ Below w.heap.size w w' := by
  obtain ⟨hl, V, hV⟩ := h.ops
  by_cases h60 : 60 < len
  · exact turns_long a len cap y x h60 w
  · exact turns_core a len cap V y x hy hx (by omega) w hV
end Go.Proofs.Ytdmdebelcklfhaa
