/-
  Heap[int]: rise.
-/
import Derived.Test.YtcipilggddpnpaaHpD
import Derived.Test.YtcipilggddpnpaaHpM
import Derived.Deep.LoopGhost
namespace Go.Proofs.Ytcipilggddpnpaa
open Go.RowKit Go.Sort Go.Shelf Go.Maps
set_option linter.unusedVariables false
set_option linter.unusedSimpArgs false

abbrev gt (R : List Ent) : Nat → Ent := fun i => R.getD i (0, 0)

theorem ahd_weak {lt : Int → Int → Bool} (h : Hp.Weak lt) : Hp.Weak (ahd lt) := by
  constructor
  · intro x y
    rw [ahd_eq, ahd_eq]
    intro h1
    cases hxy : lt x.2 y.2
    · rw [hxy] at h1
      simp at h1
      simp [h1.1]; omega
    · simp [h.asym _ _ hxy]
  · intro x y z
    rw [ahd_eq, ahd_eq, ahd_eq]
    intro h1 h2
    simp at h1 h2 ⊢
    refine ⟨h.ntr _ _ _ h1.1 h2.1, fun h3 => ?_⟩
    have a1 := h1.2 (h.ntr _ _ _ h2.1 h3)
    have a2 := h2.2 (h.ntr _ _ _ h3 h1.1)
    omega

theorem gt_swp2 (R : List Ent) {a b : Nat} (ha : a < R.length) (hb : b < R.length) : gt (swp2 R a b) = Hp.swf (gt R) a b := by
  funext j
  exact getD_swp2 R a b j ha hb
theorem swp2_perm (R : List Ent) {a b : Nat} (ha : a < R.length) (hb : b < R.length) : (swp2 R a b).Perm R := by
  have := List.set_set_perm ha hb
  unfold swp2
  rwa [List.getD_eq_getElem?_getD, List.getElem?_eq_getElem hb, List.getD_eq_getElem?_getD, List.getElem?_eq_getElem ha]

abbrev Two (rb mb : Nat) : Nat → Prop := fun k => k = rb ∨ k = mb

set_option maxHeartbeats 2000000 in
set_option maxRecDepth 100000 in
theorem rise_any (g : Nat) (cb : Array Value) (lt : Int → Int → Bool) (hl : LessIs g cb lt) (hW : Hp.Weak lt) (hb rb mb cap : Nat) (R : List Ent) (p : Nat) (hp : p < R.length) (Z : Prop) (hR : Hp.Rises (ahd lt) (gt R) R.length p Z) (w : World)
    (h : HeapIs w hb rb mb cap (.func (.func g) #[] cb) R) :
    Calls Try.prog 33 #[.pointer (some ⟨hb, 0, none⟩), .int .i64 p] w fun e w' => ∃ (q : Nat) (R' : List Ent), e = .returned (.int .i64 q) ∧ q < R.length ∧ R'.Perm R ∧ Hp.Sinks (ahd lt) (gt R') R.length q ∧ (Z → Hp.Heapy (ahd lt) (gt R') R.length) ∧
      HeapIs w' hb rb mb cap (.func (.func g) #[] cb) R' ∧ Kept (Two rb mb) w w' := by
  have hWa := Lib.hid (ahd_weak hW)
  have CA : Hid (∀ (R1 : List Ent) (W : World) (i j : Nat), HeapIs W hb rb mb cap (.func (.func g) #[] cb) R1 → i < R1.length → j < R1.length → Calls Try.prog 61 #[.pointer (some ⟨hb, 0, none⟩), .int .i64 i, .int .i64 j] W fun e w' => e = .returned (.bool (ahd lt (gt R1 i) (gt R1 j))) ∧ Grew W w') :=
    fun R1 W i j hH hi hj => ahead_any g cb lt hl hb rb cap _ R1 i j hi hj W hH.obj hH.row
  have CS : Hid (∀ (R1 : List Ent) (W : World) (i j : Nat), HeapIs W hb rb mb cap (.func (.func g) #[] cb) R1 → i < R1.length → j < R1.length → Calls Try.prog 35 #[.pointer (some ⟨hb, 0, none⟩), .int .i64 i, .int .i64 j] W fun e w' => e = .returned (.tuple #[]) ∧ HeapIs w' hb rb mb cap (.func (.func g) #[] cb) (swp2 R1 i j) ∧ Kept (Two rb mb) W w') :=
    fun R1 W i j hH hi hj => swap_any hb rb mb cap _ R1 i j hi hj W hH
  have hsm := h.small
  obtain ⟨n, hn⟩ : ∃ n, R.length = n := ⟨_, rfl⟩
  rw [hn] at hp hR hsm ⊢
  have H0 : Hid (HeapIs w hb rb mb cap (.func (.func g) #[] cb) R ∧ Hp.Rises (ahd lt) (gt R) n p Z ∧ R.length = n) := ⟨h, hR, hn⟩
  clear hl hW h hR hn
  go_enter Try.func33, Try.ntmps33
  go_wp2_with fail
  go_loopg [1] p (fun gk s wr => ∃ (q : Nat) (R1 : List Ent), s = .int .i64 q ∧ q ≤ gk ∧ q < n ∧ Hid (R1.length = n ∧ R1.Perm R ∧ Hp.Rises (ahd lt) (gt R1) n q Z ∧ HeapIs wr hb rb mb cap (.func (.func g) #[] cb) R1 ∧ Kept (Two rb mb) w wr))
  case atStart => exact ⟨p, R, rfl, Nat.le_refl _, hp, H0.out.2.2, List.Perm.refl _, H0.out.2.1, H0.out.1, Kept.refl _ _⟩
  case round =>
    obtain ⟨q, R1, rfl, hqg, hqn, HH⟩ := hrel
    by_cases hq0 : q = 0
    · subst hq0
      go_wp2_with fail
      go_ret
      obtain ⟨h1, h2, h3, h4, h5⟩ := HH.out
      exact ⟨0, R1, rfl, hqn, h2, h3.stop (.inl rfl), fun z => Hp.Rises.done ⟨h3.rest, h3.over, fun _ => h3.under z⟩ (.inl rfl), h4, h5⟩
    · have hq1 : decide ((q : Int) > 0) = true := decide_eq_true (by omega)
      obtain ⟨f, hf⟩ : ∃ f, Hp.pr q = f := ⟨_, rfl⟩
      have hf' : ((q : Int) - 1).tdiv 2 = (f : Int) := by rw [Int.tdiv_eq_ediv_of_nonneg (by omega), ← hf]; unfold Hp.pr; omega
      have hwq : IntKind.i64.wrap ((q : Int) - 1) = (q : Int) - 1 := by rw [IntKind.wrap_i64]; omega
      have hfq : f < q := by rw [← hf]; exact Hp.pr_lt (by omega)
      have hwf : IntKind.i64.wrap (f : Int) = (f : Int) := by rw [IntKind.wrap_i64]; omega
      have HF : Hid (Hp.pr q = f) := hf
      clear hf
      obtain ⟨h1, h2, h3, h4, h5⟩ := HH.out
      have HA := Lib.hid (CA.out R1 wr q f h4 (by omega) (by omega))
      obtain ⟨t, ht⟩ : ∃ t, ahd lt (gt R1 q) (gt R1 f) = t := ⟨_, rfl⟩
      rw [ht] at HA
      have HT : Hid (ahd lt (gt R1 q) (gt R1 f) = t) := ht
      clear h1 h2 h3 h4 h5 ht
      cases t
      · go_wp2_with (go_at_call 61; refine HA.out.mono ?_; rintro e w1 ⟨rfl, hg1⟩)
        go_ret
        obtain ⟨h1, h2, h3, h4, h5⟩ := HH.out
        have hs : ahd lt (gt R1 q) (gt R1 (Hp.pr q)) = false := by rw [HF.out]; exact HT.out
        exact ⟨q, R1, rfl, hqn, h2, h3.stop (.inr hs), fun z => Hp.Rises.done ⟨h3.rest, h3.over, fun _ => h3.under z⟩ (.inr hs), h4.grew hg1, h5.trans (hg1.kept _)⟩
      · have HS : ∀ w1, Grew wr w1 → Hid (Calls Try.prog 35 #[.pointer (some ⟨hb, 0, none⟩), .int .i64 q, .int .i64 f] w1 fun e w' => e = .returned (.tuple #[]) ∧ HeapIs w' hb rb mb cap (.func (.func g) #[] cb) (swp2 R1 q f) ∧ Kept (Two rb mb) w1 w') := fun w1 hg1 =>
          CS.out R1 w1 q f (HH.out.2.2.2.1.grew hg1) (by rw [HH.out.1]; omega) (by rw [HH.out.1]; omega)
        go_wp2_with (first | (go_at_call 61; refine HA.out.mono ?_; rintro e w1 ⟨rfl, hg1⟩) | (go_at_call 35; refine (HS _ hg1).out.mono ?_; rintro e w2 ⟨rfl, hh2, hk2⟩))
        go_roundg f
        case measure => omega
        case rel =>
          obtain ⟨h1, h2, h3, h4, h5⟩ := HH.out
          have hql : q < R1.length := by omega
          have hfl : f < R1.length := by omega
          refine ⟨f, swp2 R1 q f, rfl, Nat.le_refl _, by omega, (show Hid _ from ⟨by rw [len_swp2]; exact h1, (swp2_perm R1 hql hfl).trans h2, ?_, hh2, (h5.trans (hg1.kept _)).trans hk2⟩)⟩
          have := h3.step hWa.out (by omega) hqn (by rw [HF.out]; exact HT.out)
          rw [HF.out] at this
          rw [gt_swp2 R1 hql hfl]
          exact this
end Go.Proofs.Ytcipilggddpnpaa
