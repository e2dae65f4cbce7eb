/-
  Heap[api.Key]: sink, settle.
-/
import Derived.Test.YtcipilggddpnpaaKhE
namespace Go.Proofs.Ytcipilggddpnpaa.K
open Go.RowKit Go.Sort Go.Shelf Go.Maps
set_option linter.unusedVariables false
set_option linter.unusedSimpArgs false

/-- Where the search for the first one below p has come to: f is the first of p and of all that are below it, and ahead of place b. -/
def Firsts (lt : Ent → Ent → Bool) (e : Nat → Ent) (n p b f : Nat) : Prop :=
  f < n ∧ (f = p ∨ (Hp.pr f = p ∧ 0 < f ∧ f < b ∧ lt (e f) (e p) = true)) ∧ (∀ c, 0 < c → c < n → Hp.pr c = p → c < b → lt (e c) (e f) = false)

theorem Firsts.start {lt : Ent → Ent → Bool} {e : Nat → Ent} {n p : Nat} (hp : p < n) : Firsts lt e n p (2 * p + 1) p :=
  ⟨hp, .inl rfl, fun c h0 hn hc hb => by rcases (Hp.pr_eq h0).1 hc with h | h <;> omega⟩
theorem Firsts.yes {lt : Ent → Ent → Bool} (hW : Hp.Weak lt) {e : Nat → Ent} {n p b f : Nat} (h : Firsts lt e n p b f) (hb : b = 2 * p + 1 ∨ b = 2 * p + 2) (hn : b < n) (ha : lt (e b) (e f) = true) : Firsts lt e n p (b + 1) b := by
  have h0 : 0 < b := by omega
  refine ⟨hn, .inr ⟨(Hp.pr_eq h0).2 hb, h0, by omega, ?_⟩, fun c h1 h2 h3 h4 => ?_⟩
  · rcases h.2.1 with e1 | ⟨_, _, _, e1⟩
    · rw [e1] at ha; exact ha
    · exact hW.tr ha e1
  · by_cases e1 : c = b
    · subst e1; exact hW.irr _
    · have := h.2.2 c h1 h2 h3 (by omega)
      exact hW.left this ha
theorem Firsts.no {lt : Ent → Ent → Bool} {e : Nat → Ent} {n p b f : Nat} (h : Firsts lt e n p b f) (ha : lt (e b) (e f) = false) : Firsts lt e n p (b + 1) f := by
  refine ⟨h.1, ?_, fun c h1 h2 h3 h4 => ?_⟩
  · rcases h.2.1 with e1 | ⟨e1, e2, e3, e4⟩
    · exact .inl e1
    · exact .inr ⟨e1, e2, by omega, e4⟩
  · by_cases e1 : c = b
    · subst e1; exact ha
    · exact h.2.2 c h1 h2 h3 (by omega)
theorem Firsts.all {lt : Ent → Ent → Bool} {e : Nat → Ent} {n p b f : Nat} (h : Firsts lt e n p b f) (hb : 2 * p + 2 < b ∨ n ≤ b) : ∀ c, 0 < c → c < n → Hp.pr c = p → lt (e c) (e f) = false :=
  fun c h1 h2 h3 => h.2.2 c h1 h2 h3 (by rcases (Hp.pr_eq h1).1 h3 with e | e <;> omega)

set_option maxHeartbeats 4000000 in
set_option maxRecDepth 100000 in
theorem sink_any (g : Nat) (cb : Array Value) (lt : Ky → Ky → Bool) (w0 : World) (S : Nat → Prop) (hl : LessIs g cb lt w0 S) (hW : Hp.Weak lt) (hb rb mb cap : Nat) (R : List Ent) (p : Nat) (hp : p < R.length) (hR : Hp.Sinks (ahd lt) (gt R) R.length p) (w : World)
    (h : HeapIs w hb rb mb cap (.func (.func g) #[] cb) R) (hk : Kept S w0 w) (hS : ∀ k, Two rb mb k → S k ∨ w0.heap.size ≤ k) :
    Calls Try.prog 99 #[.pointer (some ⟨hb, 0, none⟩), .int .i64 p] w fun e w' => e = .returned (.tuple #[]) ∧ ∃ (R' : List Ent), R'.Perm R ∧ Hp.Heapy (ahd lt) (gt R') R.length ∧
      HeapIs w' hb rb mb cap (.func (.func g) #[] cb) R' ∧ Kept (Two rb mb) w w' := by
  have hWa := Lib.hid (ahd_weak hW)
  have CA : Hid (∀ (R1 : List Ent) (W : World) (i j : Nat), HeapIs W hb rb mb cap (.func (.func g) #[] cb) R1 → Kept (Two rb mb) w W → i < R1.length → j < R1.length → Calls Try.prog 115 #[.pointer (some ⟨hb, 0, none⟩), .int .i64 i, .int .i64 j] W fun e w' => e = .returned (.bool (ahd lt (gt R1 i) (gt R1 j))) ∧ Grew W w') :=
    fun R1 W i j hH hK hi hj => ahead_any g cb lt w0 S hl hb rb cap _ R1 i j hi hj W hH.obj hH.row (kept_then hk hK hS)
  have CS : Hid (∀ (R1 : List Ent) (W : World) (i j : Nat), HeapIs W hb rb mb cap (.func (.func g) #[] cb) R1 → i < R1.length → j < R1.length → Calls Try.prog 94 #[.pointer (some ⟨hb, 0, none⟩), .int .i64 i, .int .i64 j] W fun e w' => e = .returned (.tuple #[]) ∧ HeapIs w' hb rb mb cap (.func (.func g) #[] cb) (swp2 R1 i j) ∧ Kept (Two rb mb) W w') :=
    fun R1 W i j hH hi hj => swap_any hb rb mb cap _ R1 i j hi hj W hH
  have hsm := h.small
  obtain ⟨n, hn⟩ : ∃ n, R.length = n := ⟨_, rfl⟩
  rw [hn] at hp hR hsm ⊢
  have H0 : Hid (HeapIs w hb rb mb cap (.func (.func g) #[] cb) R ∧ Hp.Sinks (ahd lt) (gt R) n p ∧ R.length = n) := ⟨h, hR, hn⟩
  clear hl hW h hR hn hk hS
  go_enter Try.func99, Try.ntmps99
  go_wp2_with fail
  go_loopg [1] (n - p) (fun gk s wr => ∃ (q : Nat) (R1 : List Ent), s = .int .i64 q ∧ n - q ≤ gk ∧ q < n ∧ Hid (R1.length = n ∧ R1.Perm R ∧ Hp.Sinks (ahd lt) (gt R1) n q ∧ HeapIs wr hb rb mb cap (.func (.func g) #[] cb) R1 ∧ Kept (Two rb mb) w wr))
  case atStart => exact ⟨p, R, rfl, Nat.le_refl _, hp, H0.out.2.2, List.Perm.refl _, H0.out.2.1, H0.out.1, Kept.refl _ _⟩
  case round =>
    rename World => W1
    obtain ⟨q, R1, rfl, hqg, hqn, HH⟩ := hrel
    have w1 : IntKind.i64.wrap (2 * (q : Int)) = 2 * (q : Int) := by rw [IntKind.wrap_i64]; omega
    have w2 : IntKind.i64.wrap (2 * (q : Int) + 1) = 2 * (q : Int) + 1 := by rw [IntKind.wrap_i64]; omega
    have w3 : IntKind.i64.wrap (2 * (q : Int) + 2) = 2 * (q : Int) + 2 := by rw [IntKind.wrap_i64]; omega
    go_wp2_with fail
    go_loopg [4, 5] 3 (fun gj s4 s5 wx => ∃ (f b : Nat), s4 = .int .i64 f ∧ s5 = .int .i64 b ∧ 2 * q + 1 ≤ b ∧ b ≤ 2 * q + 3 ∧ 2 * q + 3 - b ≤ gj ∧ f < n ∧ Hid (Firsts (ahd lt) (gt R1) n q b f ∧ Grew W1 wx))
    case atStart => exact ⟨q, 2 * q + 1, rfl, by go_num, Nat.le_refl _, by omega, by omega, hqn, Firsts.start hqn, Grew.refl _⟩
    case round =>
      obtain ⟨f, b, rfl, rfl, hb1, hb2, hgj, hfn, HF⟩ := hrel
      have c1 : wr.cell? ⟨hb, 1, none⟩ = some (.slice (some ⟨rb, 0, none⟩) n cap) := by
        have := (HH.out.2.2.2.1.grew HF.out.2).obj.c1
        rw [HH.out.1] at this
        exact this
      by_cases g1 : b ≤ 2 * q + 2
      · have g1' : decide ((b : Int) ≤ 2 * (q : Int) + 2) = true := decide_eq_true (by omega)
        by_cases g2 : b < n
        · have g2' : decide ((b : Int) < (n : Int)) = true := decide_eq_true (by omega)
          have wb : IntKind.i64.wrap ((b : Int) + 1) = (b : Int) + 1 := by rw [IntKind.wrap_i64]; omega
          have HA := Lib.hid (CA.out R1 wr b f (HH.out.2.2.2.1.grew HF.out.2) (HH.out.2.2.2.2.trans (HF.out.2.kept _)) (by rw [HH.out.1]; omega) (by rw [HH.out.1]; omega))
          obtain ⟨t, ht⟩ : ∃ t, ahd lt (gt R1 b) (gt R1 f) = t := ⟨_, rfl⟩
          rw [ht] at HA
          have HT : Hid (ahd lt (gt R1 b) (gt R1 f) = t) := ht
          clear ht
          cases t
          · go_wp2_with (go_at_call 115; refine HA.out.mono ?_; rintro e w4 ⟨rfl, hg1⟩)
            go_roundg (2 * q + 3 - (b + 1))
            case measure => omega
            case rel => exact ⟨f, b + 1, rfl, by go_num, by omega, by omega, Nat.le_refl _, hfn, (show Hid _ from ⟨HF.out.1.no HT.out, HF.out.2.trans hg1⟩)⟩
          · go_wp2_with (go_at_call 115; refine HA.out.mono ?_; rintro e w4 ⟨rfl, hg1⟩)
            go_roundg (2 * q + 3 - (b + 1))
            case measure => omega
            case rel => exact ⟨b, b + 1, rfl, by go_num, by omega, by omega, Nat.le_refl _, g2, (show Hid _ from ⟨HF.out.1.yes hWa.out (by omega) g2 HT.out, HF.out.2.trans hg1⟩)⟩
        · have g2' : decide ((b : Int) < (n : Int)) = false := decide_eq_false (by omega)
          have HALL : Hid (∀ c, 0 < c → c < n → Hp.pr c = q → ahd lt (gt R1 c) (gt R1 f) = false) := HF.out.1.all (.inr (by omega))
          by_cases hfq : f = q
          · subst hfq
            go_wp2_with fail
            refine bodyPost_ret (results_none rfl _ _ _) rfl ?_
            obtain ⟨h1, h2, h3, h4, h5⟩ := HH.out
            exact ⟨rfl, R1, h2, h3.done HALL.out, h4.grew HF.out.2, h5.trans (HF.out.2.kept _)⟩
          · have hfq' : ((f : Int) == (q : Int)) = false := by rw [beq_eq_false_iff_ne]; omega
            have HS := Lib.hid (CS.out R1 wr q f (HH.out.2.2.2.1.grew HF.out.2) (by rw [HH.out.1]; omega) (by rw [HH.out.1]; omega))
            go_wp2_with (go_at_call 94; refine HS.out.mono ?_; rintro e w5 ⟨rfl, hh2, hk2⟩)
            have HFQ : Hid (Hp.pr f = q ∧ 0 < f ∧ f < b ∧ ahd lt (gt R1 f) (gt R1 q) = true) := (HF.out.1.2.1.resolve_left hfq)
            have hqf : q < f := by have h6 := HFQ.out.1; have h7 := Hp.pr_lt HFQ.out.2.1; omega
            go_roundg (n - f)
            case measure => omega
            case rel =>
              obtain ⟨h1, h2, h3, h4, h5⟩ := HH.out
              have hql : q < R1.length := by omega
              have hfl : f < R1.length := by omega
              refine ⟨f, swp2 R1 q f, rfl, Nat.le_refl _, by omega, (show Hid _ from ⟨by rw [len_swp2]; exact h1, (swp2_perm R1 hql hfl).trans h2, ?_, hh2, (h5.trans (HF.out.2.kept _)).trans hk2⟩)⟩
              rw [gt_swp2 R1 hql hfl]
              exact h3.step hWa.out HFQ.out.2.1 hfn HFQ.out.1 HFQ.out.2.2.2 HALL.out
      · have g1' : decide ((b : Int) ≤ 2 * (q : Int) + 2) = false := decide_eq_false (by omega)
        have HALL : Hid (∀ c, 0 < c → c < n → Hp.pr c = q → ahd lt (gt R1 c) (gt R1 f) = false) := HF.out.1.all (.inl (by omega))
        by_cases hfq : f = q
        · subst hfq
          go_wp2_with fail
          refine bodyPost_ret (results_none rfl _ _ _) rfl ?_
          obtain ⟨h1, h2, h3, h4, h5⟩ := HH.out
          exact ⟨rfl, R1, h2, h3.done HALL.out, h4.grew HF.out.2, h5.trans (HF.out.2.kept _)⟩
        · have hfq' : ((f : Int) == (q : Int)) = false := by rw [beq_eq_false_iff_ne]; omega
          have HS := Lib.hid (CS.out R1 wr q f (HH.out.2.2.2.1.grew HF.out.2) (by rw [HH.out.1]; omega) (by rw [HH.out.1]; omega))
          go_wp2_with (go_at_call 94; refine HS.out.mono ?_; rintro e w5 ⟨rfl, hh2, hk2⟩)
          have HFQ : Hid (Hp.pr f = q ∧ 0 < f ∧ f < b ∧ ahd lt (gt R1 f) (gt R1 q) = true) := (HF.out.1.2.1.resolve_left hfq)
          have hqf : q < f := by have h6 := HFQ.out.1; have h7 := Hp.pr_lt HFQ.out.2.1; omega
          go_roundg (n - f)
          case measure => omega
          case rel =>
            obtain ⟨h1, h2, h3, h4, h5⟩ := HH.out
            have hql : q < R1.length := by omega
            have hfl : f < R1.length := by omega
            refine ⟨f, swp2 R1 q f, rfl, Nat.le_refl _, by omega, (show Hid _ from ⟨by rw [len_swp2]; exact h1, (swp2_perm R1 hql hfl).trans h2, ?_, hh2, (h5.trans (HF.out.2.kept _)).trans hk2⟩)⟩
            rw [gt_swp2 R1 hql hfl]
            exact h3.step hWa.out HFQ.out.2.1 hfn HFQ.out.1 HFQ.out.2.2.2 HALL.out

set_option maxHeartbeats 1000000 in
theorem settle_any (g : Nat) (cb : Array Value) (lt : Ky → Ky → Bool) (w0 : World) (S : Nat → Prop) (hl : LessIs g cb lt w0 S) (hW : Hp.Weak lt) (hb rb mb cap : Nat) (R : List Ent) (p : Nat) (hp : p < R.length) (hR : Hp.Rises (ahd lt) (gt R) R.length p False) (w : World)
    (h : HeapIs w hb rb mb cap (.func (.func g) #[] cb) R) (hk : Kept S w0 w) (hS : ∀ k, Two rb mb k → S k ∨ w0.heap.size ≤ k) :
    Calls Try.prog 80 #[.pointer (some ⟨hb, 0, none⟩), .int .i64 p] w fun e w' => e = .returned (.tuple #[]) ∧ ∃ (R' : List Ent), R'.Perm R ∧ Hp.Heapy (ahd lt) (gt R') R.length ∧
      HeapIs w' hb rb mb cap (.func (.func g) #[] cb) R' ∧ Kept (Two rb mb) w w' := by
  have C1 := Lib.hid (rise_any g cb lt w0 S hl hW hb rb mb cap R p hp False hR w h hk hS)
  have C2 : Hid (∀ (R1 : List Ent) (q : Nat) (W : World), R1.length = R.length → q < R1.length → Hp.Sinks (ahd lt) (gt R1) R1.length q → HeapIs W hb rb mb cap (.func (.func g) #[] cb) R1 → Kept (Two rb mb) w W → Calls Try.prog 99 #[.pointer (some ⟨hb, 0, none⟩), .int .i64 q] W fun e w' => e = .returned (.tuple #[]) ∧ ∃ (R' : List Ent), R'.Perm R1 ∧ Hp.Heapy (ahd lt) (gt R') R1.length ∧
      HeapIs w' hb rb mb cap (.func (.func g) #[] cb) R' ∧ Kept (Two rb mb) W w') := fun R1 q W _ hq hs hh hK => sink_any g cb lt w0 S hl hW hb rb mb cap R1 q hq hs W hh (kept_then hk hK hS) hS
  clear hl hW hR h hp hk hS
  go_enter Try.func80, Try.ntmps80
  go_wp2_with fail
  refine C1.out.mono ?_
  rintro e w1 ⟨q, R1, rfl, hq, hp1, hs, _, hh, hk⟩
  have hlen := hp1.length_eq
  have C3 := Lib.hid (C2.out R1 q w1 hlen (by omega) (by rw [hlen]; exact hs) hh hk)
  have HK : Hid (Kept (Two rb mb) w w1 ∧ R1.Perm R ∧ R1.length = R.length) := ⟨hk, hp1, hlen⟩
  clear hs hh hk hp1 hlen hq
  go_wp2_with (go_at_call 99; refine C3.out.mono ?_; rintro e w2 ⟨rfl, R2, hp2, hy, hh2, hk2⟩)
  go_end0
  exact ⟨rfl, R2, hp2.trans HK.out.2.1, by rw [← HK.out.2.2]; exact hy, hh2, HK.out.1.trans hk2⟩
end Go.Proofs.Ytcipilggddpnpaa.K
