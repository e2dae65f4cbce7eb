/-
  The law's keys: are two lists the same?
-/
import Derived.Test.YtcipilggddpnpaaQf
namespace Go.Proofs.Ytcipilggddpnpaa
open Go.RowKit Go.Sort Go.Shelf Go.Maps
set_option linter.unusedVariables false
set_option linter.unusedSimpArgs false

theorem same_from {l m : List Ent} (hl : l.length = m.length) (h : ∀ i, i < l.length → l.getD i (0, 0) = m.getD i (0, 0)) : l = m := by
  refine List.ext_getElem hl fun i h1 h2 => ?_
  have := h i h1
  rwa [List.getD_eq_getElem?_getD, List.getD_eq_getElem?_getD, List.getElem?_eq_getElem h1, List.getElem?_eq_getElem h2] at this

set_option maxHeartbeats 2000000 in
set_option maxRecDepth 20000 in
theorem keys_any (w : World) (a b : Option Addr) (l m : List Ent) (ca cb : Nat) (ha : KeysAt w a l) (hb : KeysAt w b m) (hl : l.length < 1099511627776) (hm : m.length < 1099511627776) :
    Calls Try.prog 23 #[.slice a l.length ca, .slice b m.length cb] w fun E w' => E = .returned (.bool (decide (l = m))) ∧ Grew w w' := by
  by_cases hlm : l.length = m.length
  · obtain ⟨r, er⟩ : ∃ r, decide (l = m) = r := ⟨_, rfl⟩
    rw [er, ← hlm]
    have ER := Lib.hid er
    have HA : Hid (KeysAt w a l ∧ KeysAt w b m ∧ l.length = m.length) := ⟨ha, hb, hlm⟩
    clear er ha hb hlm
    obtain ⟨n, hn0⟩ : ∃ n, l.length = n := ⟨_, rfl⟩
    have HN := Lib.hid hn0
    rw [hn0] at hl ⊢
    clear hn0 hm
    go_enter Try.func23, Try.ntmps23
    go_wp2
    go_loopg [5] n (fun gk s wr => ∃ i : Nat, s = .int .i64 i ∧ i ≤ n ∧ n - i ≤ gk ∧ Hid (Grew w wr ∧ ∀ j, j < i → l.getD j (0, 0) = m.getD j (0, 0)))
    case atStart => exact ⟨0, rfl, Nat.zero_le _, Nat.le_refl _, Grew.refl w, fun j hj => absurd hj (Nat.not_lt_zero _)⟩
    case round =>
      rename World => W2
      obtain ⟨i, rfl, hin, hgk, HR⟩ := hrel
      by_cases hi : i < n
      · have hi' : decide ((i : Int) < (n : Int)) = true := decide_eq_true (by omega)
        have hiz : (i : Int) < (n : Int) := by omega
        have q4 : IntKind.i64.wrap ((i : Int) + 1) = (i : Int) + 1 := by rw [IntKind.wrap_i64]; omega
        have hi2 : i < l.length := by rw [HN.out]; exact hi
        have hR := HR.out
        rcases HA.out.1.kept (hR.1.kept (fun _ => False)) (fun _ _ x => x) with h | ⟨g, o, rfl, hg, hc⟩
        · rw [HN.out] at h; omega
        rcases HA.out.2.1.kept (hR.1.kept (fun _ => False)) (fun _ _ x => x) with h | ⟨g2, o2, rfl, hg2, hc2⟩
        · rw [← HA.out.2.2, HN.out] at h; omega
        obtain ⟨⟨c1, c2⟩, _⟩ := hc i hi2
        obtain ⟨⟨d1, d2⟩, _⟩ := hc2 i (by rw [← HA.out.2.2]; exact hi2)
        by_cases hx : l.getD i (0, 0) = m.getD i (0, 0)
        · have H4 : Hid (∀ W3, Grew W2 W3 → Grew w W3 ∧ ∀ j, j < i + 1 → l.getD j (0, 0) = m.getD j (0, 0)) := fun W3 g3 => ⟨hR.1.trans g3, fun j hj => by
            by_cases e : j = i
            · subst e; exact hx
            · exact hR.2 j (by omega)⟩
          rw [← hx] at d1 d2
          clear hc hc2 hR HR hx
          generalize (l.getD i (0, 0)).1 = id at *
          generalize (l.getD i (0, 0)).2 = t at *
          go_wp2_with fail
          go_quiet (fail)
          go_wp2
          go_roundg (n - (i + 1))
          case measure => omega
          case rel => exact ⟨i + 1, by go_num, by omega, Nat.le_refl _, (show Hid _ from H4.out _ (by first | exact (Grew.refl W2).drew | exact grewN W2 _))⟩
        · have e0 : Hid (r = false) := ER.out.symm.trans (decide_eq_false (fun e => hx (by rw [e])))
          have H4 := Lib.hid hR.1
          have hne : ¬ ((l.getD i (0, 0)).2 = (m.getD i (0, 0)).2 ∧ (l.getD i (0, 0)).1 = (m.getD i (0, 0)).1) := fun e => hx (Prod.ext e.2 e.1)
          clear hc hc2 hR HR hx
          generalize (l.getD i (0, 0)).1 = id at *
          generalize (l.getD i (0, 0)).2 = t at *
          generalize (m.getD i (0, 0)).1 = id2 at *
          generalize (m.getD i (0, 0)).2 = t2 at *
          by_cases ht : t = t2
          · subst ht
            have hne : ¬ id = id2 := fun e => hne ⟨rfl, e⟩
            have h2 : (id == id2) = false := by simpa using hne
            go_wp2_with fail
            go_quiet (fail)
            go_wp2
            go_ret
            exact ⟨by rw [e0.out]; rfl, H4.out.trans (by first | exact (Grew.refl W2).drew | exact grewN W2 _)⟩
          · have h2 : (t == t2) = false := by simpa using ht
            go_wp2_with fail
            go_quiet (fail)
            go_wp2
            go_ret
            exact ⟨by rw [e0.out]; rfl, H4.out.trans (by first | exact (Grew.refl W2).drew | exact grewN W2 _)⟩
      · obtain rfl : i = n := by omega
        have hi' : decide ((i : Int) < (i : Int)) = false := decide_eq_false (by omega)
        go_wp2
        go_ret
        have e0 : r = true := ER.out.symm.trans (decide_eq_true (same_from HA.out.2.2 (fun j hj => HR.out.2 j (by rw [← HN.out]; exact hj))))
        exact ⟨by rw [e0]; rfl, HR.out.1⟩
  · rw [decide_eq_false (fun e => hlm (by rw [e]))]
    have h1 : ((l.length : Int) != (m.length : Int)) = true := by simpa using fun e : (l.length : Int) = (m.length : Int) => hlm (by omega)
    have h2 : ((l.length : Int) == (m.length : Int)) = false := by simpa using fun e : (l.length : Int) = (m.length : Int) => hlm (by omega)
    clear ha hb hlm
    generalize l.length = n at *
    generalize m.length = n2 at *
    go_enter Try.func23, Try.ntmps23
    go_wp2
    go_ret
    exact ⟨rfl, Grew.refl w⟩
end Go.Proofs.Ytcipilggddpnpaa
