/-
  slices.SortFunc's family at entries, the order a method value bound to its receiver: what a world of the sort's is; insertionSort, reverseRange.
-/
import Derived.Test.YtcipilggddpnpaaKhK
import Derived.Sort.Defs
import Derived.Sort.Lot0
import Derived.Sort.WalkA
import Derived.Deep.LoopGhost
import Derived.BigRegion
import Derived.BigQuiet
namespace Go.Proofs.Ytcipilggddpnpaa.K
open Go.RowKit Go.Sort Go.Shelf Go.Maps
set_option linter.unusedVariables false
set_option linter.unusedSimpArgs false

/-- An entry as a value. -/
abbrev enE (x : Ent) : Value := .agg #[.int .i64 x.1, .int .i64 x.2.1, .int .i64 x.2.2]

/-- W is w0 but for the row in rb, which holds d. -/
structure Srt (w0 : World) (rb cap : Nat) (d : Array Ent) (W : World) : Prop where
  row : RowAt W rb cap d.toList
  kept : Kept (fun k => k = rb) w0 W

/-- What is asked of the order: function g, bound to rc, answers cf wherever all but the row is as it was. -/
structure CmpOk (g : Nat) (rc : Value) (cf : Ent → Ent → Int) (rb : Nat) (w0 : World) : Prop where
  enters : ∀ args w, (callFunc g args).run Try.prog w = .ok (.enter g args) w
  says : ∀ W x y, Kept (fun k => k = rb) w0 W → Calls Try.prog g #[rc, enE x, enE y] W fun e w' => e = .returned (.int .i64 (cf x y)) ∧ Grew W w'

/-- Is x ahead of y? -/
abbrev lo (cf : Ent → Ent → Int) (x y : Ent) : Bool := decide (cf x y < 0)

theorem Srt.grew {w0 W W' : World} {rb cap : Nat} {d : Array Ent} (h : Srt w0 rb cap d W) (g : Grew W W') : Srt w0 rb cap d W' := ⟨h.row.kept (g.block h.row.lt), h.kept.trans (g.kept _)⟩
theorem Srt.drew {w0 W : World} {rb cap : Nat} {d : Array Ent} (h : Srt w0 rb cap d W) : Srt w0 rb cap d W.drew := h.grew (Grew.refl W).drew
theorem grewN (w : World) (n : Nat) (os : Array Obj) : Grew w (grow (w.drewN n) os) := ⟨n, os, rfl⟩

theorem grewD (w : World) (n : Nat) : Grew w (w.drewN n) := ⟨n, #[], by rw [grow_empty]⟩

theorem getD_toList (d : Array Ent) (i : Nat) (hi : i < d.size) : d.toList.getD i (0, 0, 0) = d[i]! := by
  rw [List.getD_eq_getElem?_getD, Array.getElem?_toList, Array.getElem?_eq_getElem hi, getElem!_pos d i hi]; rfl

theorem Srt.c0 {w0 W : World} {rb cap : Nat} {d : Array Ent} (h : Srt w0 rb cap d W) {i : Nat} (hi : i < d.size) : W.cell? ⟨rb, i * 3, none⟩ = some (.int .i64 (d[i]!).1) := by
  have := h.row.cell0 (i := i) (by simpa using hi)
  unfold rid at this
  rwa [getD_toList d i hi] at this
theorem Srt.c1 {w0 W : World} {rb cap : Nat} {d : Array Ent} (h : Srt w0 rb cap d W) {i : Nat} (hi : i < d.size) : W.cell? ⟨rb, i * 3 + 1, none⟩ = some (.int .i64 (d[i]!).2.1) := by
  have := h.row.cell1 (i := i) (by simpa using hi)
  unfold rky at this
  rwa [getD_toList d i hi] at this
theorem Srt.c2 {w0 W : World} {rb cap : Nat} {d : Array Ent} (h : Srt w0 rb cap d W) {i : Nat} (hi : i < d.size) : W.cell? ⟨rb, i * 3 + 2, none⟩ = some (.int .i64 (d[i]!).2.2) := by
  have := h.row.cell2 (i := i) (by simpa using hi)
  unfold rky at this
  rwa [getD_toList d i hi] at this

theorem swp_toList (d : Array Ent) (i j : Nat) (hi : i < d.size) (hj : j < d.size) : (swp d i j).toList = swp2 d.toList i j := by
  unfold swp swp2
  rw [getD_toList d j hj, getD_toList d i hi]
  simp

theorem Srt.swap {w0 W : World} {rb cap : Nat} {d : Array Ent} (h : Srt w0 rb cap d W) {i j : Nat} (hi : i < d.size) (hj : j < d.size) :
    Srt w0 rb cap (swp d i j) (((((((W.setCell ⟨rb, i * 3, none⟩ (.int .i64 (d[j]!).1)).setCell ⟨rb, i * 3 + 1, none⟩ (.int .i64 (d[j]!).2.1)).setCell ⟨rb, i * 3 + 2, none⟩ (.int .i64 (d[j]!).2.2)).setCell ⟨rb, j * 3, none⟩ (.int .i64 (d[i]!).1)).setCell ⟨rb, j * 3 + 1, none⟩ (.int .i64 (d[i]!).2.1)).setCell ⟨rb, j * 3 + 2, none⟩ (.int .i64 (d[i]!).2.2)).drew) := by
  have h1 := (h.row.set2 (i := i) (by simpa using hi) (d[j]!).1 (d[j]!).2.1 (d[j]!).2.2).set2 (i := j) (by simpa using hj) (d[i]!).1 (d[i]!).2.1 (d[i]!).2.2
  constructor
  · rw [swp_toList d i j hi hj]
    unfold swp2
    rw [getD_toList d j hj, getD_toList d i hi]
    have hd : ∀ V : World, V.drew.heap[rb]? = V.heap[rb]? := fun V => rfl
    exact h1.kept (hd _)
  · exact h.kept.trans (((((((Kept.refl (fun k => k = rb) W).setCell (p := ⟨rb, i * 3, none⟩) (.inl rfl) _).setCell (p := ⟨rb, i * 3 + 1, none⟩) (.inl rfl) _).setCell (p := ⟨rb, i * 3 + 2, none⟩) (.inl rfl) _).setCell (p := ⟨rb, j * 3, none⟩) (.inl rfl) _).setCell (p := ⟨rb, j * 3 + 1, none⟩) (.inl rfl) _).setCell (p := ⟨rb, j * 3 + 2, none⟩) (.inl rfl) _).drew

/-- What a test of two elements asks, in every world of its region. -/
theorem Srt.ask {w0 W : World} {rb cap : Nat} {d : Array Ent} (h : Srt w0 rb cap d W) {g : Nat} {rc : Value} {cf : Ent → Ent → Int} (hC : CmpOk g rc cf rb w0) {i j : Nat} (hi : i < d.size) (hj : j < d.size) :
    (∀ n os, (grow (W.drewN n) os).cell? ⟨rb, i * 3, none⟩ = some (.int .i64 (d[i]!).1)) ∧ (∀ n os, (grow (W.drewN n) os).cell? ⟨rb, i * 3 + 1, none⟩ = some (.int .i64 (d[i]!).2.1)) ∧ (∀ n os, (grow (W.drewN n) os).cell? ⟨rb, i * 3 + 2, none⟩ = some (.int .i64 (d[i]!).2.2)) ∧ (∀ n os, (grow (W.drewN n) os).cell? ⟨rb, j * 3, none⟩ = some (.int .i64 (d[j]!).1)) ∧ (∀ n os, (grow (W.drewN n) os).cell? ⟨rb, j * 3 + 1, none⟩ = some (.int .i64 (d[j]!).2.1)) ∧ (∀ n os, (grow (W.drewN n) os).cell? ⟨rb, j * 3 + 2, none⟩ = some (.int .i64 (d[j]!).2.2)) ∧
    (∀ n os, Hid (Calls Try.prog g #[rc, .agg #[.int .i64 (d[i]!).1, .int .i64 (d[i]!).2.1, .int .i64 (d[i]!).2.2], .agg #[.int .i64 (d[j]!).1, .int .i64 (d[j]!).2.1, .int .i64 (d[j]!).2.2]] (grow (W.drewN n) os) fun e w' => e = .returned (.int .i64 (cf d[i]! d[j]!)) ∧ ∃ q os', w' = grow ((grow (W.drewN n) os).drewN q) os')) :=
  ⟨fun n os => (h.grew (grewN W n os)).c0 hi, fun n os => (h.grew (grewN W n os)).c1 hi, fun n os => (h.grew (grewN W n os)).c2 hi, fun n os => (h.grew (grewN W n os)).c0 hj, fun n os => (h.grew (grewN W n os)).c1 hj, fun n os => (h.grew (grewN W n os)).c2 hj, fun n os => hC.says _ _ _ (h.grew (grewN W n os)).kept⟩

set_option maxHeartbeats 4000000 in
set_option maxRecDepth 100000 in
theorem insertion_any (g : Nat) (rc : Value) (cf : Ent → Ent → Int) (rb cap : Nat) (w0 : World) (hC : CmpOk g rc cf rb w0) (d : Array Ent) (n : Nat) (hn : d.size = n) (hsm : n ≤ 1099511627776) (a b : Nat) (hab : a ≤ b) (hbn : b ≤ n) (w : World) (hS : Srt w0 rb cap d w) :
    Calls Try.prog 106 #[.slice (some ⟨rb, 0, none⟩) n cap, .int .i64 a, .int .i64 b, .func (.func g) #[rc] #[]] w fun e w' => e = .returned (.tuple #[]) ∧ Srt w0 rb cap (insertionSort (lo cf) d a b) w' := by
  have mixed : Try.prog.follows .mixedOrders = true := by kernel_rfl
  have eg := hC.enters
  have HC := Lib.hid hC
  have H0 : Hid (Srt w0 rb cap d w ∧ d.size = n) := ⟨hS, hn⟩
  clear hC hS hn
  go_enter Try.func106, Try.ntmps106
  have wa : IntKind.i64.wrap ((a : Int) + 1) = (a : Int) + 1 := by rw [IntKind.wrap_i64]; omega
  go_wp2_with fail
  go_loopg [8] (b - a) (fun gk s wr => ∃ (i : Nat) (di : Array Ent), s = .int .i64 i ∧ a < i ∧ i ≤ b + 1 ∧ b - i ≤ gk ∧ Hid (di.size = n ∧ Srt w0 rb cap di wr ∧ insOuter (lo cf) a b i di = insOuter (lo cf) a b (a + 1) d))
  case atStart => exact ⟨a + 1, d, by go_num, by omega, by omega, by omega, H0.out.2, H0.out.1, rfl⟩
  case round =>
    rename World => W1
    obtain ⟨i, di, rfl, hai, hib, hgk, HR⟩ := hrel
    by_cases hi : i < b
    · have hi' : decide ((i : Int) < (b : Int)) = true := decide_eq_true (by omega)
      have wi : IntKind.i64.wrap ((i : Int) + 1) = (i : Int) + 1 := by rw [IntKind.wrap_i64]; omega
      go_wp2_with fail
      go_loopg [9] i (fun gj s wr => ∃ (j : Nat) (dj : Array Ent), s = .int .i64 j ∧ j ≤ i ∧ j ≤ gj ∧ Hid (dj.size = n ∧ Srt w0 rb cap dj wr ∧ insInner (lo cf) a j dj = insInner (lo cf) a i di))
      case atStart => exact ⟨i, di, rfl, Nat.le_refl _, Nat.le_refl _, HR.out.1, HR.out.2.1, rfl⟩
      case round =>
        rename World => W2
        obtain ⟨j, dj, rfl, hji, hgj, HJ⟩ := hrel
        by_cases hja : a < j
        · obtain ⟨k, rfl⟩ : ∃ k, j = k + 1 := ⟨j - 1, by omega⟩
          have hja' : (a : Int) < (k : Int) + 1 := by omega
          have hjn : (k : Int) + 1 < (n : Int) := by omega
          have hkn : (k : Int) < (n : Int) := by omega
          have hk0 : (0 : Int) ≤ (k : Int) + 1 := by omega
          have hkt : ((k : Int) + 1).toNat = k + 1 := by omega
          have wk : IntKind.i64.wrap ((k : Int) + 1 - 1) = (k : Int) := by rw [IntKind.wrap_i64]; omega
          have wk2 : IntKind.i64.wrap (k : Int) = (k : Int) := by rw [IntKind.wrap_i64]; omega
          obtain ⟨c1, c2, c2b, c3, c4, c4b, c5⟩ := HJ.out.2.1.ask HC.out (i := k + 1) (j := k) (by rw [HJ.out.1]; omega) (by rw [HJ.out.1]; omega)
          obtain ⟨z, hz⟩ : ∃ z, cf dj[k + 1]! dj[k]! = z := ⟨_, rfl⟩
          have HZ := Lib.hid hz
          rw [hz] at c5
          clear hz
          generalize hx1 : (dj[k + 1]!).1 = x1 at *
          generalize hx2 : (dj[k + 1]!).2.1 = x2 at *
          generalize hx2b : (dj[k + 1]!).2.2 = x2b at *
          generalize hy1 : (dj[k]!).1 = y1 at *
          generalize hy2 : (dj[k]!).2.1 = y2 at *
          generalize hy2b : (dj[k]!).2.2 = y2b at *
          have HX : Hid ((dj[k + 1]!).1 = x1 ∧ (dj[k + 1]!).2.1 = x2 ∧ (dj[k + 1]!).2.2 = x2b ∧ (dj[k]!).1 = y1 ∧ (dj[k]!).2.1 = y2 ∧ (dj[k]!).2.2 = y2b) := ⟨hx1, hx2, hx2b, hy1, hy2, hy2b⟩
          clear hx1 hx2 hx2b hy1 hy2 hy2b
          by_cases hlt : z < 0
          · go_wp2_with fail
            go_quiet_grown (first | (go_at_fn g; refine Calls.grown_of (c5 _ _).out))
            obtain ⟨W3, hW3⟩ : ∃ W3, grow (W2.drewN nq) osq = W3 := ⟨_, rfl⟩
            have H3 : Hid (Srt w0 rb cap dj W3) := by rw [← hW3]; exact HJ.out.2.1.grew (grewN _ _ _)
            rw [hW3]
            clear hW3 c1 c2 c2b c3 c4 c4b c5
            have k1 : k + 1 < dj.size := by rw [HJ.out.1]; omega
            have k2 : k < dj.size := by rw [HJ.out.1]; omega
            have e1 := H3.out.c0 k1
            have e2 := H3.out.c1 k1
            have e2b := H3.out.c2 k1
            have e3 := H3.out.c0 k2
            have e4 := H3.out.c1 k2
            have e4b := H3.out.c2 k2
            rw [HX.out.1] at e1
            rw [HX.out.2.1] at e2
            rw [HX.out.2.2.1] at e2b
            rw [HX.out.2.2.2.1] at e3
            rw [HX.out.2.2.2.2.1] at e4
            rw [HX.out.2.2.2.2.2] at e4b
            have fz := H3.out.row.thaw
            have nn1 : ¬ (k + 1) * 3 = k * 3 := by omega
            have nn2 : ¬ k * 3 = (k + 1) * 3 := by omega
            have nn3 : ¬ (k + 1) * 3 = k * 3 + 1 := by omega
            have nn4 : ¬ k * 3 = (k + 1) * 3 + 1 := by omega
            have nn5 : ¬ (k + 1) * 3 = k * 3 + 2 := by omega
            have nn6 : ¬ k * 3 = (k + 1) * 3 + 2 := by omega
            have nn7 : ¬ (k + 1) * 3 + 1 = k * 3 := by omega
            have nn8 : ¬ k * 3 + 1 = (k + 1) * 3 := by omega
            have nn9 : ¬ (k + 1) * 3 + 1 = k * 3 + 2 := by omega
            have nn10 : ¬ k * 3 + 1 = (k + 1) * 3 + 2 := by omega
            have nn11 : ¬ (k + 1) * 3 + 2 = k * 3 := by omega
            have nn12 : ¬ k * 3 + 2 = (k + 1) * 3 := by omega
            have nn13 : ¬ (k + 1) * 3 + 2 = k * 3 + 1 := by omega
            have nn14 : ¬ k * 3 + 2 = (k + 1) * 3 + 1 := by omega
            have HS := Lib.hid (H3.out.swap k1 k2)
            rw [HX.out.1, HX.out.2.1, HX.out.2.2.1, HX.out.2.2.2.1, HX.out.2.2.2.2.1, HX.out.2.2.2.2.2] at HS
            go_wp2_with fail
            go_region
            go_wp2_with fail
            go_roundg k
            case measure => omega
            case rel =>
              refine ⟨k, swp dj (k + 1) k, by go_num, by omega, Nat.le_refl _, (show Hid _ from ⟨by rw [size_swp]; exact HJ.out.1, HS.out, ?_⟩)⟩
              have := insInner_go (lo cf) a (k + 1) dj hja (by show decide (cf dj[k + 1]! dj[k + 1 - 1]! < 0) = true; rw [Nat.add_sub_cancel, HZ.out]; exact decide_eq_true hlt)
              simp only [Nat.add_sub_cancel] at this
              rw [← HJ.out.2.2, this]
          · go_wp2_with fail
            go_quiet_grown (first | (go_at_fn g; refine Calls.grown_of (c5 _ _).out))
            go_wp2_with fail
            go_roundg (b - (i + 1))
            case measure => omega
            case rel =>
              refine ⟨i + 1, dj, by go_num, by omega, by omega, Nat.le_refl _, (show Hid _ from ⟨HJ.out.1, HJ.out.2.1.grew (grewN _ _ _), ?_⟩)⟩
              rw [← HR.out.2.2, insOuter_go _ _ _ _ _ hi, ← HJ.out.2.2, insInner_stop _ _ _ _ (.inr (by show decide (cf dj[k + 1]! dj[k + 1 - 1]! < 0) = false; rw [Nat.add_sub_cancel, HZ.out]; exact decide_eq_false (by omega)))]
        · have hja' : decide ((j : Int) > (a : Int)) = false := decide_eq_false (by omega)
          go_wp2_with fail
          go_quiet (fail)
          go_wp2_with fail
          go_roundg (b - (i + 1))
          case measure => omega
          case rel =>
            refine ⟨i + 1, dj, by go_num, by omega, by omega, Nat.le_refl _, (show Hid _ from ⟨HJ.out.1, HJ.out.2.1.grew (grewD _ _), ?_⟩)⟩
            rw [← HR.out.2.2, insOuter_go _ _ _ _ _ hi, ← HJ.out.2.2, insInner_stop _ _ _ _ (.inl (by omega))]
    · have hi' : decide ((i : Int) < (b : Int)) = false := decide_eq_false (by omega)
      go_wp2_with fail
      go_end0
      refine ⟨rfl, ?_⟩
      unfold insertionSort
      rw [← HR.out.2.2, insOuter_stop _ _ _ _ _ hi]
      exact HR.out.2.1

theorem reverseLoop_go (i j : Nat) (d : Array Ent) (h : i < j) : reverseLoop i j d = reverseLoop (i + 1) (j - 1) (swp d i j) := by
  conv => lhs; rw [reverseLoop]
  rw [if_pos h]
theorem reverseLoop_stop (i j : Nat) (d : Array Ent) (h : ¬ i < j) : reverseLoop i j d = d := by
  rw [reverseLoop, if_neg h]

set_option maxHeartbeats 4000000 in
set_option maxRecDepth 100000 in
theorem reverse_any (fv : Value) (rb cap : Nat) (w0 : World) (d : Array Ent) (n : Nat) (hn : d.size = n) (hsm : n ≤ 1099511627776) (a b : Nat) (hab : a < b) (hbn : b ≤ n) (w : World) (hS : Srt w0 rb cap d w) :
    Calls Try.prog 110 #[.slice (some ⟨rb, 0, none⟩) n cap, .int .i64 a, .int .i64 b, fv] w fun e w' => e = .returned (.tuple #[]) ∧ Srt w0 rb cap (reverseRange d a b) w' := by
  have H0 : Hid (Srt w0 rb cap d w ∧ d.size = n) := ⟨hS, hn⟩
  clear hS hn
  go_enter Try.func110, Try.ntmps110
  obtain ⟨m, rfl⟩ : ∃ m, b = m + 1 := ⟨b - 1, by omega⟩
  have wa : IntKind.i64.wrap ((m : Int) + 1 - 1) = (m : Int) := by rw [IntKind.wrap_i64]; omega
  have wa2 : IntKind.i64.wrap (m : Int) = (m : Int) := by rw [IntKind.wrap_i64]; omega
  go_wp2_with fail
  go_loopg [8, 9] n (fun gk s8 s9 wr => ∃ (i j : Nat) (di : Array Ent), s8 = .int .i64 i ∧ s9 = .int .i64 j ∧ i ≤ j + 1 ∧ j < n ∧ j - i ≤ gk ∧ Hid (di.size = n ∧ Srt w0 rb cap di wr ∧ reverseLoop i j di = reverseLoop a m d))
  case atStart => exact ⟨a, m, d, rfl, by first | rfl | go_num, by omega, by omega, by omega, H0.out.2, H0.out.1, rfl⟩
  case round =>
    rename World => W1
    obtain ⟨i, j, di, rfl, rfl, hij, hjn, hgk, HR⟩ := hrel
    by_cases h : i < j
    · obtain ⟨k, rfl⟩ : ∃ k, j = k + 1 := ⟨j - 1, by omega⟩
      have h' : decide ((i : Int) < (k : Int) + 1) = true := decide_eq_true (by omega)
      have q1 : (i : Int) < (n : Int) := by omega
      have q2 : (k : Int) + 1 < (n : Int) := by omega
      have q3 : (0 : Int) ≤ (k : Int) + 1 := by omega
      have q4 : ((k : Int) + 1).toNat = k + 1 := by omega
      have q5 : IntKind.i64.wrap ((i : Int) + 1) = (i : Int) + 1 := by rw [IntKind.wrap_i64]; omega
      have q6 : IntKind.i64.wrap ((k : Int) + 1 - 1) = (k : Int) := by rw [IntKind.wrap_i64]; omega
      have q7 : IntKind.i64.wrap (k : Int) = (k : Int) := by rw [IntKind.wrap_i64]; omega
      have k1 : k + 1 < di.size := by rw [HR.out.1]; omega
      have k2 : i < di.size := by rw [HR.out.1]; omega
      have e1 := HR.out.2.1.c0 k1
      have e2 := HR.out.2.1.c1 k1
      have e2b := HR.out.2.1.c2 k1
      have e3 := HR.out.2.1.c0 k2
      have e4 := HR.out.2.1.c1 k2
      have e4b := HR.out.2.1.c2 k2
      have fz := HR.out.2.1.row.thaw
      have nn1 : ¬ (k + 1) * 3 = i * 3 := by omega
      have nn2 : ¬ i * 3 = (k + 1) * 3 := by omega
      have nn3 : ¬ (k + 1) * 3 = i * 3 + 1 := by omega
      have nn4 : ¬ i * 3 = (k + 1) * 3 + 1 := by omega
      have nn5 : ¬ (k + 1) * 3 = i * 3 + 2 := by omega
      have nn6 : ¬ i * 3 = (k + 1) * 3 + 2 := by omega
      have nn7 : ¬ (k + 1) * 3 + 1 = i * 3 := by omega
      have nn8 : ¬ i * 3 + 1 = (k + 1) * 3 := by omega
      have nn9 : ¬ (k + 1) * 3 + 1 = i * 3 + 2 := by omega
      have nn10 : ¬ i * 3 + 1 = (k + 1) * 3 + 2 := by omega
      have nn11 : ¬ (k + 1) * 3 + 2 = i * 3 := by omega
      have nn12 : ¬ i * 3 + 2 = (k + 1) * 3 := by omega
      have nn13 : ¬ (k + 1) * 3 + 2 = i * 3 + 1 := by omega
      have nn14 : ¬ i * 3 + 2 = (k + 1) * 3 + 1 := by omega
      have n7 : ¬ k + 1 = i := by omega
      have n8 : ¬ i = k + 1 := by omega
      have HS := Lib.hid (HR.out.2.1.swap k2 k1)
      generalize (di[k + 1]!).1 = x1 at *
      generalize (di[k + 1]!).2.1 = x2 at *
      generalize (di[k + 1]!).2.2 = x2b at *
      generalize (di[i]!).1 = y1 at *
      generalize (di[i]!).2.1 = y2 at *
      generalize (di[i]!).2.2 = y2b at *
      go_wp2_with fail
      go_region
      go_wp2_with fail
      go_roundg (k - (i + 1))
      case measure => omega
      case rel =>
        refine ⟨i + 1, k, swp di i (k + 1), by go_num, by first | rfl | go_num, by omega, by omega, Nat.le_refl _, (show Hid _ from ⟨by rw [size_swp]; exact HR.out.1, HS.out, ?_⟩)⟩
        rw [← HR.out.2.2, reverseLoop_go _ _ _ h, Nat.add_sub_cancel]
    · have h' : decide ((i : Int) < (j : Int)) = false := decide_eq_false (by omega)
      go_wp2_with fail
      go_end0
      refine ⟨rfl, ?_⟩
      unfold reverseRange
      rw [Nat.add_sub_cancel, ← HR.out.2.2, reverseLoop_stop _ _ _ h]
      exact HR.out.2.1
end Go.Proofs.Ytcipilggddpnpaa.K
