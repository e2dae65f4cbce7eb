/-
  slices.SortFunc's family at entries: heapSort.
-/
import Derived.Test.YtcipilggddpnpaaSkC
namespace Go.Proofs.Ytcipilggddpnpaa.K
open Go.RowKit Go.Sort Go.Shelf Go.Maps
set_option linter.unusedVariables false
set_option linter.unusedSimpArgs false

/-- What an exchange asks of two places, which may be one: cells to store into, wherever it has come to. -/
theorem Srt.exch {w0 W : World} {rb cap : Nat} {d : Array Ent} (h : Srt w0 rb cap d W) {i j : Nat} (hi : i < d.size) (hj : j < d.size) (y1 y2 y3 : Int) :
    (∃ v1, (W.setCell ⟨rb, i * 3, none⟩ (.int .i64 y1)).cell? ⟨rb, j * 3, none⟩ = some v1) ∧ (∃ v2, ((W.setCell ⟨rb, i * 3, none⟩ (.int .i64 y1)).setCell ⟨rb, i * 3 + 1, none⟩ (.int .i64 y2)).cell? ⟨rb, j * 3 + 1, none⟩ = some v2) ∧ (∃ v3, (((W.setCell ⟨rb, i * 3, none⟩ (.int .i64 y1)).setCell ⟨rb, i * 3 + 1, none⟩ (.int .i64 y2)).setCell ⟨rb, i * 3 + 2, none⟩ (.int .i64 y3)).cell? ⟨rb, j * 3 + 2, none⟩ = some v3) := by
  have c0 := h.c0 hi
  have c1 := h.c1 hi
  have c2 := h.c2 hi
  have e0 := h.c0 hj
  have e1 := h.c1 hj
  have e2 := h.c2 hj
  by_cases e : i = j
  · subst e
    exact ⟨⟨.int .i64 y1, by simp [go_sem, c0]⟩, ⟨.int .i64 y2, by simp [go_sem, c1]⟩, ⟨.int .i64 y3, by simp [go_sem, c2]⟩⟩
  · have n1 : ¬ i * 3 = j * 3 := by omega
    have n2 : ¬ i * 3 = j * 3 + 1 := by omega
    have n3 : ¬ i * 3 + 1 = j * 3 + 1 := by omega
    have n4 : ¬ i * 3 = j * 3 + 2 := by omega
    have n5 : ¬ i * 3 + 1 = j * 3 + 2 := by omega
    have n6 : ¬ i * 3 + 2 = j * 3 + 2 := by omega
    exact ⟨⟨.int .i64 (d[j]!).1, by simp [go_sem, n1, e, e0]⟩, ⟨.int .i64 (d[j]!).2.1, by simp [go_sem, n2, n3, e, e1]⟩, ⟨.int .i64 (d[j]!).2.2, by simp [go_sem, n4, n5, n6, e, e2]⟩⟩

theorem size_sift {lt : Ent → Ent → Bool} (hi first : Nat) : ∀ (k root : Nat) (d : Array Ent), hi - root ≤ k → (siftDown lt hi first root d).size = d.size
  | 0, root, d, h => by rw [sift_end _ _ _ _ (by omega)]
  | k + 1, root, d, h => by
    by_cases he : hi ≤ 2 * root + 1
    · rw [sift_end _ _ _ _ he]
    · by_cases h1 : 2 * root + 2 < hi ∧ lt d[first + (2 * root + 1)]! d[first + (2 * root + 1) + 1]! = true
      · rw [sift_R _ _ _ _ h1.1 h1.2]
        split
        · rw [size_sift hi first k _ _ (by omega), size_swp]
        · rfl
      · rw [sift_L _ _ _ _ (by omega) (fun x => by cases e : lt d[first + (2 * root + 1)]! d[first + (2 * root + 1) + 1]!; rfl; exact absurd ⟨x, e⟩ h1)]
        split
        · rw [size_sift hi first k _ _ (by omega), size_swp]
        · rfl

set_option maxHeartbeats 4000000 in
set_option maxRecDepth 100000 in
theorem heapSort_any (g : Nat) (rc : Value) (cf : Ent → Ent → Int) (rb cap : Nat) (w0 : World) (hC : CmpOk g rc cf rb w0) (d : Array Ent) (n : Nat) (hn : d.size = n) (hsm : n ≤ 1099511627776) (a b : Nat) (hab : a < b) (hbn : b ≤ n) (w : World) (hS : Srt w0 rb cap d w) :
    Calls Try.prog 107 #[.slice (some ⟨rb, 0, none⟩) n cap, .int .i64 a, .int .i64 b, .func (.func g) #[rc] #[]] w fun e w' => e = .returned (.tuple #[]) ∧ Srt w0 rb cap (heapSort (lo cf) d a b) w' := by
  obtain ⟨h, hh⟩ : ∃ h, b - a = h := ⟨_, rfl⟩
  obtain ⟨m, hm⟩ : ∃ m, (h - 1) / 2 = m := ⟨_, rfl⟩
  have z1 : (b : Int) - (a : Int) = (h : Int) := by omega
  have z2 : IntKind.i64.wrap (h : Int) = (h : Int) := by rw [IntKind.wrap_i64]; omega
  have z3 : IntKind.i64.wrap ((h : Int) - 1) = (h : Int) - 1 := by rw [IntKind.wrap_i64]; omega
  have z4 : ((h : Int) - 1).tdiv 2 = (m : Int) := by rw [Int.tdiv_eq_ediv_of_nonneg (by omega)]; omega
  have z5 : IntKind.i64.wrap (m : Int) = (m : Int) := by rw [IntKind.wrap_i64]; omega
  have CS : Hid (∀ (dk : Array Ent) (W : World) (lw hi : Nat), dk.size = n → Srt w0 rb cap dk W → lw ≤ n → hi ≤ h → Calls Try.prog 117 #[.slice (some ⟨rb, 0, none⟩) n cap, .int .i64 lw, .int .i64 hi, .int .i64 a, .func (.func g) #[rc] #[]] W fun e w' => e = .returned (.tuple #[]) ∧ Srt w0 rb cap (siftDown (lo cf) hi a lw dk) w') :=
    fun dk W lw hi h1 h2 h3 h4 => sift_any g rc cf rb cap w0 hC dk n h1 hsm lw hi a h3 (by omega) W h2
  have H0 : Hid (Srt w0 rb cap d w ∧ d.size = n) := ⟨hS, hn⟩
  have he : heapSort (lo cf) d a b = heapPop (lo cf) a h (heapBuild (lo cf) h a (m + 1) d) := by unfold heapSort; rw [hh, hm]
  have HE := Lib.hid he
  clear he
  rw [HE.out]
  clear hC hS hn
  go_enter Try.func107, Try.ntmps107
  go_wp2_with fail
  go_loopg [11] (m + 1) (fun gk s wr => ∃ (k : Nat) (dk : Array Ent), s = .int .i64 ((k : Int) - 1) ∧ k ≤ m + 1 ∧ k ≤ gk ∧ Hid (dk.size = n ∧ Srt w0 rb cap dk wr ∧ heapBuild (lo cf) h a k dk = heapBuild (lo cf) h a (m + 1) d))
  case atStart => exact ⟨m + 1, d, by congr 1; omega, Nat.le_refl _, Nat.le_refl _, H0.out.2, H0.out.1, rfl⟩
  case round =>
    rename World => W1
    obtain ⟨k, dk, rfl, hkm, hgk, HR⟩ := hrel
    by_cases hk : 0 < k
    · obtain ⟨j, rfl⟩ : ∃ j, k = j + 1 := ⟨k - 1, by omega⟩
      have y1 : (((j + 1 : Nat) : Int)) - 1 = (j : Int) := by omega
      have y2 : decide ((j : Int) ≥ 0) = true := decide_eq_true (by omega)
      have y3 : IntKind.i64.wrap ((j : Int) - 1) = (j : Int) - 1 := by rw [IntKind.wrap_i64]; omega
      rw [y1]
      clear y1
      have C1 := Lib.hid (CS.out dk W1 j h HR.out.1 HR.out.2.1 (by omega) (Nat.le_refl _))
      go_wp2_with (go_at_call 117; (with_reducible refine C1.out.mono ?_); rintro e W2 ⟨rfl, h2⟩; have H2 := Lib.hid h2; clear h2)
      go_roundg j
      case measure => omega
      case rel => exact ⟨j, siftDown (lo cf) h a j dk, rfl, by omega, Nat.le_refl _, (show Hid _ from ⟨by rw [size_sift h a _ _ _ (Nat.le_refl _)]; exact HR.out.1, H2.out, by rw [← HR.out.2.2]; rfl⟩)⟩
    · obtain rfl : k = 0 := by omega
      have y2 : decide (((0 : Nat) : Int) - 1 ≥ 0) = false := by decide
      have HB : Hid (dk = heapBuild (lo cf) h a (m + 1) d ∧ dk.size = n ∧ Srt w0 rb cap dk W1) := ⟨HR.out.2.2, HR.out.1, HR.out.2.1⟩
      clear HE HR
      go_wp2_with fail
      go_loopg [12] h (fun gk s wr => ∃ (k : Nat) (dj : Array Ent), s = .int .i64 ((k : Int) - 1) ∧ k ≤ h ∧ k ≤ gk ∧ Hid (dj.size = n ∧ Srt w0 rb cap dj wr ∧ heapPop (lo cf) a k dj = heapPop (lo cf) a h dk))
      case atStart => exact ⟨h, dk, by first | rfl | go_num, Nat.le_refl _, Nat.le_refl _, HB.out.2.1, HB.out.2.2, rfl⟩
      case round =>
        rename World => W2
        obtain ⟨k, dj, rfl, hkh, hgk2, HR⟩ := hrel
        by_cases hk2 : 0 < k
        · obtain ⟨j, rfl⟩ : ∃ j, k = j + 1 := ⟨k - 1, by omega⟩
          have y1 : (((j + 1 : Nat) : Int)) - 1 = (j : Int) := by omega
          have y2 : decide ((j : Int) ≥ 0) = true := decide_eq_true (by omega)
          have y3 : IntKind.i64.wrap ((j : Int) - 1) = (j : Int) - 1 := by rw [IntKind.wrap_i64]; omega
          rw [y1]
          clear y1
          obtain ⟨p, hp⟩ : ∃ p, a + j = p := ⟨_, rfl⟩
          have y4 : (a : Int) + (j : Int) = (p : Int) := by omega
          have y5 : IntKind.i64.wrap (p : Int) = (p : Int) := by rw [IntKind.wrap_i64]; omega
          have y6 : (p : Int) < (n : Int) := by omega
          have y7 : (a : Int) < (n : Int) := by omega
          have ka : a < dj.size := by rw [HR.out.1]; omega
          have kp : p < dj.size := by rw [HR.out.1]; omega
          have e1 := HR.out.2.1.c0 ka
          have e2 := HR.out.2.1.c1 ka
          have e2b := HR.out.2.1.c2 ka
          have e3 := HR.out.2.1.c0 kp
          have e4 := HR.out.2.1.c1 kp
          have e4b := HR.out.2.1.c2 kp
          have fz := HR.out.2.1.row.thaw
          have HS := Lib.hid (HR.out.2.1.swap ka kp)
          obtain ⟨⟨v1, e5⟩, ⟨v2, e6⟩, v3, e7⟩ := HR.out.2.1.exch ka kp (dj[p]!).1 (dj[p]!).2.1 (dj[p]!).2.2
          have nn1 : ¬ a * 3 = p * 3 + 1 := by omega
          have nn2 : ¬ p * 3 = a * 3 + 1 := by omega
          have nn3 : ¬ a * 3 = p * 3 + 2 := by omega
          have nn4 : ¬ p * 3 = a * 3 + 2 := by omega
          have nn5 : ¬ a * 3 + 1 = p * 3 := by omega
          have nn6 : ¬ p * 3 + 1 = a * 3 := by omega
          have nn7 : ¬ a * 3 + 1 = p * 3 + 2 := by omega
          have nn8 : ¬ p * 3 + 1 = a * 3 + 2 := by omega
          have nn9 : ¬ a * 3 + 2 = p * 3 := by omega
          have nn10 : ¬ p * 3 + 2 = a * 3 := by omega
          have nn11 : ¬ a * 3 + 2 = p * 3 + 1 := by omega
          have nn12 : ¬ p * 3 + 2 = a * 3 + 1 := by omega
          have C1 : ∀ W, Srt w0 rb cap (swp dj a p) W → Hid (Calls Try.prog 117 #[.slice (some ⟨rb, 0, none⟩) n cap, .int .i64 0, .int .i64 j, .int .i64 a, .func (.func g) #[rc] #[]] W fun e w' => e = .returned (.tuple #[]) ∧ Srt w0 rb cap (siftDown (lo cf) j a 0 (swp dj a p)) w') := fun W hW => CS.out (swp dj a p) W 0 j (by rw [size_swp]; exact HR.out.1) hW (by omega) (by omega)
          generalize (dj[p]!).1 = x1 at *
          generalize (dj[p]!).2.1 = x2 at *
          generalize (dj[p]!).2.2 = x2b at *
          generalize (dj[a]!).1 = x3 at *
          generalize (dj[a]!).2.1 = x4 at *
          generalize (dj[a]!).2.2 = x4b at *
          go_wp2_with fail
          go_region
          go_wp2_with (go_at_call 117; (with_reducible refine (C1 _ HS.out).out.mono ?_); rintro e W3 ⟨rfl, h3⟩; have H3 := Lib.hid h3; clear h3)
          go_roundg j
          case measure => omega
          case rel => exact ⟨j, siftDown (lo cf) j a 0 (swp dj a p), rfl, by omega, Nat.le_refl _, (show Hid _ from ⟨by rw [size_sift j a _ _ _ (Nat.le_refl _), size_swp]; exact HR.out.1, H3.out, by rw [← HR.out.2.2, ← hp]; rfl⟩)⟩
        · obtain rfl : k = 0 := by omega
          have y3 : decide (((0 : Nat) : Int) - 1 ≥ 0) = false := by decide
          go_wp2_with fail
          go_end0
          refine ⟨rfl, ?_⟩
          rw [← HB.out.1, ← HR.out.2.2]
          exact HR.out.2.1
end Go.Proofs.Ytcipilggddpnpaa.K
