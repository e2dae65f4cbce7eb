/-
  The walks of what makes digits: Of and Plus.
-/
import Derived.Test.YthindhclcdbnfaaDigR
import Derived.IntWalk
import Derived.Deep.RegionHeld3
import Derived.Deep.AppendLies
namespace Go.Proofs.Ythindhclcdbnfaa
open Go.RowKit
set_option linter.unusedVariables false

/-- A call that answers twelve digits of a number, in a block of its own. -/
def Makes (w : World) (A : Nat) (e : Ending) (w' : World) : Prop := ∃ g, e = .returned (.slice (some ⟨g, 0, none⟩) 12 12) ∧ NumD w' g A ∧ Below w.heap.size w w'

theorem own_next {W W' : World} {base : Nat} {v : Value} {n : Nat} {xs : List Value} (h : W.ownsRow base 3 1 v n xs) (hb : Below W.heap.size W W') : W'.ownsRow base 3 1 v n xs := by
  have hlt := h.lt
  obtain ⟨h1, h2⟩ := h
  refine ⟨h1, ?_⟩
  rcases h2 with h2 | ⟨g, cap, cur, rfl, hg, hh, r⟩
  · exact .inl h2
  · exact .inr ⟨g, cap, cur, rfl, hg, (hb.block g (hlt g rfl).2).trans hh, r⟩
theorem cellsD_append (l m : List Nat) : cellsD l ++ cellsD m = cellsD (l ++ m) := by unfold cellsD; rw [List.map_append]
theorem own_cells {W : World} {base g cap n : Nat} {l : List Nat} (h : W.ownsRow base 3 1 (.slice (some ⟨g, 0, none⟩) n cap) n (cellsD l)) : ∀ j u, (cellsD l)[j]? = some u → W.cell? ((⟨g, 0, none⟩ : Addr).add j) = some u := h.cells rfl
theorem digs_small (k n i : Nat) : (digs k n).getD i 0 ≤ 1099511627776 := by have := digs_lt k n i; omega
theorem getD_append_small (l m : List Nat) (hl : ∀ i, l.getD i 0 ≤ 1099511627776) (hm : ∀ i, m.getD i 0 ≤ 1099511627776) (i : Nat) : (l ++ m).getD i 0 ≤ 1099511627776 := by
  rcases Nat.lt_or_ge i l.length with h | h
  · rw [List.getD_eq_getElem?_getD, List.getElem?_append_left h, ← List.getD_eq_getElem?_getD]; exact hl i
  · rw [List.getD_eq_getElem?_getD, List.getElem?_append_right h, ← List.getD_eq_getElem?_getD]; exact hm _

set_option maxHeartbeats 1000000 in
theorem of_any (hi lo : Nat) (h1 : hi < 18446744073709551616) (h2 : lo < 18446744073709551616) (w : World) :
    Calls Try.prog 34 #[.int .u64 hi, .int .u64 lo] w (Makes w (hi * 18446744073709551616 + lo)) := by
  obtain ⟨i0, hi0, hz0, hz1, hz2⟩ := info_parts int_info
  have c1 := Lib.hid (fun W => digits_any lo h2 W)
  have c2 := Lib.hid (fun W => digits_any hi h1 W)
  have hv : valD (digs 4 lo ++ digs 4 hi) = hi * 18446744073709551616 + lo := by
    rw [valD_append, digs_length, valD_digs, valD_digs, Nat.mod_eq_of_lt (by omega), Nat.mod_eq_of_lt (by omega)]
    omega
  have Hv := Lib.hid hv
  have hA : hi * 18446744073709551616 + lo < 65536 ^ 12 := by
    have : hi * 18446744073709551616 + lo < 18446744073709551616 * 18446744073709551616 := by omega
    exact Nat.lt_of_lt_of_le this (by decide)
  have HA := Lib.hid hA
  clear hv hA
  generalize hi * 18446744073709551616 + lo = A at *
  go_enter Try.func34, Try.ntmps34
  go_wp2_with fail
  refine (c1.out _).mono ?_
  rintro e w1 ⟨g1, k1, rfl, o1, b1⟩
  have O1 := Lib.hid o1
  have B1 := Lib.hid b1
  clear o1 b1
  go_wp2_with fail
  refine (c2.out _).mono ?_
  rintro e w2 ⟨g2, k2, rfl, o2, b2⟩
  have O1' := Lib.hid (own_next O1.out b2)
  have O2 := Lib.hid o2
  have B2 : Hid (Below w.heap.size w w2) := B1.out.trans (b2.mono B1.out.size)
  have hs2 := B2.out.size
  clear o2 b2 O1
  go_wp2_with (at_builtin; refine wpList_append_own _ rfl (.tmp 6) (.tmp 8) _ rfl w.heap.size 3 i0 _ 1 8 Try.underlying35 hi0 hz0 hz1 hz2 rfl (by omega) (.slice (some ⟨g1, 0, none⟩) 4 k1) 4 (cellsD (digs 4 lo)) rfl O1'.out ⟨g2, 0, none⟩ 4 k2 (cellsD (digs 4 hi)) rfl rfl (own_cells O2.out) (cellsD_one _) (by simp only [maxLen]; omega) (by omega) hs2 ?_)
  intro v3 w3 o3 hg3 hn3
  have B3 : Hid (Below w.heap.size w w3) := B2.out.grown hg3 hs2 (fun g hg => (O1'.out.lt g hg).1)
  obtain ⟨g3, k3, rfl⟩ := Joins.ownsRow_form o3 (by omega)
  rw [cellsD_append] at o3
  have c3 := Lib.hid (carried_any g3 k3 (digs 4 lo ++ digs 4 hi) w3 (rowD_of_own o3 (by rw [List.length_append, digs_length, digs_length])) (getD_append_small _ _ (digs_small _ _) (digs_small _ _)) (by rw [List.length_append, digs_length, digs_length]; omega))
  rw [List.length_append, digs_length, digs_length, Hv.out] at c3
  clear o3 hg3 hn3 O1' O2 B1 B2 c1 c2
  go_wp2_with fail
  refine c3.out.mono ?_
  rintro e w4 ⟨rfl, r4, b4⟩
  go_wp2
  go_ret
  exact ⟨_, rfl, ⟨r4, HA.out⟩, B3.out.trans (b4.mono B3.out.size)⟩

/-- The sums of the first k digits of two numbers. -/
def sumsD (k A B : Nat) : List Nat := List.zipWith (· + ·) (digs k A) (digs k B)
theorem sumsD_length (k A B : Nat) : (sumsD k A B).length = k := by unfold sumsD; rw [List.length_zipWith, digs_length, digs_length, Nat.min_self]
theorem sumsD_snoc (k A B : Nat) : sumsD (k + 1) A B = sumsD k A B ++ [A / 65536 ^ k % 65536 + B / 65536 ^ k % 65536] := by
  unfold sumsD
  rw [digs_snoc, digs_snoc, List.zipWith_append (by rw [digs_length, digs_length])]
  rfl
theorem sumsD_small (k A B i : Nat) : (sumsD k A B).getD i 0 ≤ 1099511627776 := by
  unfold sumsD
  rcases Nat.lt_or_ge i k with h | h
  · rw [List.getD_eq_getElem?_getD, List.getElem?_eq_getElem (by rw [List.length_zipWith, digs_length, digs_length]; omega), List.getElem_zipWith]
    have e1 := digs_lt k A i
    have e2 := digs_lt k B i
    rw [List.getD_eq_getElem?_getD, List.getElem?_eq_getElem (by rw [digs_length]; omega)] at e1 e2
    simp only [Option.getD_some] at e1 e2 ⊢
    omega
  · rw [List.getD_eq_getElem?_getD, List.getElem?_eq_none (by rw [List.length_zipWith, digs_length, digs_length]; omega)]
    decide

/-- The loop of Plus, behind k rounds. -/
def PlusRel (w : World) (A B : Nat) (out i : Value) (wr : World) : Prop :=
  ∃ k : Nat, k ≤ 12 ∧ i = .int .i64 k ∧ wr.ownsRow w.heap.size 3 1 out k (cellsD (sumsD k A B)) ∧ Below w.heap.size w wr

set_option maxHeartbeats 1000000 in
theorem plus_any (ga gb ca cb A B : Nat) (w : World) (ha : NumD w ga A) (hb : NumD w gb B) (hs : A + B < 65536 ^ 12) :
    Calls Try.prog 36 #[.slice (some ⟨ga, 0, none⟩) 12 ca, .slice (some ⟨gb, 0, none⟩) 12 cb] w (Makes w (A + B)) := by
  obtain ⟨i0, hi0, hz0, hz1, hz2⟩ := info_parts int_info
  have Hs := Lib.hid hs
  have Ha := Lib.hid ha
  have Hb := Lib.hid hb
  clear hs ha hb
  go_enter Try.func36, Try.ntmps36
  go_wp2
  go_loopw [5, 6] (fun out i wr => PlusRel w A B out i wr) (fun _ i _ => 12 - (intOf i).toNat)
  case atStart => exact ⟨0, by omega, rfl, World.ownsRow_nil _ _ _ _, Below.refl _ _⟩
  case round =>
    obtain ⟨k, hk, rfl, hown, hbel⟩ := hrel
    have Hsn := Lib.hid (sumsD_snoc k A B)
    have hsz := hbel.size
    have Hown := Lib.hid hown
    have Hbel := Lib.hid hbel
    by_cases hlt : k < 12
    · have h1 : wr.cell? ⟨ga, k, none⟩ = some (.int .i64 ((A / 65536 ^ k % 65536 : Nat) : Int)) := by
        rw [hbel.cell (p := ⟨ga, k, none⟩) Ha.out.1.1]; exact Ha.out.at_ k hlt
      have h2 : wr.cell? ⟨gb, k, none⟩ = some (.int .i64 ((B / 65536 ^ k % 65536 : Nat) : Int)) := by
        rw [hbel.cell (p := ⟨gb, k, none⟩) Hb.out.1.1]; exact Hb.out.at_ k hlt
      have hx : A / 65536 ^ k % 65536 < 65536 := Nat.mod_lt _ (by decide)
      have hy : B / 65536 ^ k % 65536 < 65536 := Nat.mod_lt _ (by decide)
      generalize A / 65536 ^ k % 65536 = x at *
      generalize B / 65536 ^ k % 65536 = y at *
      obtain ⟨s, hs⟩ : ∃ s, x + y = s := ⟨_, rfl⟩
      have es : (x : Int) + (y : Int) = (s : Int) := by omega
      have ew : IntKind.i64.wrap (s : Int) = (s : Int) := IntWalk.i64_in _ (by omega)
      have hk0 : (0 : Int) ≤ (k : Int) := by omega
      have hk1 : (k : Int) < 12 := by omega
      rw [hs] at Hsn
      have Hhs := Lib.hid hs
      clear hown hbel hs
      have lga := Ha.out.1.1
      have lgb := Hb.out.1.1
      have ag : u5.ownBlock ≠ some ga := fun h => by have := (Hown.out.lt ga h).1; omega
      have bg : u5.ownBlock ≠ some gb := fun h => by have := (Hown.out.lt gb h).1; omega
      go_wp2
      go_region_held3 (fun w' => w'.cell? ⟨ga, k, none⟩ = some (.int .i64 (x : Int)) ∧ w'.cell? ⟨gb, k, none⟩ = some (.int .i64 (y : Int)))
        (first
          | go_keep
          | (go_split_ands
             refine ⟨?_, ?_⟩
             · (rw [hgrow.cell_far _ (by simp; omega) (Ne.symm ag)]; assumption)
             · (rw [hgrow.cell_far _ (by simp; omega) (Ne.symm bg)]; assumption)))
        ((refine step_append_lies _ (by rfl) _ _ _ (by rfl) w.heap.size 3 i0 _ 1 8 Try.underlying35 hi0 hz0 hz1 hz2 rfl (by omega) u5 k (cellsD (sumsD k A B)) (by rfl) ((Hown.out.alloc _).drew)
            ⟨wr.heap.size, 0, none⟩ 1 1 [.int .i64 (s : Int)] (by rfl) (by rfl) (World.news_of_block (cs := #[.int .i64 (s : Int)]) (t := 3) (fr := (0, 0)) (heap_alloc_new wr _)) (by simp [Value.oneCell'])
            (by omega) (by simp only [maxLen]; omega) (by omega) (by simp; omega) (wr.heap.size + 1) (by simp) ?_; intro gg cap w1 hown1 hgrow hat hlt1))
      have Hb1 : Hid (Below w.heap.size w w1) := ((Hbel.out.alloc Hbel.out.size (.cells #[.int .i64 (s : Int)] 3)).drew).grown hgrow (by simp; omega) (fun g hg => (Hown.out.lt g hg).1)
      have Hown1 : Hid (w1.ownsRow w.heap.size 3 1 (.slice (some ⟨gg, 0, none⟩) (k + 1) cap) (k + 1) (cellsD (sumsD (k + 1) A B))) := by
        rw [Hsn.out, ← cellsD_append]; exact hown1
      clear hown1 hgrow hat
      go_wp2
      exact ⟨⟨k + 1, by omega, by go_num, Hown1.out, Hb1.out⟩, by simp [intOf]; omega⟩
    · obtain rfl : k = 12 := by omega
      obtain ⟨g, cap, rfl⟩ := Joins.ownsRow_form hown (by omega)
      have c3 := Lib.hid (carried_any g cap (sumsD 12 A B) wr (rowD_of_own hown (sumsD_length _ _ _)) (sumsD_small _ _ _) (by rw [sumsD_length]; omega))
      have hv : valD (sumsD 12 A B) = A + B := by
        unfold sumsD
        rw [valD_sum, Nat.mod_eq_of_lt Ha.out.2, Nat.mod_eq_of_lt Hb.out.2]
      rw [sumsD_length, hv] at c3
      clear hown hbel Hown hv
      go_wp2_with fail
      refine c3.out.mono ?_
      rintro e w4 ⟨rfl, r4, b4⟩
      go_wp2
      go_ret
      exact ⟨_, rfl, ⟨r4, Hs.out⟩, Hbel.out.trans (b4.mono Hbel.out.size)⟩
end Go.Proofs.Ythindhclcdbnfaa
