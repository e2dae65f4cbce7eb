/-
  The reference's heap: lay.
-/
import Derived.Test.YtcipilggddpnpaaRfB
import Derived.Deep.DeepCutAuto
import Derived.Deep.LoopGhost
import Derived.Deep.CutBlock
namespace Go.Proofs.Ytcipilggddpnpaa
open Go.RowKit Go.Sort Go.Shelf Go.Maps
set_option linter.unusedVariables false
set_option linter.unusedSimpArgs false

/-- The list with k where it belongs. -/
def layR (k : Ent) : List Ent → List Ent
  | [] => [k]
  | x :: r => if ah x k = true then x :: layR k r else k :: x :: r

theorem drop_at {L : List Ent} {i : Nat} (hi : i < L.length) : L.drop i = (rid L i, rky L i) :: L.drop (i + 1) := by
  rw [drop_getD hi]; rfl
theorem take_at {L : List Ent} {i : Nat} (hi : i < L.length) : L.take (i + 1) = L.take i ++ [(rid L i, rky L i)] := by
  unfold rid rky
  rw [List.take_add_one, List.getElem?_eq_getElem hi, List.getD_eq_getElem?_getD, List.getElem?_eq_getElem hi]; rfl
theorem layR_step {L : List Ent} {k : Ent} {i : Nat} (hi : i < L.length) (h : layR k L = L.take i ++ layR k (L.drop i)) (ha : ah (rid L i, rky L i) k = true) : layR k L = L.take (i + 1) ++ layR k (L.drop (i + 1)) := by
  rw [h, drop_at hi, layR, if_pos ha, take_at hi]
  simp
theorem layR_stop {L : List Ent} {k : Ent} {i : Nat} (hi : i < L.length) (h : layR k L = L.take i ++ layR k (L.drop i)) (ha : ah (rid L i, rky L i) k = false) : layR k L = L.take i ++ k :: L.drop i := by
  rw [h, drop_at hi, layR, if_neg (by rw [ha]; decide)]
theorem layR_end {L : List Ent} {k : Ent} (h : layR k L = L.take L.length ++ layR k (L.drop L.length)) : layR k L = L.take L.length ++ k :: L.drop L.length := by
  rw [h, List.drop_length]; rfl

/-- What lay has laid so far, in blocks that it made itself. -/
def LayI (W0 : World) (L : List Ent) (v : Value) (i : Nat) (W : World) : Prop := W.ownsRow W0.heap.size 37 2 v i (flatR (L.take i)) ∧ Kept (fun _ => False) W0 W

theorem own_block {w : World} {B : Nat} {e : TypeId} {size : Nat} {v : Value} {n : Nat} {xs : List Value} (h : w.ownsRow B e size v n xs) : ∀ k, v.ownBlock = some k → B ≤ k := fun k hk => by
  rcases h.2 with ⟨rfl, _⟩ | ⟨g, cap, cur, rfl, hg, _⟩
  · cases hk
  · cases hk; exact hg
theorem own_kept {w w' : World} {B : Nat} {e : TypeId} {size : Nat} {v : Value} {n : Nat} {xs : List Value} (h : w.ownsRow B e size v n xs) (k : ∀ g, v.ownBlock = some g → w'.heap[g]? = w.heap[g]?) : w'.ownsRow B e size v n xs := by
  refine ⟨h.1, ?_⟩
  rcases h.2 with x | ⟨g, cap, cur, rfl, hg, h3, r⟩
  · exact .inl x
  · exact .inr ⟨g, cap, cur, rfl, hg, (k g rfl).trans h3, r⟩
theorem own_lt {w : World} {B : Nat} {e : TypeId} {size : Nat} {v : Value} {n : Nat} {xs : List Value} (h : w.ownsRow B e size v n xs) : ∀ k, v.ownBlock = some k → k < w.heap.size := fun k hk => by
  rcases h.2 with ⟨rfl, _⟩ | ⟨g, cap, cur, rfl, hg, h3, _⟩
  · cases hk
  · cases hk; exact (Array.getElem?_eq_some_iff.1 h3).1
theorem LayI.grew {W0 : World} {L : List Ent} {v : Value} {i : Nat} {W W' : World} (h : LayI W0 L v i W) (g : Grew W W') : LayI W0 L v i W' :=
  ⟨own_kept h.1 (fun k e => g.block (own_lt h.1 k e)), h.2.trans (g.kept _)⟩

theorem LayI.next {W0 : World} {L : List Ent} {v v' : Value} {i : Nat} {W W' : World} {u1 u2 : Value} (h : LayI W0 L v i W) (hi : i < L.length) (h1 : u1 = .int .i64 (rky L i)) (h2 : u2 = .int .i64 (rid L i)) (ho : W'.ownsRow W0.heap.size 37 2 v' (i + 1) (flatR (L.take i) ++ [u1, u2])) (hg : W.grownBy W' v.ownBlock) : LayI W0 L v' (i + 1) W' := by
  refine ⟨?_, h.2.grown hg (fun k e => .inr (own_block h.1 k e))⟩
  rw [take_at hi, flatR_append]
  rw [h1, h2] at ho
  exact ho

theorem two_cells (W : World) (u1 u2 : Value) {j : Nat} {u : Value} (h : [u1, u2][j]? = some u) : (W.alloc (.cells #[u1, u2] 37)).cell? ((⟨W.heap.size, 0, none⟩ : Addr).add j) = some u := by
  rcases j with _ | _ | j
  · simp at h; subst h; simp [go_sem, Addr.add]
  · simp at h; subst h; simp [go_sem, Addr.add]
  · simp at h

set_option maxHeartbeats 4000000 in
set_option maxRecDepth 20000 in
theorem lay_any (B : Nat) (w : World) (rf : Nat) (L : List Ent) (hs : L.length < 1099511627776) (hB : B ≤ w.heap.size) (h : RefIs B w rf L) (x y : Int) :
    Calls Try.prog 93 #[.pointer (some ⟨rf, 0, none⟩), .agg #[.int .i64 y, .int .i64 x]] w fun e w' => e = .returned (.tuple #[]) ∧ RefIs B w' rf (layR (x, y) L) ∧ Kept (fun k => k = rf) w w' := by
  have mixed : Try.prog.follows .mixedOrders = true := by kernel_rfl
  obtain ⟨i0, hi0, hz0, hz1, hz2⟩ := info_parts (P := Try.prog) (e := 37) (z := .agg #[.int .i64 0, .int .i64 0]) (size := 2) (bytes := 16) (by kernel_rfl)
  have HI : Hid (Try.prog.info? 37 = some i0 ∧ i0.zero = some (.agg #[.int .i64 0, .int .i64 0]) ∧ i0.size = 2 ∧ i0.bytes = 16) := ⟨hi0, hz0, hz1, hz2⟩
  obtain ⟨W0, hW0⟩ : ∃ W0, w.alloc (.cells #[.int .i64 y, .int .i64 x] 37) = W0 := ⟨_, rfl⟩
  have z0 : W0.heap.size = w.heap.size + 1 := by rw [← hW0]; simp
  have k0 : Kept (fun k => k = rf) w W0 := by rw [← hW0]; exact (Kept.refl _ w).alloc _
  have b0 : W0.heap[w.heap.size]? = some (.cells #[.int .i64 y, .int .i64 x] 37 (0, 0)) := by rw [← hW0]; exact heap_alloc_new _ _
  obtain ⟨a, cap, hrf, hown⟩ := h
  have rf0 : W0.heap[rf]? = some (.cells #[.slice a L.length cap] 48 (0, 0)) := by
    rw [← hW0, Below.heap_alloc _ _ _ (Array.getElem?_eq_some_iff.1 hrf).1]; exact hrf
  have rlt := (Array.getElem?_eq_some_iff.1 hrf).1
  have own0 : W0.ownsRow B 37 2 (.slice a L.length cap) L.length (flatR L) := own_kept hown (fun g e => by rw [← hW0]; exact Below.heap_alloc _ _ _ (own_lt hown g e))
  have facts : ∀ W, Kept (fun _ => False) W0 W → W.cell? ⟨rf, 0, none⟩ = some (.slice a L.length cap) ∧ W.cell? ⟨w.heap.size, 0, none⟩ = some (.int .i64 y) ∧ W.cell? ⟨w.heap.size, 1, none⟩ = some (.int .i64 x) ∧
      (∀ i, i < L.length → ∃ g, a = some ⟨g, 0, none⟩ ∧ W.cell? ⟨g, i * 2, none⟩ = some (.int .i64 (rky L i)) ∧ W.cell? ⟨g, i * 2 + 1, none⟩ = some (.int .i64 (rid L i))) := fun W hk => by
    have e1 := (hk.block rf (by omega) (fun x => x)).trans rf0
    have e2 := (hk.block w.heap.size (by omega) (fun x => x)).trans b0
    refine ⟨by simp [World.cell?, e1], by simp [World.cell?, e2], by simp [World.cell?, e2], fun i hi => ?_⟩
    have hr : RefIs B W rf L := ⟨a, cap, e1, own_kept own0 (fun g e => hk.block g (own_lt own0 g e) (fun x => x))⟩
    obtain ⟨a', cap', hc, hall⟩ := hr.at
    rw [show W.cell? ⟨rf, 0, none⟩ = some (.slice a L.length cap) by simp [World.cell?, e1]] at hc
    simp only [Option.some.injEq, Value.slice.injEq, true_and] at hc
    obtain ⟨rfl, rfl⟩ := hc
    exact hall i hi
  have FF := Lib.hid facts
  obtain ⟨f1, f2, f3, _⟩ := facts W0 (Kept.refl _ _)
  obtain ⟨n, hn⟩ : ∃ n, L.length = n := ⟨_, rfl⟩
  have HN := Lib.hid hn
  rw [hn] at f1 hs
  have KK := Lib.hid (And.intro k0 (And.intro rf0 own0))
  have WW := Lib.hid (And.intro hW0 (And.intro b0 (And.intro hown hrf)))
  have Z0 := Lib.hid z0
  clear z0 hn facts hi0 hz0 hz1 hz2 k0 b0 rf0 own0 hown hrf
  go_enter Try.func93, Try.ntmps93
  go_upto_block 0 with fail
  try rw [WW.out.1]
  go_cut [4, 5] (fun s4 s5 wc => ∃ i : Nat, i ≤ n ∧ s5 = .int .i64 i ∧ Hid (LayI W0 L s4 i wc ∧ layR (x, y) L = L.take i ++ (x, y) :: L.drop i))
  case first =>
    go_wp2_with fail
    go_loopg [4, 5] n (fun gk s4 s5 wr => ∃ i : Nat, i ≤ n ∧ n - i ≤ gk ∧ s5 = .int .i64 i ∧ Hid (LayI W0 L s4 i wr ∧ layR (x, y) L = L.take i ++ layR (x, y) (L.drop i)))
    case atStart => exact ⟨0, Nat.zero_le _, by omega, rfl, ⟨⟨by simp [flatR], .inl ⟨rfl, rfl⟩⟩, Kept.refl _ _⟩, by simp⟩
    case round =>
      obtain ⟨i, hin, hgk, rfl, HJ⟩ := hrel
      have K1 := HJ.out.1.2
      by_cases hi : i < n
      · have his : i < L.length := by rw [HN.out]; exact hi
        obtain ⟨g, rfl, _, _⟩ := (FF.out wr K1).2.2.2 i his
        have hiz : (i : Int) < (n : Int) := by omega
        have hid : decide ((i : Int) < (n : Int)) = true := decide_eq_true hiz
        have q4 : IntKind.i64.wrap ((i : Int) + 1) = (i : Int) + 1 := by rw [IntKind.wrap_i64]; omega
        have kg : ∀ q os, Kept (fun _ => False) W0 (grow (wr.drewN q) os) := fun q os => K1.trans (Grew.kept ⟨q, os, rfl⟩ _)
        have c1 : ∀ q os, (grow (wr.drewN q) os).cell? ⟨rf, 0, none⟩ = some (.slice (some ⟨g, 0, none⟩) n cap) := fun q os => by have := (FF.out _ (kg q os)).1; rwa [HN.out] at this
        have c2 : ∀ q os, (grow (wr.drewN q) os).cell? ⟨w.heap.size, 0, none⟩ = some (.int .i64 y) := fun q os => (FF.out _ (kg q os)).2.1
        have c3 : ∀ q os, (grow (wr.drewN q) os).cell? ⟨w.heap.size, 1, none⟩ = some (.int .i64 x) := fun q os => (FF.out _ (kg q os)).2.2.1
        have c45 : ∀ q os, (grow (wr.drewN q) os).cell? ⟨g, i * 2, none⟩ = some (.int .i64 (rky L i)) ∧ (grow (wr.drewN q) os).cell? ⟨g, i * 2 + 1, none⟩ = some (.int .i64 (rid L i)) := fun q os => by
          obtain ⟨g', e, h1, h2⟩ := (FF.out _ (kg q os)).2.2.2 i his
          simp only [Option.some.injEq, Addr.mk.injEq, and_true] at e
          subst e
          exact ⟨h1, h2⟩
        have c4 := fun q os => (c45 q os).1
        have c5 := fun q os => (c45 q os).2
        have C : ∀ q os, Hid (Calls Try.prog 105 #[.agg #[.int .i64 (rky L i), .int .i64 (rid L i)], .agg #[.int .i64 y, .int .i64 x]] (grow (wr.drewN q) os) fun e w' => e = .returned (.bool (ah (rid L i, rky L i) (x, y))) ∧ ∃ q' os', w' = grow ((grow (wr.drewN q) os).drewN q') os') := fun q os =>
          refAhead_any (rky L i) (rid L i) y x _
        have HU : Hid (∀ (v' : Value) (W1 W2 : World) (u1 u2 : Value), LayI W0 L u4 i W1 → u1 = .int .i64 (rky L i) → u2 = .int .i64 (rid L i) → W2.ownsRow W0.heap.size 37 2 v' (i + 1) (flatR (L.take i) ++ [u1, u2]) → W1.grownBy W2 u4.ownBlock → LayI W0 L v' (i + 1) W2) := fun v' W1 W2 u1 u2 h h1 h2 ho hg => h.next his h1 h2 ho hg
        have HS := Lib.hid (And.intro (fun h => layR_step (k := (x, y)) his HJ.out.2 h) (fun h => layR_stop (k := (x, y)) his HJ.out.2 h))
        clear c45 kg K1
        generalize ah (rid L i, rky L i) (x, y) = t at *
        generalize rky L i = ky at *
        generalize rid L i = ki at *
        go_wp2_with fail
        go_quiet_grown (first | (go_at_call 105; refine Calls.grown_of (C _ _).out))
        obtain ⟨W1, hW1⟩ : ∃ W1, grow (wr.drewN nq) osq = W1 := ⟨_, rfl⟩
        have G1 : Grew wr W1 := ⟨nq, osq, hW1.symm⟩
        have HJ1 := Lib.hid (HJ.out.1.grew G1)
        have d1 := c1 nq osq
        have d4 := c4 nq osq
        have d5 := c5 nq osq
        rw [hW1] at d1 d4 d5 ⊢
        clear c1 c2 c3 c4 c5 C hW1 G1 FF
        cases t with
        | true =>
          have HS1 := Lib.hid (HS.out.1 rfl)
          clear HS
          go_wp2_with (at_builtin; refine wpList_append_own _ rfl _ _ 46 rfl W0.heap.size 37 i0 (.agg #[.int .i64 0, .int .i64 0]) 2 16 Try.underlying46 HI.out.1 HI.out.2.1 HI.out.2.2.1 HI.out.2.2.2 rfl (by decide) _ _ _ rfl (own_kept HJ1.out.1 (fun g e => Below.heap_alloc _ _ _ (own_lt HJ1.out.1 g e))) ⟨W1.heap.size, 0, none⟩ 1 1 [.int .i64 ky, .int .i64 ki] rfl rfl (fun j u hj => two_cells _ _ _ hj) (by simp [Value.oneCell']) (by unfold maxLen; omega) (by omega) (by have := HJ1.out.2.size; simp; omega) ?_; intro v2 w2 ho2 hg2 _; have HN2 := Lib.hid (HU.out v2 _ w2 _ _ (HJ1.out.grew ((Grew.refl _).alloc _)) rfl rfl ho2 hg2); clear ho2 hg2)
          go_roundg (n - (i + 1))
          case measure => omega
          case rel => exact ⟨i + 1, by omega, Nat.le_refl _, by go_num, (show Hid _ from ⟨HN2.out, HS1.out⟩)⟩
        | false =>
          have HS1 := Lib.hid (HS.out.2 rfl)
          clear HS
          go_wp2_with fail
          go_meet
          case rel => exact ⟨i, hin, rfl, (show Hid _ from ⟨HJ1.out, HS1.out⟩)⟩
      · obtain rfl : i = n := by omega
        have hid : decide ((i : Int) < (i : Int)) = false := decide_eq_false (by omega)
        have f1 := (FF.out wr K1).1
        rw [HN.out] at f1
        have HE : Hid (LayI W0 L u4 i wr ∧ layR (x, y) L = L.take i ++ (x, y) :: L.drop i) := ⟨HJ.out.1, by have := HJ.out.2; rw [← HN.out] at this ⊢; exact layR_end this⟩
        clear FF K1
        go_wp2_with fail
        go_quiet (fail)
        go_wp2_with fail
        go_meet
        case rel => exact ⟨i, hin, rfl, (show Hid _ from ⟨HE.out.1.grew ⟨nq, #[], by rw [grow_empty]⟩, HE.out.2⟩)⟩
  case rest =>
    obtain ⟨i, hin, rfl, HC⟩ := hcut
    obtain ⟨g1, g2, g3, _⟩ := FF.out wc HC.out.1.2
    rw [HN.out] at g1
    have HE : Hid (∀ (v3 : Value) (w3 : World) (m : Nat), w3.ownsRow W0.heap.size 37 2 v3 m ((flatR (L.take i) ++ [.int .i64 y, .int .i64 x]) ++ flatR (L.drop i)) → Kept (fun _ => False) W0 w3 →
        (w3.cell? ⟨rf, 0, none⟩ = some (.slice a n cap) ∧ w3.frozen? ⟨rf, 0, none⟩ = false) ∧ RefIs B (w3.setCell ⟨rf, 0, none⟩ v3) rf (layR (x, y) L) ∧ Kept (fun k => k = rf) w (w3.setCell ⟨rf, 0, none⟩ v3)) := fun v3 w3 m ho hk => by
      obtain ⟨k0, rf0, own0⟩ := KK.out
      have hb : w3.heap[rf]? = some (.cells #[.slice a L.length cap] 48 (0, 0)) := (hk.block rf (by have := Z0.out; omega) (fun x => x)).trans rf0
      have hk2 : Kept (fun k => k = rf) w w3 := k0.trans (hk.mono (fun _ _ x => x.elim))
      refine ⟨⟨by simp [World.cell?, hb, HN.out], by simp [World.frozen?, hb]⟩, ?_, hk2.setCell (.inl rfl) _⟩
      have e1 : (flatR (L.take i) ++ [Value.int .i64 y, Value.int .i64 x]) ++ flatR (L.drop i) = flatR (layR (x, y) L) := by
        rw [HC.out.2, flatR_append]
        simp [flatR]
      rw [e1] at ho
      have hm : m = (layR (x, y) L).length := by have := ho.1; rw [len_flatR] at this; omega
      have ho2 : w3.ownsRow B 37 2 v3 m (flatR (layR (x, y) L)) := ⟨ho.1, by
        rcases ho.2 with x | ⟨g', c', cur, e, hg', r⟩
        · exact .inl x
        · exact .inr ⟨g', c', cur, e, by have := Z0.out; omega, r⟩⟩
      exact ref_store hb hm ho2
    go_wp2_with (at_builtin; refine wpList_append_own _ rfl _ _ 46 rfl W0.heap.size 37 i0 (.agg #[.int .i64 0, .int .i64 0]) 2 16 Try.underlying46 HI.out.1 HI.out.2.1 HI.out.2.2.1 HI.out.2.2.2 rfl (by decide) _ _ _ rfl (own_kept HC.out.1.1 (fun g e => Below.heap_alloc _ _ _ (own_lt HC.out.1.1 g e))) ⟨wc.heap.size, 0, none⟩ 1 1 [.int .i64 y, .int .i64 x] rfl rfl (fun j u hj => two_cells _ _ _ hj) (by simp [Value.oneCell']) (by unfold maxLen; omega) (by omega) (by have := HC.out.1.2.size; simp; omega) ?_)
    intro v2 w2 ho2 hg2 _
    have hk2 : Kept (fun _ => False) W0 w2 := (HC.out.1.2.alloc _).grown hg2 (fun k e => .inr (own_block HC.out.1.1 k e))
    have z2 := hk2.size
    have d1 := (FF.out w2 hk2).1
    rw [HN.out] at d1
    have HO := Lib.hid (And.intro ho2 hk2)
    have HB2 := Lib.hid (own_block ho2)
    clear ho2 hg2 hk2
    have hown0 := KK.out.2.2
    rcases hown0.2 with ⟨e, hn0⟩ | ⟨g, c, cur, e, _, h3, h4, h5, h6, h7⟩
    · simp only [Value.slice.injEq] at e
      obtain ⟨rfl, hL0, rfl⟩ := e
      have hn0 : n = 0 := by rw [← HN.out]; exact hL0
      subst hn0
      obtain rfl : i = 0 := by omega
      have HD : Hid (L.drop 0 = []) := List.eq_nil_of_length_eq_zero (by rw [List.length_drop, hL0])
      clear hL0 hown0 KK FF
      go_wp2_with (at_builtin; refine wpList_append_own_none rfl _ _ 46 rfl W0.heap.size 37 i0 2 Try.underlying46 HI.out.1 _ _ _ rfl HO.out.1 rfl ?_; have HX := HE.out v2 w2 _ (by rw [HD.out]; simpa [flatR] using HO.out.1) HO.out.2; obtain ⟨c2, f2⟩ := HX.1; have H2 := Lib.hid HX.2; clear HX; obtain ⟨a2, cap2, hv2⟩ := own_form HO.out.1; subst hv2)
      go_end0
      exact ⟨rfl, H2.out⟩
    · simp only [Value.slice.injEq] at e
      obtain ⟨rfl, _, rfl⟩ := e
      have hrow : RefRow W0 g L := ⟨(Array.getElem?_eq_some_iff.1 h3).1, fun j u hj => by
        have hl : j < L.length * 2 := by rw [← len_flatR]; exact (List.getElem?_eq_some_iff.1 hj).1
        have hj1 := hown0.cellAt j (by omega)
        rw [hj1, hj]⟩
      have hrow2 : RefRow w2 g L := hrow.kept (HO.out.2.block g hrow.1 (fun x => x))
      obtain ⟨ad, had, hnews⟩ := from_addr (L := L) g cap i h4
      have HA := Lib.hid (hnews w2 hrow2)
      have hcap : n ≤ cap := by rw [← HN.out]; exact h4
      have hin' : (i : Int) ≤ (n : Int) := by omega
      have hcap' : (n : Int) ≤ (cap : Int) := by omega
      have hic : (i : Int) ≤ (cap : Int) := by omega
      clear hnews hrow hrow2 h3 h4 h5 h6 h7 hown0 KK FF
      go_wp2_with (at_builtin; refine wpList_append_own _ rfl _ _ 46 rfl W0.heap.size 37 i0 (.agg #[.int .i64 0, .int .i64 0]) 2 16 Try.underlying46 HI.out.1 HI.out.2.1 HI.out.2.2.1 HI.out.2.2.2 rfl (by decide) _ _ _ rfl HO.out.1 ad (n - i) _ (flatR (L.drop i)) rfl (by rw [len_flatR, List.length_drop, HN.out]) HA.out (flatR_one _) (by unfold maxLen; omega) (by omega) z2 ?_; intro v3 w3 ho3 hg3 _; obtain ⟨a3, cap3, rfl⟩ := own_form ho3; have HX := HE.out _ w3 _ ho3 (HO.out.2.grown hg3 (fun k e => .inr (HB2.out k e))); obtain ⟨c2, f2⟩ := HX.1; have H2 := Lib.hid HX.2; clear HX ho3 hg3)
      go_end0
      exact ⟨rfl, H2.out⟩
end Go.Proofs.Ytcipilggddpnpaa
