/-
  ready.Queue: Least.
-/
import Derived.Test.YtcipilggddpnpaaQg
namespace Go.Proofs.Ytcipilggddpnpaa
open Go.RowKit Go.Sort Go.Shelf Go.Maps
set_option linter.unusedVariables false
set_option linter.unusedSimpArgs false
attribute [local go_sem] Oper.semAt_some

/-- Between two rounds: the first k lie in the row that block lb tells; all else is as it was. -/
def LstI (W1 : World) (lb N : Nat) (T : List Ent) (k : Nat) (W : World) : Prop :=
  k ≤ N ∧ ∃ a cap, W.heap[lb]? = some (.cells #[.slice a k cap] 46 (0, 0)) ∧ W.ownsRow W1.heap.size 37 2 (.slice a k cap) k (flatR (T.take k)) ∧ Kept (fun i => i = lb) W1 W
theorem lstI_own {W1 : World} {lb N : Nat} {T : List Ent} (hl : lb < W1.heap.size) : OwnFrom W1.heap.size (LstI W1 lb N T) := fun k A B' row hs hg hr => by
  obtain ⟨h0, a, cap, h1, h2, h3⟩ := hs
  refine ⟨h0, a, cap, (hg.block lb (Array.getElem?_eq_some_iff.1 h1).1 (fun e => by have := (hr lb e.symm).1; omega)).trans h1, ?_, h3.grown hg (fun i e => .inr (hr i e).1)⟩
  refine own_kept h2 (fun g e => hg.block g (own_lt h2 g e) (fun e2 => ?_))
  obtain ⟨_, o, ho, hc⟩ := hr g e2.symm
  rcases h2.2 with ⟨x, _⟩ | ⟨g', cap', cur, x, hg', h3', _⟩
  · rw [x] at e; cases e
  · rw [x] at e
    cases e
    rw [h3'] at ho
    cases ho
    cases hc
theorem LstI.grew {W1 W W' : World} {lb N k : Nat} {T : List Ent} (hl : lb < W1.heap.size) (h : LstI W1 lb N T k W) (g : Grew W W') : LstI W1 lb N T k W' := by
  obtain ⟨h0, a, cap, h1, h2, h3⟩ := h
  exact ⟨h0, a, cap, (g.block (Array.getElem?_eq_some_iff.1 h1).1).trans h1, own_kept h2 (fun b e => g.block (own_lt h2 b e)), h3.trans (g.kept _)⟩

/-- A block of cells stays through what a range's own books turn. -/
theorem cells_own {B : Nat} {kb : Nat} {o : Obj} (ho : o.isCells = true) : OwnFrom B (fun (_ : Nat) (W : World) => W.heap[kb]? = some o) := fun k A B' row hs hg hr =>
  (hg.block kb (Array.getElem?_eq_some_iff.1 hs).1 (fun e => by
    obtain ⟨_, o', h1, h2⟩ := hr kb e.symm
    rw [hs] at h1
    cases h1
    rw [ho] at h2
    cases h2)).trans hs
theorem LstI.next {W1 Wb w2 : World} {lb N k : Nat} {T : List Ent} {a : Option Addr} {cap : Nat} {v2 : Value} (hl : lb < W1.heap.size) (hk : k < T.length) (hN : k + 1 ≤ N)
    (h1 : Wb.heap[lb]? = some (.cells #[.slice a k cap] 46 (0, 0))) (h2 : Wb.ownsRow W1.heap.size 37 2 (.slice a k cap) k (flatR (T.take k))) (h3 : Kept (fun i => i = lb) W1 Wb) (o : Obj)
    (ho : w2.ownsRow W1.heap.size 37 2 v2 (k + 1) (flatR (T.take k) ++ [.int .i64 (T.getD k (0, 0)).2, .int .i64 (T.getD k (0, 0)).1])) (hg : (Wb.alloc o).grownBy w2 (Value.slice a k cap).ownBlock) :
    LstI W1 lb N T (k + 1) (w2.setCell ⟨lb, 0, none⟩ v2) ∧ w2.cell? ⟨lb, 0, none⟩ = some (.slice a k cap) ∧ w2.frozen? ⟨lb, 0, none⟩ = false := by
  have hne : some lb ≠ (Value.slice a k cap).ownBlock := fun e => by have := own_block h2 lb e.symm; omega
  have hlb : lb < Wb.heap.size := (Array.getElem?_eq_some_iff.1 h1).1
  have e1 : w2.heap[lb]? = some (.cells #[.slice a k cap] 46 (0, 0)) := (hg.block lb (by simp; omega) hne).trans ((Below.heap_alloc _ _ _ hlb).trans h1)
  obtain ⟨a2, cap2, rfl⟩ := own_form ho
  refine ⟨⟨hN, a2, cap2, ?_, ?_, ?_⟩, by simp [World.cell?, e1], by simp [World.frozen?, e1]⟩
  · simp [World.setCell, Array.getElem?_modify, e1]
  · have e : flatR (T.take k) ++ [Value.int .i64 (T.getD k (0, 0)).2, Value.int .i64 (T.getD k (0, 0)).1] = flatR (T.take (k + 1)) := by
      have : T.take (k + 1) = T.take k ++ [T.getD k (0, 0)] := by
        rw [List.take_add_one, List.getD_eq_getElem?_getD, List.getElem?_eq_getElem hk]; rfl
      rw [this, flatR_append]
      rfl
    rw [← e]
    exact own_kept ho (fun g eg => Below.heap_setCell _ _ _ _ (by have := own_block ho g eg; show g ≠ lb; omega))
  · exact (((h3.alloc o).grown hg (fun i e => .inr (own_block h2 i e)))).setCell (.inl rfl) _

theorem own_cellsAt {w : World} {B : Nat} {e : TypeId} {size : Nat} {v : Value} {n : Nat} {xs : List Value} (h : w.ownsRow B e size v n xs) {g : Nat} (hg : v.ownBlock = some g) : ∃ o, w.heap[g]? = some o ∧ o.isCells = true := by
  rcases h.2 with ⟨x, _⟩ | ⟨g', cap', cur, x, hg', h3', _⟩
  · rw [x] at hg; cases hg
  · rw [x] at hg
    cases hg
    exact ⟨_, h3', rfl⟩
theorem LstI.keeps {W1 Wb w2 : World} {lb k : Nat} {T : List Ent} {a : Option Addr} {cap : Nat} {v2 : Value} (hl : lb < W1.heap.size)
    (h2 : Wb.ownsRow W1.heap.size 37 2 (.slice a k cap) k (flatR (T.take k))) (h3 : Kept (fun i => i = lb) W1 Wb) (o : Obj) (hg : (Wb.alloc o).grownBy w2 (Value.slice a k cap).ownBlock) :
    KeepsFrom W1.heap.size Wb (w2.setCell ⟨lb, 0, none⟩ v2) ∧ ∀ i, lb < i → i < W1.heap.size → (w2.setCell ⟨lb, 0, none⟩ v2).heap[i]? = Wb.heap[i]? := by
  have hz := hg.size
  have hz2 : (Wb.alloc o).heap.size = Wb.heap.size + 1 := by simp
  have h3s := h3.size
  refine ⟨⟨by rw [World.size_setCell]; omega, fun i o' hi ho hno => ?_⟩, fun i h1 h4 => ?_⟩
  · have hlt : i < Wb.heap.size := (Array.getElem?_eq_some_iff.1 ho).1
    rw [Below.heap_setCell _ _ _ _ (by show i ≠ lb; omega), hg.block i (by omega) (fun e => ?_), Below.heap_alloc _ _ _ hlt]
    · exact ho
    · obtain ⟨o2, e1, e2⟩ := own_cellsAt h2 e.symm
      rw [ho] at e1
      cases e1
      rw [hno] at e2
      cases e2
  · rw [Below.heap_setCell _ _ _ _ (by show i ≠ lb; omega), hg.block i (by omega) (fun e => by have := own_block h2 i e.symm; omega), Below.heap_alloc _ _ _ (by omega)]
theorem LstI.leave {w W1 W : World} {lb N k D : Nat} {T : List Ent} {a : Option Addr} {cap : Nat} (hk : k = min N T.length) (h2 : W.ownsRow W1.heap.size 37 2 (.slice a k cap) k (flatR (T.take k))) (h3 : Kept (fun i => i = lb) W1 W) (K1 : Kept (fun _ => False) w W1) (hD : W1.heap.size ≤ D) (hdef : W.heap[D]? = some (.deferred (some []))) (hle : w.heap.size ≤ lb) :
    (W.putObj D (.deferred none)).ownsRow w.heap.size 37 2 (.slice a (min N T.length) cap) (min N T.length) (flatR (T.take N)) ∧ Kept (fun _ => False) w (W.putObj D (.deferred none)) := by
  have hs := K1.size
  have hkp : Kept (fun i => i = D) W (W.putObj D (.deferred none)) := (Kept.refl _ W).grown (grownBy_putObj' W D _) (fun k e => by cases e; exact .inl rfl)
  have e1 : T.take N = T.take k := by
    rw [hk]
    by_cases h : N ≤ T.length
    · rw [Nat.min_eq_left h]
    · rw [Nat.min_eq_right (by omega), List.take_of_length_le (by omega), List.take_of_length_le (Nat.le_refl _)]
  refine ⟨?_, (K1.andThen h3 (fun i e => .inr (by omega))).andThen hkp (fun i e => .inr (by omega))⟩
  rw [e1, ← hk]
  have h4 : (W.putObj D (.deferred none)).ownsRow W1.heap.size 37 2 (.slice a k cap) k (flatR (T.take k)) := own_kept h2 (fun g e => hkp.block g (own_lt h2 g e) (fun x => by
    obtain ⟨o2, e1, e2⟩ := own_cellsAt h2 e
    have x : g = D := x
    rw [x, hdef] at e1
    cases e1
    cases e2))
  refine ⟨h4.1, ?_⟩
  rcases h4.2 with x | ⟨g', cap', cur, x, hg', r⟩
  · exact .inl x
  · exact .inr ⟨g', cap', cur, x, by omega, r⟩

set_option maxHeartbeats 2000000 in
set_option maxRecDepth 100000 in
theorem qleast_any {B : Nat} {w : World} {q : QB} {L T : List Ent} (h : Qs B w q L) (hT : T.Perm L) (hs : Sorted T) (hd : T.Pairwise (fun x y => x.1 ≠ y.1)) (hl : T.length < 1099511627776) (n : Int) :
    Calls Try.prog 24 #[.pointer (some ⟨q.qb, 0, none⟩), .int .i64 n] w fun E w' => ∃ a cap, E = .returned (.slice a (min n.toNat T.length) cap) ∧ w'.ownsRow w.heap.size 37 2 (.slice a (min n.toNat T.length) cap) (min n.toNat T.length) (flatR (T.take n.toNat)) ∧ Kept (fun _ => False) w w' := by
  obtain ⟨i0, hi0, hz0, hz1, hz2⟩ := info_parts (P := Try.prog) (e := 37) (z := .agg #[.int .i64 0, .int .i64 0]) (size := 2) (bytes := 16) (by kernel_rfl)
  have HI : Hid (Try.prog.info? 37 = some i0 ∧ i0.zero = some (.agg #[.int .i64 0, .int .i64 0]) ∧ i0.size = 2 ∧ i0.bytes = 16) := ⟨hi0, hz0, hz1, hz2⟩
  obtain ⟨W0, hW0⟩ : ∃ W0, (w.alloc (.cells #[.int .i64 n] 3)).alloc (.cells #[.slice none 0 0] 46) = W0 := ⟨_, rfl⟩
  have g0 : Grew w W0 := by rw [← hW0]; exact ((Grew.refl w).alloc _).alloc _
  have z0 : W0.heap.size = w.heap.size + 2 := by rw [← hW0]; simp
  have b1 : W0.heap[w.heap.size]? = some (.cells #[.int .i64 n] 3 (0, 0)) := by
    rw [← hW0, Below.heap_alloc _ _ _ (by simp)]
    exact heap_alloc_new _ _
  have b2 : W0.heap[w.heap.size + 1]? = some (.cells #[.slice none 0 0] 46 (0, 0)) := by
    rw [← hW0]
    have := heap_alloc_new (w.alloc (.cells #[.int .i64 n] 3)) (.cells #[.slice none 0 0] 46)
    simpa using this
  have C1 := Lib.hid (fromFirst_any (h.grew g0))
  have C2 := Lib.hid (up_all ((h.grew g0).perm hT.symm).up hd hs)
  have B12 : Hid (W0.heap[w.heap.size]? = some (.cells #[.int .i64 n] 3 (0, 0)) ∧ W0.heap[w.heap.size + 1]? = some (.cells #[.slice none 0 0] 46 (0, 0)) ∧ Grew w W0 ∧ W0.heap.size = w.heap.size + 2) := ⟨b1, b2, g0, z0⟩
  have HW := Lib.hid hW0
  clear h hT hs hd g0 z0 b1 b2 hW0 hi0 hz0 hz1 hz2
  refine calls_marks Try.func24 rfl ?_
  simp only [Try.ntmps24, List.size_toArray, List.length_cons, List.length_nil, Nat.reduceAdd, Nat.reduceSub, Array.replicate_succ, Array.replicate_zero, List.push_toArray, List.append_toArray, List.nil_append, List.cons_append]
  go_wp2_with fail
  rw [HW.out]
  refine C1.out.mono ?_
  rintro e W1' ⟨rfl, rfl⟩
  go_wp2_with fail
  refine C2.out.mono ?_
  rintro e W1 ⟨rfl, hseq, hk⟩
  obtain ⟨rb, r1, r2, r3, hnth⟩ := K.all_nth _ _ (T.map kN) (by rw [List.length_map]; omega) W1 hseq
  obtain ⟨b1, b2, g0, z0⟩ := B12.out
  have zk := hk.size
  have d1 : W1.heap[w.heap.size]? = some (.cells #[.int .i64 n] 3 (0, 0)) := (hk.block _ (by omega) (fun x => x)).trans b1
  have d2 : W1.heap[w.heap.size + 1]? = some (.cells #[.slice none 0 0] 46 (0, 0)) := (hk.block _ (by omega) (fun x => x)).trans b2
  have hk1 : Kept (fun _ => False) w W1 := (g0.kept _).trans hk
  obtain ⟨cb, hcb⟩ : ∃ cb, W0.heap.size = cb := ⟨_, rfl⟩
  have zz : w.heap.size + 1 < cb := by omega
  have zc : cb ≤ W1.heap.size := by omega
  rw [hcb] at r1 r3 hnth ⊢
  have H0 : LstI W1 (w.heap.size + 1) n.toNat T 0 W1 := ⟨Nat.zero_le _, none, 0, d2, ⟨rfl, .inl ⟨rfl, rfl⟩⟩, Kept.refl _ _⟩
  have hoI := lstI_own (N := n.toNat) (T := T) (show w.heap.size + 1 < W1.heap.size by omega)
  have K1 := Lib.hid hk1
  have D1 := Lib.hid d1
  clear hseq hk C1 C2 z0 zk hcb b1 b2 g0 B12 HW hk1 d1 d2
  go_wp2_with fail
  refine wp_rangeNth (gf := 77) (lb := #[.pointer (some ⟨cb, 0, none⟩)]) (encs := K.enN (T.map kN)) (Kp := K.Pair2 cb rb) (N := (T.map kN).length) (w0 := W1) ?hg ?eg hnth ?kt ?kb (Below.refl _ _) ?ps (LstI W1 (w.heap.size + 1) n.toNat T) (fun c k W => c = .exit 0 ∧ LstI W1 (w.heap.size + 1) n.toNat T k W ∧ k = n.toNat) hoI ?hix H0 ?round ?done ?stop
  case hg => rfl
  case eg => exact enters_of Try.func77 (by kernel_rfl) rfl
  case kt => exact fun h k => h.trans k
  case kb => exact fun W l o o' h1 h2 h3 => K.Pair2.put r3 r2 W l o o' h1 h2 h3
  case ps => exact fun _ => rfl
  case hix => exact fun c s A B row hs hg hr => ⟨hs.1, hoI s A B row hs.2.1 hg hr, hs.2.2⟩
  case round =>
    intro l k Wk hks hi
    have e1 : K.rid (T.map kN) k = (T.getD k (0, 0)).1 := by unfold K.rid; rw [getD_kN]; rfl
    have e2 : K.rky (T.map kN) k = ((T.getD k (0, 0)).2, (T.getD k (0, 0)).1) := by unfold K.rky; rw [getD_kN]; rfl
    have hsz := hi.2.choose_spec.choose_spec.2.2.size
    have hkl : k < T.length := by simpa using hks
    obtain ⟨x, hx⟩ : ∃ x, T.getD k (0, 0) = x := ⟨_, rfl⟩
    unfold K.enN
    rw [e1, e2, hx]
    have HX := Lib.hid hx
    clear e1 e2 hx
    obtain ⟨id, tm⟩ := x
    simp only []
    gi_wp2
    obtain ⟨W2, hW2⟩ : ∃ W2, Wk.alloc (.cells #[.int .i64 tm, .int .i64 id] 37) = W2 := ⟨_, rfl⟩
    have g2 : Grew Wk W2 := by rw [← hW2]; exact (Grew.refl Wk).alloc _
    have hi2 := LstI.grew (show w.heap.size + 1 < W1.heap.size by omega) hi g2
    have kb2 : W2.heap[Wk.heap.size]? = some (.cells #[.int .i64 tm, .int .i64 id] 37 (0, 0)) := by rw [← hW2]; exact heap_alloc_new _ _
    rw [hW2]
    refine ⟨(g2.kept (fun _ => False)).from _ (fun _ x => x.elim), ⟨g2.block (by omega), g2.block (by omega)⟩, fun Wb hbz => ?_⟩
    have hi3 := hbz.own hoI hi2
    have kb3 : Wb.heap[Wk.heap.size]? = some (.cells #[.int .i64 tm, .int .i64 id] 37 (0, 0)) := hbz.own (s := 0) (cells_own rfl) kb2
    obtain ⟨h0, a, cap, h1, h2, h3⟩ := hi3
    have c1 : Wb.cell? ⟨w.heap.size + 1, 0, none⟩ = some (.slice a k cap) := by simp [World.cell?, h1]
    have c2 : Wb.cell? ⟨w.heap.size, 0, none⟩ = some (.int .i64 n) := by
      have e := (h3.block w.heap.size (by omega) (by omega)).trans D1.out
      simp [World.cell?, e]
    have c3 : Wb.cell? ⟨Wk.heap.size, 0, none⟩ = some (.int .i64 tm) := by simp [World.cell?, kb3]
    have c4 : Wb.cell? ⟨Wk.heap.size, 1, none⟩ = some (.int .i64 id) := by simp [World.cell?, kb3]
    have H3 : Hid (Wb.heap[w.heap.size + 1]? = some (.cells #[.slice a k cap] 46 (0, 0)) ∧ Wb.ownsRow W1.heap.size 37 2 (.slice a k cap) k (flatR (T.take k)) ∧ Kept (fun i => i = w.heap.size + 1) W1 Wb ∧ k ≤ n.toNat) := ⟨h1, h2, h3, h0⟩
    have zb := h3.size
    obtain ⟨kb, hkb⟩ : ∃ kb, Wk.heap.size = kb := ⟨_, rfl⟩
    rw [hkb] at c3 c4 ⊢
    clear h1 h2 h3 h0 hi2 kb2 kb3 hi g2 hbz hW2 hnth H0
    by_cases hbr : n ≤ (k : Int)
    · have t1 : decide ((k : Int) ≥ n) = true := decide_eq_true hbr
      gi_wp2
      refine ⟨KeepsFrom.refl _ _, rfl, ⟨H3.out.2.2.2, a, cap, H3.out.1, H3.out.2.1, H3.out.2.2.1⟩, ?_⟩
      have := H3.out.2.2.2
      omega
    · have t1 : decide ((k : Int) ≥ n) = false := decide_eq_false (by omega)
      have hN : k + 1 ≤ n.toNat := by omega
      gi_wp2_with (gi_at_builtin; refine wpListIn_append_own _ rfl _ _ 46 rfl W1.heap.size 37 i0 (.agg #[.int .i64 0, .int .i64 0]) 2 16 Try.underlying46 HI.out.1 HI.out.2.1 HI.out.2.2.1 HI.out.2.2.2 rfl (by decide) _ _ _ rfl (own_kept H3.out.2.1 (fun g e => Below.heap_alloc _ _ _ (own_lt H3.out.2.1 g e))) ⟨Wb.heap.size, 0, none⟩ 1 1 [.int .i64 tm, .int .i64 id] rfl rfl (fun j u hj => two_cells _ _ _ hj) (by simp [Value.oneCell']) (by unfold maxLen; omega) (by omega) (by simp; omega) ?_; intro v2 w2 ho2 hg2 _; obtain ⟨a2, cap2, rfl⟩ := own_form ho2; have HN2 := Lib.hid (LstI.next (show w.heap.size + 1 < W1.heap.size by omega) hkl hN H3.out.1 H3.out.2.1 H3.out.2.2.1 _ (by rw [HX.out]; exact ho2) hg2); obtain ⟨_, d1, d2⟩ := HN2.out; have HK2 := Lib.hid (LstI.keeps (v2 := .slice a2 (k + 1) cap2) (show w.heap.size + 1 < W1.heap.size by omega) H3.out.2.1 H3.out.2.2.1 _ hg2); clear ho2 hg2)
      refine ⟨HK2.out.1, ⟨HK2.out.2 cb (by omega) r3, HK2.out.2 rb (by omega) r2⟩, HN2.out.1⟩
  case done =>
    intro D W5 hD hi hdef
    obtain ⟨h0, a, cap, h1, h2, h3⟩ := hi
    rw [List.length_map] at h0 h1 h2
    have c1 : W5.cell? ⟨w.heap.size + 1, 0, none⟩ = some (.slice a T.length cap) := by simp [World.cell?, h1]
    have em : T.length = min n.toNat T.length := by omega
    have HF := Lib.hid (LstI.leave em h2 h3 K1.out hD hdef (by omega))
    clear h1 h2 h3 h0 hnth H0 hoI
    rw [← em] at HF
    have EM := Lib.hid em
    clear em
    go_wp2_with fail
    refine leave_one hdef ⟨.slice a T.length cap, by simp [results, Try.f24, go_sem], a, cap, by rw [← EM.out], by rw [← EM.out]; exact HF.out.1, HF.out.2⟩
  case stop =>
    intro D c k W5 hD hks hx hdef
    obtain ⟨rfl, hi, rfl⟩ := hx
    obtain ⟨h0, a, cap, h1, h2, h3⟩ := hi
    rw [List.length_map] at hks
    have c1 : W5.cell? ⟨w.heap.size + 1, 0, none⟩ = some (.slice a n.toNat cap) := by simp [World.cell?, h1]
    have em : n.toNat = min n.toNat T.length := by omega
    have HF := Lib.hid (LstI.leave em h2 h3 K1.out hD hdef (by omega))
    clear h1 h2 h3 h0 hnth H0 hoI
    rw [← em] at HF
    have EM := Lib.hid em
    clear em
    go_wp2_with fail
    refine leave_one hdef ⟨.slice a n.toNat cap, by simp [results, Try.f24, go_sem], a, cap, by rw [← EM.out], by rw [← EM.out]; exact HF.out.1, HF.out.2⟩
end Go.Proofs.Ytcipilggddpnpaa
