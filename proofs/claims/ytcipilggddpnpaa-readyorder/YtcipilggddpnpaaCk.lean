/-
  (*Heap[api.Key]).Copy, whatever its order: a heap of its own that holds the same.
-/
import Derived.Test.YtcipilggddpnpaaKq
import Derived.Test.YtcipilggddpnpaaQh
namespace Go.Proofs.Ytcipilggddpnpaa.K
open Go.RowKit Go.Sort Go.Shelf Go.Maps
set_option linter.unusedVariables false
set_option linter.unusedSimpArgs false
attribute [local go_sem] Oper.semAt_some

theorem Hs.lower {fv : Value} {lt : Ky → Ky → Bool} {B B' : Nat} {w : World} {hb mb : Nat} {ro : Option Nat} {C : List Ent} (h : Hs fv lt B w hb mb ro C) (hB : B' ≤ B) : Hs fv lt B' w hb mb ro C :=
  ⟨h.rows, fun k hk => Nat.le_trans hB (h.base k hk), h.ord⟩
/-- The numbers are all different. -/
def Dif (S : List Ent) : Prop := S.Pairwise (fun x y => x.1 ≠ y.1)

/-- Between two rounds: the first k entries of S are in the copy; all else is as it was. -/
def CpyI (fv : Value) (lt : Ky → Ky → Bool) (B : Nat) (W1 : World) (hc mc : Nat) (S : List Ent) (k : Nat) (W : World) : Prop :=
  ∃ ro, Hs fv lt B W hc mc ro (S.take k) ∧ (∀ b, ro = some b → W1.heap.size ≤ b) ∧ Kept (fun i => i = hc ∨ i = mc) W1 W

theorem cpyI_own {fv : Value} {lt : Ky → Ky → Bool} {B : Nat} {W1 : World} {hc mc : Nat} {S : List Ent} (h1 : hc < W1.heap.size) (h2 : mc < W1.heap.size) : OwnFrom W1.heap.size (CpyI fv lt B W1 hc mc S) := fun k A B' row hs hg hr => by
  obtain ⟨ro, p1, p2, p3⟩ := hs
  have kk : Kept (fun i => row = some i) A B' := ⟨hg.os, hg.tape, hg.output, hg.size, fun i hi hn => hg.block i hi (fun e => hn e.symm)⟩
  refine ⟨ro, p1.kept kk (fun b hm e => ?_) (fun b o e ho => ?_), p2, p3.grown hg (fun i e => .inr (hr i e).1)⟩
  rotate_left
  · obtain ⟨_, o', ho', hc'⟩ := hr b e
    rw [ho] at ho'
    cases ho'
    cases o <;> first | (intro h; cases h; done) | (cases hc'; done)
  obtain ⟨hge, o, ho, hcell⟩ := hr b e
  rcases hm with rfl | rfl | e2
  · omega
  · omega
  · obtain ⟨⟨R, _, _, hP⟩, _, _⟩ := p1
    rcases hP with ⟨rfl, _⟩ | ⟨rb, cap, rfl, hh⟩
    · cases e2
    · cases e2
      obtain ⟨⟨cur, hcur, _⟩, _⟩ := hh.row
      rw [hcur] at ho
      cases ho
      cases hcell

theorem take_perm {S : List Ent} {k : Nat} (hk : k < S.length) : ((rid S k, rky S k) :: S.take k).Perm (S.take (k + 1)) := by
  have : S.take (k + 1) = S.take k ++ [S.getD k (0, 0, 0)] := by
    rw [List.take_add_one, List.getD_eq_getElem?_getD, List.getElem?_eq_getElem hk]; rfl
  rw [this]
  exact (List.perm_append_comm (l₁ := [S.getD k (0, 0, 0)])) 

theorem take_other {S : List Ent} (hd : Dif S) {k : Nat} (hk : k < S.length) : ∀ x ∈ S.take k, x.1 ≠ rid S k := fun x hx => by
  obtain ⟨i, hi, e⟩ := List.getElem_of_mem hx
  have hik : i < k := by have := List.length_take_le k S; simp at hi; omega
  have hil : i < S.length := by omega
  have : x = S.getD i (0, 0, 0) := by
    rw [← e, List.getElem_take, List.getD_eq_getElem?_getD, List.getElem?_eq_getElem hil]; rfl
  rw [this]
  exact List.pairwise_iff_getElem.1 hd i k hil hk hik |> fun h => by simpa [rid, List.getD_eq_getElem?_getD, List.getElem?_eq_getElem hil, List.getElem?_eq_getElem hk] using h

set_option maxHeartbeats 2000000 in
set_option maxRecDepth 100000 in
theorem copy_any (fv : Value) (lt : Ky → Ky → Bool) (B : Nat) (w : World) (hb mb : Nat) (ro : Option Nat) (C : List Ent) (h : Hs fv lt B w hb mb ro C) (hd : Dif C) (hok : ∀ x ∈ C, (0 ≤ x.1 ∧ Is64 x.1) ∧ Is64 x.2.1 ∧ Is64 x.2.2) (hl : C.length < 1099511627776) :
    Calls Try.prog 53 #[.pointer (some ⟨hb, 0, none⟩)] w fun e w' => ∃ hc mc rc, e = .returned (.pointer (some ⟨hc, 0, none⟩)) ∧ Hs fv lt w.heap.size w' hc mc rc C ∧ Kept (fun _ => False) w w' := by
  obtain ⟨fg, fcb, e0, _⟩ := h.less
  subst e0
  have mixed : Try.prog.follows .mixedOrders = true := by kernel_rfl
  have hmm := @run_makeMap Try.prog
  obtain ⟨W0, hW0⟩ : ∃ W0, ((w.alloc (.map #[] 0)).alloc (.cells #[(.func (.func fg) #[] fcb), .slice none 0 0, .map (some w.heap.size)] 106)).alloc (.cells #[.pointer (some ⟨w.heap.size + 1, 0, none⟩)] 82) = W0 := ⟨_, rfl⟩
  have g0 : Grew w W0 := by rw [← hW0]; exact (((Grew.refl w).alloc _).alloc _).alloc _
  have z0 : W0.heap.size = w.heap.size + 3 := by rw [← hW0]; simp
  have b1 : W0.heap[w.heap.size + 1]? = some (.cells #[(.func (.func fg) #[] fcb), .slice none 0 0, .map (some w.heap.size)] 106 (0, 0)) := by
    rw [← hW0, Below.heap_alloc _ _ _ (by simp)]
    have := heap_alloc_new (w.alloc (.map #[] 0)) (.cells #[(.func (.func fg) #[] fcb), .slice none 0 0, .map (some w.heap.size)] 106)
    simpa using this
  have b2 : W0.heap[w.heap.size + 1 + 1]? = some (.cells #[.pointer (some ⟨w.heap.size + 1, 0, none⟩)] 82 (0, 0)) := by
    rw [← hW0]
    have := heap_alloc_new ((w.alloc (.map #[] 0)).alloc (.cells #[(.func (.func fg) #[] fcb), .slice none 0 0, .map (some w.heap.size)] 106)) (.cells #[.pointer (some ⟨w.heap.size + 1, 0, none⟩)] 82)
    simpa using this
  have hH : Hs (.func (.func fg) #[] fcb) lt w.heap.size W0 (w.heap.size + 1) w.heap.size none [] := by
    refine ⟨⟨[], List.Perm.refl _, fun i _ hi => absurd hi (Nat.not_lt_zero _), .inl ⟨rfl, rfl, ⟨b1⟩, ?_⟩⟩, ?_, (h.ord.kept (g0.kept (fun _ => False)) (fun _ _ x => x.elim))⟩
    · rw [← hW0]
      exact ((World.ownsMap_made w _ _ _).alloc _).alloc _
    · rintro k (rfl | rfl | e)
      · omega
      · exact Nat.le_refl _
      · cases e
  have c0 : w.cell? ⟨hb, 0, none⟩ = some (.func (.func fg) #[] fcb) := by
    obtain ⟨⟨R, _, _, hP⟩, _, _⟩ := h
    rcases hP with ⟨_, _, hO, _⟩ | ⟨rb, cap, _, hh⟩
    · exact hO.c0
    · exact hh.obj.c0
  have C1 := Lib.hid (hs_all (h.grew g0))
  have HH := Lib.hid hH
  have HB := Lib.hid b2
  have G0 := Lib.hid g0
  have Z0 := Lib.hid z0
  have HW := Lib.hid hW0
  have HC : Hid (Dif C ∧ (∀ x ∈ C, (0 ≤ x.1 ∧ Is64 x.1) ∧ Is64 x.2.1 ∧ Is64 x.2.2) ∧ C.length < 1099511627776) := ⟨hd, hok, hl⟩
  clear hH b1 b2 g0 z0 hW0 h hd hok hl
  refine calls_marks Try.func53 rfl ?_
  simp only [Try.ntmps53, List.size_toArray, List.length_cons, List.length_nil, Nat.reduceAdd, Nat.reduceSub, Array.replicate_succ, Array.replicate_zero, List.push_toArray, List.append_toArray, List.nil_append, List.cons_append]
  go_wp2_with fail
  rw [HW.out]
  refine C1.out.mono ?_
  rintro e W1 ⟨S, rfl, hp, hsr, hseq, hk⟩
  have hSl : S.length < 1099511627776 := by rw [hp.length_eq]; exact HC.out.2.2
  have hSd : Dif S := (List.Perm.pairwise_iff (R := fun x y : Ent => x.1 ≠ y.1) (fun h => h.symm) hp).2 HC.out.1
  have hSo : ∀ x ∈ S, (0 ≤ x.1 ∧ Is64 x.1) ∧ Is64 x.2.1 ∧ Is64 x.2.2 := fun x hx => HC.out.2.1 x (hp.mem_iff.1 hx)
  obtain ⟨rb, r1, r2, r3, hnth⟩ := all_nth _ _ S (by omega) W1 hseq
  have z0 := Z0.out
  have zk := hk.size
  obtain ⟨cb, hcb⟩ : ∃ cb, W0.heap.size = cb := ⟨_, rfl⟩
  have zz : w.heap.size + 1 + 1 < cb := by omega
  have zc : cb ≤ W1.heap.size := by omega
  rw [hcb] at r1 r3 hnth ⊢
  have ptr : ∀ W, Kept (fun i => i = w.heap.size + 1 ∨ i = w.heap.size) W1 W → W.cell? ⟨w.heap.size + 1 + 1, 0, none⟩ = some (.pointer (some ⟨w.heap.size + 1, 0, none⟩)) := fun W k => by
    have e := (k.block (w.heap.size + 1 + 1) (by omega) (by omega)).trans ((hk.block _ (by omega) (fun x => x)).trans HB.out)
    simp [World.cell?, e]
  have H0 : CpyI (.func (.func fg) #[] fcb) lt w.heap.size W1 (w.heap.size + 1) w.heap.size S 0 W1 := ⟨none, HH.out.kept hk (fun _ _ x => x) (fun _ _ x => x.elim), (fun b e => by cases e), Kept.refl _ _⟩
  have hoI := cpyI_own (fv := (.func (.func fg) #[] fcb)) (lt := lt) (B := w.heap.size) (S := S) (show w.heap.size + 1 < W1.heap.size by omega) (show w.heap.size < W1.heap.size by omega)
  have PP := Lib.hid ptr
  have HP := Lib.hid hp
  have HS : Hid (Dif S ∧ ∀ x ∈ S, (0 ≤ x.1 ∧ Is64 x.1) ∧ Is64 x.2.1 ∧ Is64 x.2.2) := ⟨hSd, hSo⟩
  have K1 : Hid (Kept (fun _ => False) w W1) := (G0.out.kept _).trans hk
  clear hp hsr hseq hk C1 ptr hSd hSo z0 zk hcb HH HB
  go_wp2_with fail
  refine wp_rangeNth (gf := 77) (lb := #[.pointer (some ⟨cb, 0, none⟩)]) (encs := enN S) (Kp := Pair2 cb rb) (N := S.length) (w0 := W1) ?hg ?eg hnth ?kt ?kb (Below.refl _ _) ?ps (CpyI (.func (.func fg) #[] fcb) lt w.heap.size W1 (w.heap.size + 1) w.heap.size S) (fun _ _ _ => False) hoI ?hix H0 ?round ?done ?stop
  case hg => rfl
  case eg => exact enters_of Try.func77 (by kernel_rfl) rfl
  case kt => exact fun h k => h.trans k
  case kb => exact fun W l o o' h1 h2 h3 => Pair2.put r3 r2 W l o o' h1 h2 h3
  case ps => exact fun _ => rfl
  case hix => exact fun c s A B row hs _ _ => hs
  case stop => intro D c k W5 _ _ hx; exact hx.elim
  case round =>
    intro l k Wk hks hi
    unfold enN
    gi_wp2
    obtain ⟨W2, hW2⟩ : ∃ W2, Wk.alloc (.cells #[.int .i64 (rky S k).1, .int .i64 (rky S k).2] 37) = W2 := ⟨_, rfl⟩
    have g2 : Grew Wk W2 := by rw [← hW2]; exact (Grew.refl Wk).alloc _
    have hi2 := hoI.alloc (.cells #[.int .i64 (rky S k).1, .int .i64 (rky S k).2] 37) hi
    rw [hW2] at hi2
    have kb2 : W2.heap[Wk.heap.size]? = some (.cells #[.int .i64 (rky S k).1, .int .i64 (rky S k).2] 37 (0, 0)) := by rw [← hW2]; exact heap_alloc_new _ _
    have hszk : W1.heap.size ≤ Wk.heap.size := by obtain ⟨_, _, _, p3⟩ := hi; exact p3.size
    rw [hW2]
    refine ⟨(g2.kept (fun _ => False)).from _ (fun _ x => x.elim), ⟨g2.block (by omega), g2.block (by omega)⟩, fun Wb hbz => ?_⟩
    have kb3 : Wb.heap[Wk.heap.size]? = some (.cells #[.int .i64 (rky S k).1, .int .i64 (rky S k).2] 37 (0, 0)) := hbz.own (s := 0) (cells_own rfl) kb2
    have d3 : Wb.cell? ⟨Wk.heap.size, 0, none⟩ = some (.int .i64 (rky S k).1) := by simp [World.cell?, kb3]
    have d4 : Wb.cell? ⟨Wk.heap.size, 1, none⟩ = some (.int .i64 (rky S k).2) := by simp [World.cell?, kb3]
    obtain ⟨rc, p1, p2, p3⟩ := hbz.own hoI hi2
    clear kb2 kb3 hi2 g2 hW2 hbz
    have c1 := PP.out Wb p3
    have hx := HS.out.2 _ (mem_getD hks)
    have hsz := p3.size
    have CP := Lib.hid (hs_put p1 (by omega) (rid S k) (rky S k) hx.1 hx.2 (take_other HS.out.1 hks) (by rw [List.length_take]; omega))
    have HP3 : Hid (Hs (.func (.func fg) #[] fcb) lt w.heap.size Wb (w.heap.size + 1) w.heap.size rc (S.take k) ∧ (∀ b, rc = some b → W1.heap.size ≤ b) ∧ Kept (fun i => i = w.heap.size + 1 ∨ i = w.heap.size) W1 Wb) := ⟨p1, p2, p3⟩
    have HT := Lib.hid (take_perm hks)
    clear hi p1 p2 p3 hx
    simp only [kv] at CP
    generalize rky S k = ky at *
    obtain ⟨ky1, ky2⟩ := ky
    simp only [] at d3 d4 CP
    generalize rid S k = ki at *
    gi_wp2_with fail
    refine ⟨trivial, (CallsIn.inRound l (callsIn_wide.2 CP.out)).mono ?_⟩
    rintro e W2 ⟨rfl, rc', l2⟩
    have HL2 := Lib.hid l2
    clear l2 CP
    gi_wp2
    obtain ⟨p1, p2, p3⟩ := HP3.out
    have l2 := HL2.out
    have hmine : ∀ b, Mine (w.heap.size + 1) w.heap.size rc b → (b = w.heap.size + 1 ∨ b = w.heap.size) ∨ W1.heap.size ≤ b := fun b hm => by
      rcases hm with e | e | e
      · exact .inl (.inl e)
      · exact .inl (.inr e)
      · exact .inr (p2 b e)
    have hn1 : ¬ Mine (w.heap.size + 1) w.heap.size rc cb := fun hm => by rcases hmine _ hm with (e | e) | e <;> omega
    have hn2 : ¬ Mine (w.heap.size + 1) w.heap.size rc rb := fun hm => by rcases hmine _ hm with (e | e) | e <;> omega
    refine ⟨⟨l2.kept.size, fun i o hi ho hno => ?_⟩, ⟨l2.kept.block cb (by omega) hn1, l2.kept.block rb (by omega) hn2⟩, ?_⟩
    · refine (l2.kept.block i (Array.getElem?_eq_some_iff.1 ho).1 (fun hm => ?_)).trans ho
      rcases hm with e | e | e
      · omega
      · omega
      · obtain ⟨⟨R, _, _, hP⟩, _, _⟩ := p1
        rcases hP with ⟨rfl, _⟩ | ⟨rb2, cap2, rfl, hh⟩
        · cases e
        · cases e
          obtain ⟨⟨cur, hcur, _⟩, _⟩ := hh.row
          rw [hcur] at ho
          cases ho
          cases hno
    · refine ⟨rc', l2.heap.perm (HT.out), fun b e => ?_, ?_⟩
      · rcases l2.moved b e with e | e
        · exact p2 b e
        · omega
      · exact p3.andThen l2.kept hmine
  case done =>
    intro D W5 hD hi hdef
    obtain ⟨rc, p1, p2, p3⟩ := hi
    have c1 := PP.out W5 p3
    have HR : Hid (∃ rc, Hs (.func (.func fg) #[] fcb) lt w.heap.size W5 (w.heap.size + 1) w.heap.size rc C ∧ Kept (fun _ => False) w W5) := by
      refine ⟨rc, ?_, K1.out.andThen p3 (fun i e => .inr (by omega))⟩
      rw [List.take_length] at p1
      exact p1.perm HP.out
    clear p1 p2 p3
    go_wp2_with fail
    refine leave_one hdef ⟨.pointer (some ⟨w.heap.size + 1, 0, none⟩), by simp [results, Try.f53, go_sem], w.heap.size + 1, w.heap.size, ?_⟩
    obtain ⟨rc, q1, q2⟩ := HR.out
    have hk : Kept (fun i => i = D) W5 (W5.putObj D (.deferred none)) := (Kept.refl _ W5).grown (grownBy_putObj' W5 D _) (fun k e => by cases e; exact .inl rfl)
    refine ⟨rc, rfl, q1.kept hk (fun b hm e => ?_) (fun b o e ho => by subst e; rw [hdef] at ho; cases ho; intro h; cases h), q2.andThen hk (fun i e => .inr (by omega))⟩
    subst e
    obtain ⟨o, ho, ht⟩ := q1.kinds b hm
    rw [hdef] at ho
    cases ho
    rcases hm with e | e | e
    · omega
    · omega
    · obtain ⟨⟨R, _, _, hP⟩, _, _⟩ := q1
      rcases hP with ⟨rfl, _⟩ | ⟨rb2, cap2, rfl, hh⟩
      · cases e
      · cases e
        obtain ⟨⟨cur, hcur, _⟩, _⟩ := hh.row
        rw [hcur] at hdef
        cases hdef
end Go.Proofs.Ytcipilggddpnpaa.K
