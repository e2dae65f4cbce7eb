/-
  ready.Queue: Until; timers.Queue: Armed, for a range over either.
-/
import Derived.Test.YtcipilggddpnpaaQx1
import Derived.Test.YtcipilggddpnpaaTx1
import Derived.Test.YtcipilggddpnpaaTx1
import Derived.Laws.EntriesVeiled
namespace Go.Proofs.Ytcipilggddpnpaa
open Go.RowKit Go.Sort Go.Shelf Go.Maps
set_option linter.unusedVariables false
set_option linter.unusedSimpArgs false
attribute [local go_sem] Oper.semAt_some

theorem seqAt_grew {B c : Nat} {S : List K.Ent} {w w' : World} (h : K.SeqAt B c S w) (g : Grew w w') : K.SeqAt B c S w' := by
  obtain ⟨hB, rv, hcell, hrv⟩ := h
  refine ⟨hB, rv, (g.block (Array.getElem?_eq_some_iff.1 hcell).1).trans hcell, ?_⟩
  rcases hrv with h | ⟨rb, cap, h1, h2, h3, h4⟩
  · exact .inl h
  · exact .inr ⟨rb, cap, h1, h2, h3, h4.kept (g.block h4.lt)⟩
theorem SeqOwn.later {P : Program} {gf : Nat} {lb : Array Value} {encs : Nat → Array Value} {F : Nat → Prop} {c N : Nat} {w w' : World} (h : SeqOwn P gf lb encs F c N w) (b : Below w.heap.size w w') : SeqOwn P gf lb encs F c N w' :=
  fun l J Jx W hW => h l J Jx W (b.trans (hW.mono b.size))

set_option maxHeartbeats 1000000 in
set_option maxRecDepth 20000 in
theorem quntil_any {B : Nat} {w : World} {q : QB} {L T : List Ent} (h : Qs B w q L) (hT : T.Perm L) (hs : Sorted T) (hd : T.Pairwise (fun x y => x.1 ≠ y.1)) (hl : T.length < 1099511627776) (t : Int) :
    Calls Try.prog 20 #[.pointer (some ⟨q.qb, 0, none⟩), .int .i64 t] w fun E w' => ∃ cu ct F, E = .returned (.func (.func 52) #[] #[.pointer (some ⟨cu, 0, none⟩), .pointer (some ⟨ct, 0, none⟩)]) ∧ SeqOwn Try.prog 52 #[.pointer (some ⟨cu, 0, none⟩), .pointer (some ⟨ct, 0, none⟩)] (enU T) F 1 (untilN t T) w' ∧ (∀ k, F k → w.heap.size ≤ k ∧ k < w'.heap.size) ∧ Kept (fun _ => False) w w' := by
  obtain ⟨W0, hW0⟩ : ∃ W0, w.alloc (.cells #[.int .i64 t] 3) = W0 := ⟨_, rfl⟩
  have g0 : Grew w W0 := by rw [← hW0]; exact (Grew.refl w).alloc _
  have b0 : W0.heap[w.heap.size]? = some (.cells #[.int .i64 t] 3 (0, 0)) := by rw [← hW0]; exact heap_alloc_new _ _
  have C1 := Lib.hid (fromFirst_any (h.grew g0))
  have C2 := Lib.hid (up_all ((h.grew g0).perm hT.symm).up hd hs)
  have H0 : Hid (Grew w W0 ∧ W0.heap[w.heap.size]? = some (.cells #[.int .i64 t] 3 (0, 0))) := ⟨g0, b0⟩
  have HW := Lib.hid hW0
  clear h hT hs hd g0 b0 hW0
  go_enter Try.func20, Try.ntmps20
  go_wp2_with fail
  rw [HW.out]
  refine C1.out.mono ?_
  rintro e W1' ⟨rfl, rfl⟩
  go_wp2_with fail
  refine C2.out.mono ?_
  rintro e W1 ⟨rfl, hseq, hk⟩
  obtain ⟨W3, hW3⟩ : ∃ W3, W1.alloc (.cells #[.func (.func 77) #[] #[.pointer (some ⟨W0.heap.size, 0, none⟩)]] 93) = W3 := ⟨_, rfl⟩
  have HF : Hid (∃ F, SeqOwn Try.prog 52 #[.pointer (some ⟨W1.heap.size, 0, none⟩), .pointer (some ⟨w.heap.size, 0, none⟩)] (enU T) F 1 (untilN t T) W3 ∧ (∀ k, F k → w.heap.size ≤ k ∧ k < W3.heap.size) ∧ Kept (fun _ => False) w W3) := by
    obtain ⟨g0, b0⟩ := H0.out
    have g3 : Grew W1 W3 := by rw [← hW3]; exact (Grew.refl W1).alloc _
    have e3 : W3.heap[W1.heap.size]? = some (.cells #[.func (.func 77) #[] #[.pointer (some ⟨W0.heap.size, 0, none⟩)]] 93 (0, 0)) := by rw [← hW3]; exact heap_alloc_new _ _
    have hlt : w.heap.size < W0.heap.size := (Array.getElem?_eq_some_iff.1 b0).1
    have b3 : W3.heap[w.heap.size]? = some (.cells #[.int .i64 t] 3 (0, 0)) := (g3.block (Nat.lt_of_lt_of_le hlt hk.size)).trans ((hk.block _ hlt (fun x => x)).trans b0)
    have sq := seqAt_grew hseq g3
    have hcl : W0.heap.size < W3.heap.size := by
      obtain ⟨_, rv, hcell, _⟩ := sq
      exact (Array.getElem?_eq_some_iff.1 hcell).1
    obtain ⟨rb, r1, r2, ho⟩ := until_own (by omega) sq (Array.getElem?_eq_some_iff.1 e3).1 (by simp [World.cell?, e3]) b3
    refine ⟨_, ho, fun k hk' => ?_, (g0.kept _).trans (hk.trans (g3.kept _))⟩
    have z := g0.size
    have z2 := hk.size
    have z3 := g3.size
    rcases hk' with rfl | rfl | rfl
    · exact ⟨z, hcl⟩
    · exact ⟨by omega, r2⟩
    · exact ⟨Nat.le_refl _, by omega⟩
  have HW3 := Lib.hid hW3
  clear hseq hk C1 C2 H0 HW hW3
  go_wp2
  refine bodyPost_ret (v := .func (.func 52) #[] #[.pointer (some ⟨W1.heap.size, 0, none⟩), .pointer (some ⟨w.heap.size, 0, none⟩)]) (by simp [results, Try.f20, go_sem]) rfl ?_
  rw [HW3.out]
  obtain ⟨F, f1, f2, f3⟩ := HF.out
  exact ⟨_, _, F, rfl, f1, f2, f3⟩

/-- What Armed's yield is handed in round k. -/
def enA (T : List Ent) (k : Nat) : Array Value := #[.int .i64 (T.getD k (0, 0)).1, .int .i64 (T.getD k (0, 0)).2]

theorem untilN_all (t : Int) : ∀ T : List Ent, (∀ x ∈ T, x.2 ≤ t) → untilN t T = T.length
  | [], _ => rfl
  | x :: r, h => by
    unfold untilN
    rw [if_pos (h x List.mem_cons_self), untilN_all t r (fun y hy => h y (List.mem_cons_of_mem _ hy))]
    rfl

end Go.Proofs.Ytcipilggddpnpaa
