/-
  Several texts as one.
-/
import Derived.Test.YtnpaeomacjlhpaaQx1
/-
  Put, whatever the order and the parts: without the walk.
-/
namespace Go.Proofs.Ytnpaeomacjlhpaa
open Go.RowKit Go.Sort Go.Shelf Go.Maps
set_option linter.unusedVariables false

theorem putR_zero {L : List Ent} {x : Ent} : putR L x = 0 ↔ (¬ x.1 < 0 ∧ timeE x.2 = 0) ∧ ∀ y ∈ L, y.1 ≠ x.1 := by
  unfold putR
  by_cases h1 : x.1 < 0
  · rw [if_pos h1]; exact ⟨fun h => by omega, fun h => absurd h1 h.1.1⟩
  rw [if_neg h1]
  by_cases h2 : timeE x.2 = 0
  · rw [if_neg (fun h => h h2)]
    by_cases h3 : L.any (fun y => y.1 == x.1) = true
    · rw [if_pos h3]
      obtain ⟨y, hy, e⟩ := List.any_eq_true.1 h3
      exact ⟨fun h => by omega, fun h => absurd (by simpa using e) (h.2 y hy)⟩
    · rw [if_neg h3]
      exact ⟨fun _ => ⟨⟨h1, h2⟩, fun y hy e => h3 (List.any_eq_true.2 ⟨y, hy, by simpa using e⟩)⟩, fun _ => rfl⟩
  · rw [if_pos h2]
    exact ⟨fun h => absurd h h2, fun h => absurd h.1.2 h2⟩

/-- All of l may be put. -/
def Good (l : List Ent) : Prop := (∀ x ∈ l, ¬ x.1 < 0 ∧ timeE x.2 = 0) ∧ l.Pairwise (fun x y => x.1 ≠ y.1)
theorem putsR_zero : ∀ (l L : List Ent), putsR L l = 0 ↔ Good l ∧ ∀ x ∈ l, ∀ y ∈ L, y.1 ≠ x.1
  | [], L => ⟨fun _ => ⟨⟨fun x hx => (by cases hx), List.Pairwise.nil⟩, fun x hx => (by cases hx)⟩, fun _ => rfl⟩
  | x :: r, L => by
    show (if putR L x = 0 then putsR (x :: L) r else putR L x) = 0 ↔ _
    by_cases h : putR L x = 0
    · rw [if_pos h, putsR_zero r (x :: L)]
      obtain ⟨h1, h2⟩ := putR_zero.1 h
      constructor
      · rintro ⟨⟨g1, g2⟩, g3⟩
        refine ⟨⟨fun y hy => ?_, List.pairwise_cons.2 ⟨fun y hy => g3 y hy x (List.mem_cons_self ..), g2⟩⟩, fun y hy z hz => ?_⟩
        · rcases List.mem_cons.1 hy with rfl | hy
          · exact h1
          · exact g1 y hy
        · rcases List.mem_cons.1 hy with rfl | hy
          · exact h2 z hz
          · exact g3 y hy z (List.mem_cons_of_mem _ hz)
      · rintro ⟨⟨g1, g2⟩, g3⟩
        obtain ⟨p1, p2⟩ := List.pairwise_cons.1 g2
        refine ⟨⟨fun y hy => g1 y (List.mem_cons_of_mem _ hy), p2⟩, fun y hy z hz => ?_⟩
        rcases List.mem_cons.1 hz with rfl | hz
        · exact p1 y hy
        · exact g3 y (List.mem_cons_of_mem _ hy) z hz
    · rw [if_neg h]
      refine ⟨fun e => absurd e h, fun e => absurd (putR_zero.2 ⟨e.1.1 x (List.mem_cons_self ..), fun y hy => e.2 x (List.mem_cons_self ..) y hy⟩) h⟩
theorem Good.perm {l m : List Ent} (hp : l.Perm m) (h : Good l) : Good m :=
  ⟨fun x hx => h.1 x (hp.mem_iff.2 hx), (List.Perm.pairwise_iff (R := fun x y : Ent => x.1 ≠ y.1) (fun h => h.symm) hp).1 h.2⟩
theorem good_puts {l : List Ent} : putsR [] l = 0 ↔ Good l := (putsR_zero l []).trans ⟨fun h => h.1, fun h => ⟨h, fun x _ y hy => (by cases hy)⟩⟩
theorem good_back {l : List Ent} : putsR [] l.reverse = 0 ↔ putsR [] l = 0 := good_puts.trans ((Iff.intro (fun h => h.perm (List.reverse_perm l)) (fun h => h.perm (List.reverse_perm l).symm)).trans good_puts.symm)
theorem good_parts {l : List Ent} (n : Nat) (h : putsR [] l = 0) : putsR [] (l.take n) = 0 ∧ putsR ((l.take n).reverse ++ []) (l.drop n) = 0 := by
  obtain ⟨h1, h2⟩ := good_puts.1 h
  have e : l.take n ++ l.drop n = l := List.take_append_drop n l
  rw [← e] at h2
  obtain ⟨p1, p2, p3⟩ := List.pairwise_append.1 h2
  refine ⟨good_puts.2 ⟨fun x hx => h1 x (List.mem_of_mem_take hx), p1⟩, (putsR_zero _ _).2 ⟨⟨fun x hx => h1 x (List.mem_of_mem_drop hx), p2⟩, fun x hx y hy => ?_⟩⟩
  rw [List.append_nil, List.mem_reverse] at hy
  exact p3 y hy x hx
/-- What is left, behind a drop. -/
theorem sorted_filter {T : List Ent} (h : Sorted T) (p : Ent → Bool) : Sorted (T.filter p) := List.Pairwise.filter p h
theorem len_filter {T : List Ent} (hd : T.Pairwise (fun x y => x.1 ≠ y.1)) {m : Ent} (hm : m ∈ T) : (T.filter (fun y => y.1 != m.1)).length + 1 = T.length := by
  rw [← (erase_filter hd hm).length_eq, List.length_erase_of_mem hm]
  have := List.length_pos_of_mem hm
  omega
end Go.Proofs.Ytnpaeomacjlhpaa

/-
  ReadyJoins: several queues side by side; where nothing is asked.
-/
namespace Go.Proofs.Ytnpaeomacjlhpaa
open Go.RowKit Go.Sort Go.Shelf Go.Maps
set_option linter.unusedVariables false
set_option linter.unusedSimpArgs false

/-- Two queues have no block in common. -/
def Aside (q r : QB) : Prop := ∀ k, q.own k → r.own k → False
theorem Aside.symm {q r : QB} (h : Aside q r) : Aside r q := fun k a b => h k b a
theorem LeftQ.owns {B : Nat} {W W' : World} {q q' : QB} {L : List Ent} (h : LeftQ B W W' q q' L) : ∀ k, q'.own k → q.own k ∨ W.heap.size ≤ k := by
  rintro k (hk | hk | hk)
  · rcases h.moved k hk with e | e
    · exact .inl (.inl e)
    · exact .inr e
  · exact .inl (.inr (.inl (hk.trans h.here.1)))
  · exact .inl (.inr (.inr (hk.trans h.here.2)))
theorem Aside.left {B B' : Nat} {W W' : World} {q q' r : QB} {L M : List Ent} (h : Aside q r) (l : LeftQ B W W' q q' L) (hr : Qs B' W r M) : Aside q' r := fun k a b => by
  rcases l.owns k a with e | e
  · exact h k e b
  · have := hr.lt k b
    omega
/-- A queue stays what it is while another one is turned. -/
theorem Qs.beside {B B' : Nat} {W W' : World} {q q' r : QB} {L M : List Ent} (hr : Qs B' W r M) (l : LeftQ B W W' q q' L) (h : Aside q r) : Qs B' W' r M := hr.kept l.kept (fun b hb ht => h b (.inl ht) hb)
/-- A new one is apart from those that there are. -/
theorem apart_new {B : Nat} {W : World} {q r : QB} {M : List Ent} (hr : Qs B W r M) (h : ∀ k, q.own k → W.heap.size ≤ k) : Aside r q := fun k a b => by
  have := hr.lt k a
  have := h k b
  omega
/-- A slice that lay ahead of the queue's blocks. -/
theorem off_old {B : Nat} {W : World} {q : QB} {L : List Ent} (h : Qs B W q L) {a : Option Addr} (ha : ∀ x, a = some x → x.block < B) : Off a q.turns := fun x e ht => by
  have := h.from _ (.inl ht)
  have := ha x e
  omega

/-- As keys come in. -/
def IsKeys (w : World) (a : Option Addr) (len cap : Nat) (l : List Ent) : Prop := len = l.length ∧ len ≤ cap ∧ len ≤ 9223372036854775807 ∧ KeysAt w a l ∧ (∀ x, a = some x → x.block < w.heap.size) ∧ (a = none → len = 0 ∧ cap = 0)

set_option maxHeartbeats 1000000 in
set_option maxRecDepth 20000 in
theorem joins_idle (a : Option Addr) (len cap : Nat) (n id : Int) (h : 40 < len ∨ n < 0 ∨ (len : Int) < n) (w : World) :
    Calls Try.prog 6 #[.slice a len cap, .int .i64 n, .int .i64 id] w fun E w' => E = .returned (.bool true) ∧ Below w.heap.size w w' := by
  have CW : ∀ W, Hid (Calls Try.prog 25 #[] W fun e w' => e = .returned (.bool true) ∧ Below W.heap.size W w') := fun W => awake4 W
  by_cases h1 : 40 < len
  · have t1 : decide ((len : Int) > 40) = true := decide_eq_true (by omega)
    clear h
    go_enter Try.func6, Try.ntmps6
    go_wp2_with (go_at_call 25; (with_reducible refine (CW _).out.mono ?_); rintro e W6 ⟨rfl, b6⟩)
    go_ret
    exact ⟨rfl, b6⟩
  · have t1 : decide ((len : Int) > 40) = false := decide_eq_false (by omega)
    by_cases h2 : n < 0
    · have t2 : decide (n < 0) = true := decide_eq_true h2
      clear h
      go_enter Try.func6, Try.ntmps6
      go_wp2_with (go_at_call 25; (with_reducible refine (CW _).out.mono ?_); rintro e W6 ⟨rfl, b6⟩)
      go_ret
      exact ⟨rfl, b6⟩
    · have t2 : decide (n < 0) = false := decide_eq_false h2
      have t3 : decide (n > (len : Int)) = true := decide_eq_true (by omega)
      clear h
      go_enter Try.func6, Try.ntmps6
      go_wp2_with (go_at_call 25; (with_reducible refine (CW _).out.mono ?_); rintro e W6 ⟨rfl, b6⟩)
      go_ret
      exact ⟨rfl, b6⟩
end Go.Proofs.Ytnpaeomacjlhpaa

/-
  ReadyJoins: its walk.
-/
namespace Go.Proofs.Ytnpaeomacjlhpaa
open Go.RowKit Go.Sort Go.Shelf Go.Maps
set_option linter.unusedVariables false
set_option linter.unusedSimpArgs false

/-- The row v holds the first j of l; all else as it was in W0. -/
def RowTo (W0 : World) (l : List Ent) (v : Value) (j : Nat) (W : World) : Prop := W.ownsRow W0.heap.size 37 2 v j (flatR (l.take j)) ∧ Kept (fun _ => False) W0 W
theorem RowTo.next {W0 W w2 : World} {l : List Ent} {v v2 : Value} {j : Nat} (h : RowTo W0 l v j W) (hj : j < l.length) (o : Obj)
    (ho : w2.ownsRow W0.heap.size 37 2 v2 (j + 1) (flatR (l.take j) ++ [.int .i64 (l.getD j (0, 0)).2, .int .i64 (l.getD j (0, 0)).1])) (hg : (W.alloc o).grownBy w2 v.ownBlock) : RowTo W0 l v2 (j + 1) w2 := by
  refine ⟨?_, (h.2.alloc o).grown hg (fun i e => .inr (own_block h.1 i e))⟩
  have : l.take (j + 1) = l.take j ++ [l.getD j (0, 0)] := by
    rw [List.take_add_one, List.getD_eq_getElem?_getD, List.getElem?_eq_getElem hj]; rfl
  rw [this, flatR_append]
  exact ho
theorem rev_getD {l : List Ent} {j : Nat} (hj : j < l.length) : l.reverse.getD j (0, 0) = l.getD (l.length - 1 - j) (0, 0) := by
  rw [List.getD_eq_getElem?_getD, List.getD_eq_getElem?_getD, List.getElem?_reverse hj]

/-- Three queues side by side. -/
structure Tri (B : Nat) (W : World) (qa qb qc : QB) (La Lb Lc : List Ent) : Prop where
  a : Qs B W qa La
  b : Qs B W qb Lb
  c : Qs B W qc Lc
  ab : Aside qa qb
  ac : Aside qa qc
  bc : Aside qb qc
theorem Tri.kept {B : Nat} {W W' : World} {qa qb qc : QB} {La Lb Lc : List Ent} (h : Tri B W qa qb qc La Lb Lc) (k : Kept (fun _ => False) W W') : Tri B W' qa qb qc La Lb Lc :=
  ⟨h.a.kept k (fun _ _ x => x), h.b.kept k (fun _ _ x => x), h.c.kept k (fun _ _ x => x), h.ab, h.ac, h.bc⟩
theorem Tri.turnA {B : Nat} {W W' : World} {qa qa' qb qc : QB} {La La' Lb Lc : List Ent} (h : Tri B W qa qb qc La Lb Lc) (l : LeftQ B W W' qa qa' La') : Tri B W' qa' qb qc La' Lb Lc :=
  ⟨l.queue, h.b.beside l h.ab, h.c.beside l h.ac, h.ab.left l h.b, h.ac.left l h.c, h.bc⟩
theorem Tri.turnB {B : Nat} {W W' : World} {qa qb qb' qc : QB} {La Lb Lb' Lc : List Ent} (h : Tri B W qa qb qc La Lb Lc) (l : LeftQ B W W' qb qb' Lb') : Tri B W' qa qb' qc La Lb' Lc :=
  ⟨h.a.beside l h.ab.symm, l.queue, h.c.beside l h.bc, (h.ab.symm.left l h.a).symm, h.ac, h.bc.left l h.c⟩
theorem Tri.turnC {B : Nat} {W W' : World} {qa qb qc qc' : QB} {La Lb Lc Lc' : List Ent} (h : Tri B W qa qb qc La Lb Lc) (l : LeftQ B W W' qc qc' Lc') : Tri B W' qa qb qc' La Lb Lc' :=
  ⟨h.a.beside l h.ac.symm, h.b.beside l h.bc.symm, l.queue, h.ab, (h.ac.symm.left l h.a).symm, (h.bc.symm.left l h.b).symm⟩

set_option maxHeartbeats 4000000 in
set_option maxRecDepth 100000 in
/-- Where the keys may not be put. -/
theorem joins_bad (a : Option Addr) (cap : Nat) (l : List Ent) (n : Nat) (id : Int) (hl : l.length ≤ 40) (hn : n ≤ l.length) (hcap : l.length ≤ cap) (w : World) (hk : KeysAt w a l) (ha : ∀ x, a = some x → x.block < w.heap.size) (hbad : putsR [] l ≠ 0) :
    Calls Try.prog 6 #[.slice a l.length cap, .int .i64 n, .int .i64 id] w fun E w' => E = .returned (.bool true) ∧ Below w.heap.size w w' := by
  obtain ⟨i0, hi0, hz0, hz1, hz2⟩ := info_parts (P := Try.prog) (e := 37) (z := .agg #[.int .i64 0, .int .i64 0]) (size := 2) (bytes := 16) (by kernel_rfl)
  have HI : Hid (Try.prog.info? 37 = some i0 ∧ i0.zero = some (.agg #[.int .i64 0, .int .i64 0]) ∧ i0.size = 2 ∧ i0.bytes = 16) := ⟨hi0, hz0, hz1, hz2⟩
  have CW : ∀ W, Hid (Calls Try.prog 25 #[] W fun e w' => e = .returned (.bool true) ∧ Below W.heap.size W w') := fun W => awake4 W
  have CN : ∀ W, w.heap.size ≤ W.heap.size → Hid (Calls Try.prog 23 #[] W fun E w' => ∃ q : QB, E = .returned (.pointer (some ⟨q.qb, 0, none⟩)) ∧ Qs w.heap.size w' q [] ∧ Grew W w' ∧ ∀ k, q.own k → W.heap.size ≤ k) := fun W h => qnew_any w.heap.size W h
  have HL : Hid (KeysAt w a l ∧ (∀ x, a = some x → x.block < w.heap.size) ∧ putsR [] l ≠ 0) := ⟨hk, ha, hbad⟩
  clear hk ha hbad hi0 hz0 hz1 hz2
  obtain ⟨len, hlen⟩ : ∃ len, l.length = len := ⟨_, rfl⟩
  have HN := Lib.hid hlen
  rw [hlen] at hl hn hcap ⊢
  clear hlen
  have t1 : decide ((len : Int) > 40) = false := decide_eq_false (by omega)
  have t2 : decide ((n : Int) < 0) = false := decide_eq_false (by omega)
  have t3 : decide ((n : Int) > (len : Int)) = false := decide_eq_false (by omega)
  have q0 : IntKind.i64.wrap ((len : Int) - 1) = (len : Int) - 1 := by rw [IntKind.wrap_i64]; omega
  go_enter Try.func6, Try.ntmps6
  go_wp2_with fail
  refine (CN w (Nat.le_refl _)).out.mono ?_
  rintro E w1 ⟨qa, rfl, h1, g1, o1⟩
  have H1 : Hid (Qs w.heap.size w1 qa [] ∧ Grew w w1) := ⟨h1, g1⟩
  clear h1 g1 o1
  go_wp2_with fail
  refine (CN w1 H1.out.2.size).out.mono ?_
  rintro E w2 ⟨qb, rfl, h2, g2, o2⟩
  have H2 : Hid (Qs w.heap.size w2 qa [] ∧ Qs w.heap.size w2 qb [] ∧ Grew w w2 ∧ Aside qa qb) := ⟨H1.out.1.grew g2, h2, H1.out.2.trans g2, apart_new H1.out.1 o2⟩
  clear h2 g2 o2 H1
  go_wp2_with fail
  refine (CN w2 H2.out.2.2.1.size).out.mono ?_
  rintro E w3 ⟨qc, rfl, h3, g3, o3⟩
  have H3 : Hid (Tri w.heap.size w3 qa qb qc [] [] [] ∧ Grew w w3) := ⟨⟨H2.out.1.grew g3, H2.out.2.1.grew g3, h3, H2.out.2.2.2, apart_new H2.out.1 o3, apart_new H2.out.2.1 o3⟩, H2.out.2.2.1.trans g3⟩
  clear h3 g3 o3 H2 CN
  go_wp2_with fail
  go_loopg [10, 11] len (fun gk s v wr => ∃ (j : Nat) (i : Int) (ra : Option Addr) (rc : Nat), s = .slice ra j rc ∧ v = .int .i64 i ∧ j ≤ len ∧ i = (len : Int) - 1 - j ∧ len - j ≤ gk ∧ Hid (RowTo w3 l.reverse (.slice ra j rc) j wr))
  case atStart => exact ⟨0, _, none, 0, rfl, rfl, Nat.zero_le _, by omega, Nat.le_refl _, ⟨rfl, .inl ⟨rfl, rfl⟩⟩, Kept.refl _ _⟩
  case round =>
    rename World => W2
    obtain ⟨j, i, ra, rc, rfl, rfl, hj, hij, hgk, HR⟩ := hrel
    by_cases hlt : j < len
    · obtain ⟨p, rfl⟩ : ∃ p : Nat, i = (p : Int) := ⟨len - 1 - j, by omega⟩
      have hp : p = len - 1 - j := by omega
      have hpl : p < len := by omega
      have hpz : (p : Int) < (len : Int) := by omega
      have hi' : decide ((p : Int) ≥ 0) = true := decide_eq_true (by omega)
      have q4 : IntKind.i64.wrap ((p : Int) - 1) = (p : Int) - 1 := by rw [IntKind.wrap_i64]; omega
      rcases HL.out.1.kept ((H3.out.2.kept (fun _ => False)).trans HR.out.2) (fun _ _ x => x) with h | ⟨g, o, rfl, hg, hc⟩
      · rw [HN.out] at h; omega
      obtain ⟨⟨c1, c2⟩, _⟩ := hc p (by rw [HN.out]; exact hpl)
      have er : l.reverse.getD j (0, 0) = l.getD p (0, 0) := by rw [rev_getD (by rw [HN.out]; exact hlt), HN.out, hp]
      have ER := Lib.hid er
      have hjr : Hid (j < l.reverse.length) := by rw [List.length_reverse, HN.out]; exact hlt
      have hz3 : w3.heap.size ≤ W2.heap.size := HR.out.2.size
      have HIJ := Lib.hid hij
      clear hc er hp hij
      generalize l.getD p (0, 0) = x at *
      obtain ⟨x1, x2⟩ := x
      simp only [] at *
      go_wp2_with (at_builtin; refine wpList_append_own _ rfl _ _ 46 rfl w3.heap.size 37 i0 (.agg #[.int .i64 0, .int .i64 0]) 2 16 Try.underlying46 HI.out.1 HI.out.2.1 HI.out.2.2.1 HI.out.2.2.2 rfl (by decide) _ _ _ rfl (own_kept HR.out.1 (fun g e => Below.heap_alloc _ _ _ (own_lt HR.out.1 g e))) ⟨W2.heap.size, 0, none⟩ 1 1 [.int .i64 x2, .int .i64 x1] rfl rfl (fun j u hj => two_cells _ _ _ hj) (by simp [Value.oneCell']) (by unfold maxLen; omega) (by omega) (by simp; omega) ?_; intro v2 w4 ho2 hg2 _; obtain ⟨a2, cap2, rfl⟩ := own_form ho2; have HN2 := Lib.hid (HR.out.next hjr.out _ (by rw [ER.out]; exact ho2) hg2); clear ho2 hg2)
      go_roundg (len - (j + 1))
      case measure => omega
      case rel => exact ⟨j + 1, _, a2, cap2, rfl, rfl, by omega, by have := HIJ.out; omega, Nat.le_refl _, (show Hid _ from HN2.out)⟩
    · obtain rfl : j = len := by omega
      have hi' : decide (i ≥ 0) = false := decide_eq_false (by omega)
      have hT : Tri w.heap.size W2 qa qb qc [] [] [] := H3.out.1.kept HR.out.2
      have hB2 : w.heap.size ≤ W2.heap.size := Nat.le_trans H3.out.2.size HR.out.2.size
      have hb3 : Below w.heap.size w W2 := (H3.out.2.below).trans (HR.out.2.below H3.out.2.size (fun _ x => x.elim))
      obtain ⟨e, he⟩ : ∃ e, putsR [] l = e := ⟨_, rfl⟩
      obtain ⟨f, hf⟩ : ∃ f, putsR [] l.reverse = f := ⟨_, rfl⟩
      have hne : e ≠ 0 := by rw [← he]; exact HL.out.2.2
      have hnf : f ≠ 0 := by rw [← hf]; exact fun x => HL.out.2.2 (good_back.1 x)
      have CP : Hid (Calls Try.prog 39 #[.pointer (some ⟨qa.qb, 0, none⟩), .slice a j cap] W2 fun E w' => E = .returned (.int .i64 e) ∧ ∃ q', LeftQ w.heap.size W2 w' qa q' []) := by
        have := qput_any hT.a hB2 a cap (HL.out.1.kept ((H3.out.2.kept (fun _ => False)).trans HR.out.2) (fun _ _ x => x)) (off_old hT.a HL.out.2.1) (by rw [HN.out]; exact hcap) (by rw [HN.out]; show 0 + j < _; omega)
        rw [he, HN.out] at this
        have e1 : putsL [] l = [] := if_neg HL.out.2.2
        rwa [e1] at this
      have hw3 := H3.out.2.size
      have hrow := own_keys (T := l.reverse) (by have := HR.out.1; rwa [List.take_of_length_le (by rw [List.length_reverse, HN.out]; exact Nat.le_refl _)] at this) (fun x hx => by
        rcases HL.out.1 with h | ⟨g, o, _, _, hc⟩
        · rw [List.length_eq_zero_iff.1 h] at hx; cases hx
        · obtain ⟨i, hi, ei⟩ := List.getElem_of_mem (List.mem_reverse.1 hx)
          have := (hc i hi).2
          rwa [List.getD_eq_getElem?_getD, List.getElem?_eq_getElem hi, Option.getD_some, ei] at this)
      obtain ⟨k1, k2, k3, k4⟩ := hrow
      have CC : Hid (∀ qa' w4, LeftQ w.heap.size W2 w4 qa qa' [] → (Calls Try.prog 34 #[.pointer (some ⟨qa.qb, 0, none⟩)] w4 fun E w' => E = .returned (.int .i64 0) ∧ w4 = w') ∧ Calls Try.prog 39 #[.pointer (some ⟨qc.qb, 0, none⟩), .slice ra j rc] w4 fun E w' => E = .returned (.int .i64 f) ∧ Below w.heap.size w w' ∧ Calls Try.prog 34 #[.pointer (some ⟨qc.qb, 0, none⟩)] w' fun E w6 => E = .returned (.int .i64 0) ∧ w' = w6) := fun qa' w4 l4 => by
        have T4 := hT.turnA l4
        have z4 := l4.kept.size
        refine ⟨by have := qlen_any l4.queue; rw [l4.here.1] at this; exact this, ?_⟩
        have hoff : Off ra qa.turns := fun x e1 ht => by
          have := k4 x e1
          have := H3.out.1.a.lt _ (.inl ht)
          omega
        have hoffc : Off ra qc.turns := fun x e1 ht => by
          have := k4 x e1
          have := H3.out.1.c.lt _ (.inl ht)
          omega
        have := qput_any T4.c (Nat.le_trans hB2 z4) ra rc (k1.kept l4.kept hoff) hoffc (by rw [← k2]; exact k3) (by rw [← k2]; show 0 + j < _; omega)
        rw [hf, ← k2] at this
        refine this.mono ?_
        rintro E w5 ⟨rfl, q5, l5⟩
        have e1 : putsL [] l.reverse = [] := if_neg (by rw [hf]; exact hnf)
        rw [e1] at l5
        refine ⟨rfl, (hb3.trans (l4.below hT.a hB2)).trans (l5.below T4.c (Nat.le_trans hB2 z4)), ?_⟩
        have := qlen_any l5.queue
        rw [l5.here.1] at this
        exact this
      have s1 : (e != 0) = true := by simpa using hne
      have s2 : (e == 0) = false := by simpa using hne
      have s3 : (f != 0) = true := by simpa using hnf
      have s4 : (f == 0) = false := by simpa using hnf
      clear hT hB2 hb3 he hf hne hnf hw3 k1 k2 k3 k4 HR H3 HL hij
      go_wp2_with fail
      refine CP.out.mono ?_
      rintro E w4 ⟨rfl, qa', l4⟩
      have C4 := Lib.hid (CC.out qa' w4 l4).1
      have C5 := Lib.hid (CC.out qa' w4 l4).2
      clear l4 CC CP
      go_wp2_with fail
      refine C4.out.mono ?_
      rintro E w4' ⟨rfl, rfl⟩
      go_wp2_with fail
      refine C5.out.mono ?_
      rintro E w5 ⟨rfl, b5, c5⟩
      have H5 : Hid (Below w.heap.size w w5 ∧ Calls Try.prog 34 #[.pointer (some ⟨qc.qb, 0, none⟩)] w5 fun E w6 => E = .returned (.int .i64 0) ∧ w5 = w6) := ⟨b5, c5⟩
      clear b5 c5 C5 C4
      go_wp2_with fail
      refine H5.out.2.mono ?_
      rintro E w5' ⟨rfl, rfl⟩
      go_wp2_with (go_at_call 25; (with_reducible refine (CW _).out.mono ?_); rintro e W6 ⟨rfl, b6⟩)
      go_ret
      exact ⟨rfl, H5.out.1.trans (b6.mono H5.out.1.size)⟩
end Go.Proofs.Ytnpaeomacjlhpaa

/-
  ReadyJoins where the keys may be put: what the three queues hold, without the walk.
-/
namespace Go.Proofs.Ytnpaeomacjlhpaa
open Go.RowKit Go.Sort Go.Shelf Go.Maps
set_option linter.unusedVariables false

theorem add_spot (g o i : Nat) : (⟨g, o, none⟩ : Addr).add i = ⟨g, o + i, none⟩ := by
  unfold Addr.add
  split
  · subst_vars; rfl
  · rfl
/-- The keys from the n-th on. -/
theorem KeysAt.drop {w : World} {x : Addr} {l : List Ent} (h : KeysAt w (some x) l) (n : Nat) : KeysAt w (some (x.add (n * 2))) (l.drop n) := by
  rcases h with h | ⟨g, o, e, hg, hc⟩
  · exact .inl (by rw [List.length_drop]; omega)
  · cases e
    refine .inr ⟨g, o + n * 2, by rw [add_spot], hg, fun i hi => ?_⟩
    rw [List.length_drop] at hi
    have e1 : (l.drop n).getD i (0, 0) = l.getD (n + i) (0, 0) := by
      rw [List.getD_eq_getElem?_getD, List.getD_eq_getElem?_getD, List.getElem?_drop]
    obtain ⟨⟨h1, h2⟩, h3⟩ := hc (n + i) (by omega)
    rw [e1]
    have e2 : o + n * 2 + i * 2 = o + (n + i) * 2 := by omega
    rw [e2]
    exact ⟨⟨h1, h2⟩, h3⟩

/-- What the three hold is the same, in order. -/
theorem joined {l : List Ent} (n : Nat) (h : putsR [] l = 0) : ∃ T, Sorted T ∧ T.Pairwise (fun x y => x.1 ≠ y.1) ∧ T.length = l.length ∧ T.Perm (putsL [] l) ∧ T.Perm (putsL (putsL [] (l.take n)) (l.drop n)) ∧ T.Perm (putsL [] l.reverse) := by
  obtain ⟨g1, g2⟩ := good_puts.1 h
  obtain ⟨T, hp, hs⟩ := exists_sorted l g2
  obtain ⟨p1, p2⟩ := good_parts n h
  have e1 : putsL [] l = l.reverse ++ [] := if_pos h
  have e2 : putsL [] (l.take n) = (l.take n).reverse ++ [] := if_pos p1
  have e3 : putsL ((l.take n).reverse ++ []) (l.drop n) = (l.drop n).reverse ++ ((l.take n).reverse ++ []) := if_pos p2
  have e4 : putsL [] l.reverse = l.reverse.reverse ++ [] := if_pos (good_back.2 h)
  refine ⟨T, hs, (List.Perm.pairwise_iff (R := fun x y : Ent => x.1 ≠ y.1) (fun h => h.symm) hp).2 g2, hp.length_eq, ?_, ?_, ?_⟩
  · rw [e1, List.append_nil]
    exact hp.trans (List.reverse_perm l).symm
  · rw [e2, e3, List.append_nil, ← List.reverse_append, List.take_append_drop]
    exact hp.trans (List.reverse_perm l).symm
  · rw [e4, List.append_nil, List.reverse_reverse]
    exact hp
/-- Behind a drop of m. -/
theorem dropped {T L : List Ent} (hs : Sorted T) (hd : T.Pairwise (fun x y => x.1 ≠ y.1)) (hp : T.Perm L) {m : Ent} (hm : m ∈ L) : Sorted (T.filter (fun y => y.1 != m.1)) ∧ (T.filter (fun y => y.1 != m.1)).Pairwise (fun x y => x.1 ≠ y.1) ∧ (T.filter (fun y => y.1 != m.1)).Perm (L.erase m) ∧ (T.filter (fun y => y.1 != m.1)).length + 1 = T.length := by
  have hm' : m ∈ T := hp.mem_iff.2 hm
  refine ⟨sorted_filter hs _, List.Pairwise.filter _ hd, ?_, len_filter hd hm'⟩
  exact (erase_filter hd hm').symm.trans (hp.erase m)
end Go.Proofs.Ytnpaeomacjlhpaa

/-
  ReadyJoins where the keys may be put: the three queues and the two slices, call by call.
-/
namespace Go.Proofs.Ytnpaeomacjlhpaa
open Go.RowKit Go.Sort Go.Shelf Go.Maps
set_option linter.unusedVariables false

/-- Three queues at ia, ib, ic, and two slices of keys that lie in none of their blocks. -/
def Tr (w W : World) (ia ib ic : Nat) (La Lb Lc : List Ent) (a : Option Addr) (l : List Ent) (ra : Option Addr) (m : List Ent) : Prop :=
  ∃ qa qb qc : QB, (qa.qb = ia ∧ qb.qb = ib ∧ qc.qb = ic) ∧ Tri w.heap.size W qa qb qc La Lb Lc ∧ (KeysAt W a l ∧ KeysAt W ra m) ∧ (∀ x, a = some x ∨ ra = some x → x.block < W.heap.size ∧ ¬ qa.turns x.block ∧ ¬ qb.turns x.block ∧ ¬ qc.turns x.block) ∧ w.heap.size ≤ W.heap.size ∧ Below w.heap.size w W

theorem Tr.kept {w W W' : World} {ia ib ic : Nat} {La Lb Lc : List Ent} {a : Option Addr} {l : List Ent} {ra : Option Addr} {m : List Ent} (h : Tr w W ia ib ic La Lb Lc a l ra m) (k : Kept (fun _ => False) W W') : Tr w W' ia ib ic La Lb Lc a l ra m := by
  obtain ⟨qa, qb, qc, e, t, ⟨k1, k2⟩, o, s, b⟩ := h
  refine ⟨qa, qb, qc, e, t.kept k, ⟨k1.kept k (fun _ _ x => x), k2.kept k (fun _ _ x => x)⟩, fun x hx => ?_, Nat.le_trans s k.size, b.trans (k.below s (fun _ x => x.elim))⟩
  obtain ⟨o1, o2⟩ := o x hx
  exact ⟨Nat.lt_of_lt_of_le o1 k.size, o2⟩

/-- A slice that is none of a queue's stays so. -/
theorem stays {B : Nat} {W W' : World} {q q' : QB} {L : List Ent} (l : LeftQ B W W' q q' L) {b : Nat} (hb : b < W.heap.size) (h : ¬ q.turns b) : ¬ q'.turns b := fun ht => by
  rcases l.moved b ht with e | e
  · exact h e
  · omega

theorem Tr.putA {w W : World} {ia ib ic : Nat} {La Lb Lc : List Ent} {a : Option Addr} {l : List Ent} {ra : Option Addr} {m : List Ent} (h : Tr w W ia ib ic La Lb Lc a l ra m) (a' : Option Addr) (l' : List Ent) (cap : Nat) (hk : KeysAt W a' l') (ha : ∀ x, a' = some x → ∃ y, (a = some y ∨ ra = some y) ∧ y.block = x.block) (hc : l'.length ≤ cap) (hr : La.length + l'.length < 1099511627776) :
    Calls Try.prog 39 #[.pointer (some ⟨ia, 0, none⟩), .slice a' l'.length cap] W fun E w' => E = .returned (.int .i64 (putsR La l')) ∧ Tr w w' ia ib ic (putsL La l') Lb Lc a l ra m := by
  obtain ⟨qa, qb, qc, ⟨e1, e2, e3⟩, t, ⟨k1, k2⟩, o, s, b⟩ := h
  have hoff : ∀ (c : Option Addr), (∀ x, c = some x → ∃ y, (a = some y ∨ ra = some y) ∧ y.block = x.block) → Off c qa.turns := fun c hc x ex ht => by
    obtain ⟨y, hy, ey⟩ := hc x ex
    rw [← ey] at ht
    exact (o y hy).2.1 ht
  rw [← e1]
  refine (qput_any t.a s a' cap hk (hoff a' ha) hc hr).mono ?_
  rintro E w' ⟨rfl, q', lq⟩
  refine ⟨rfl, q', qb, qc, ⟨lq.here.1, e2, e3⟩, t.turnA lq, ⟨k1.kept lq.kept (hoff a (fun x ex => ⟨x, .inl ex, rfl⟩)), k2.kept lq.kept (hoff ra (fun x ex => ⟨x, .inr ex, rfl⟩))⟩, fun x hx => ?_, Nat.le_trans s lq.kept.size, b.trans (lq.below t.a s)⟩
  obtain ⟨o1, o2, o3, o4⟩ := o x hx
  exact ⟨Nat.lt_of_lt_of_le o1 lq.kept.size, stays lq o1 o2, o3, o4⟩
theorem Tr.putB {w W : World} {ia ib ic : Nat} {La Lb Lc : List Ent} {a : Option Addr} {l : List Ent} {ra : Option Addr} {m : List Ent} (h : Tr w W ia ib ic La Lb Lc a l ra m) (a' : Option Addr) (l' : List Ent) (cap : Nat) (hk : KeysAt W a' l') (ha : ∀ x, a' = some x → ∃ y, (a = some y ∨ ra = some y) ∧ y.block = x.block) (hc : l'.length ≤ cap) (hr : Lb.length + l'.length < 1099511627776) :
    Calls Try.prog 39 #[.pointer (some ⟨ib, 0, none⟩), .slice a' l'.length cap] W fun E w' => E = .returned (.int .i64 (putsR Lb l')) ∧ Tr w w' ia ib ic La (putsL Lb l') Lc a l ra m := by
  obtain ⟨qa, qb, qc, ⟨e1, e2, e3⟩, t, ⟨k1, k2⟩, o, s, b⟩ := h
  have hoff : ∀ (c : Option Addr), (∀ x, c = some x → ∃ y, (a = some y ∨ ra = some y) ∧ y.block = x.block) → Off c qb.turns := fun c hc x ex ht => by
    obtain ⟨y, hy, ey⟩ := hc x ex
    rw [← ey] at ht
    exact (o y hy).2.2.1 ht
  rw [← e2]
  refine (qput_any t.b s a' cap hk (hoff a' ha) hc hr).mono ?_
  rintro E w' ⟨rfl, q', lq⟩
  refine ⟨rfl, qa, q', qc, ⟨e1, lq.here.1, e3⟩, t.turnB lq, ⟨k1.kept lq.kept (hoff a (fun x ex => ⟨x, .inl ex, rfl⟩)), k2.kept lq.kept (hoff ra (fun x ex => ⟨x, .inr ex, rfl⟩))⟩, fun x hx => ?_, Nat.le_trans s lq.kept.size, b.trans (lq.below t.b s)⟩
  obtain ⟨o1, o2, o3, o4⟩ := o x hx
  exact ⟨Nat.lt_of_lt_of_le o1 lq.kept.size, o2, stays lq o1 o3, o4⟩
theorem Tr.putC {w W : World} {ia ib ic : Nat} {La Lb Lc : List Ent} {a : Option Addr} {l : List Ent} {ra : Option Addr} {m : List Ent} (h : Tr w W ia ib ic La Lb Lc a l ra m) (a' : Option Addr) (l' : List Ent) (cap : Nat) (hk : KeysAt W a' l') (ha : ∀ x, a' = some x → ∃ y, (a = some y ∨ ra = some y) ∧ y.block = x.block) (hc : l'.length ≤ cap) (hr : Lc.length + l'.length < 1099511627776) :
    Calls Try.prog 39 #[.pointer (some ⟨ic, 0, none⟩), .slice a' l'.length cap] W fun E w' => E = .returned (.int .i64 (putsR Lc l')) ∧ Tr w w' ia ib ic La Lb (putsL Lc l') a l ra m := by
  obtain ⟨qa, qb, qc, ⟨e1, e2, e3⟩, t, ⟨k1, k2⟩, o, s, b⟩ := h
  have hoff : ∀ (c : Option Addr), (∀ x, c = some x → ∃ y, (a = some y ∨ ra = some y) ∧ y.block = x.block) → Off c qc.turns := fun c hc x ex ht => by
    obtain ⟨y, hy, ey⟩ := hc x ex
    rw [← ey] at ht
    exact (o y hy).2.2.2 ht
  rw [← e3]
  refine (qput_any t.c s a' cap hk (hoff a' ha) hc hr).mono ?_
  rintro E w' ⟨rfl, q', lq⟩
  refine ⟨rfl, qa, qb, q', ⟨e1, e2, lq.here.1⟩, t.turnC lq, ⟨k1.kept lq.kept (hoff a (fun x ex => ⟨x, .inl ex, rfl⟩)), k2.kept lq.kept (hoff ra (fun x ex => ⟨x, .inr ex, rfl⟩))⟩, fun x hx => ?_, Nat.le_trans s lq.kept.size, b.trans (lq.below t.c s)⟩
  obtain ⟨o1, o2, o3, o4⟩ := o x hx
  exact ⟨Nat.lt_of_lt_of_le o1 lq.kept.size, o2, o3, stays lq o1 o4⟩

/-- Least of any of them. -/
theorem Tr.leastA {w W : World} {ia ib ic : Nat} {La Lb Lc T : List Ent} {a : Option Addr} {l : List Ent} {ra : Option Addr} {m : List Ent} (h : Tr w W ia ib ic La Lb Lc a l ra m) (hT : T.Perm La) (hs : Sorted T) (hd : T.Pairwise (fun x y => x.1 ≠ y.1)) (hl : T.length < 1099511627776) (h64 : ∀ x ∈ T, Is64 x.1 ∧ Is64 x.2) (n : Nat) (hn : T.length ≤ n) :
    Calls Try.prog 31 #[.pointer (some ⟨ia, 0, none⟩), .int .i64 n] W fun E w' => ∃ r cap, E = .returned (.slice r T.length cap) ∧ KeysAt w' r T ∧ Kept (fun _ => False) W w' := by
  obtain ⟨qa, qb, qc, ⟨e1, e2, e3⟩, t, _, _, _, _⟩ := h
  rw [← e1]
  refine (qleast_any t.a hT hs hd hl n).mono ?_
  rintro E w' ⟨r, cap, rfl, h1, h2⟩
  have e : min ((n : Int).toNat) T.length = T.length := by simp; omega
  rw [e, List.take_of_length_le (by simpa using hn)] at h1
  exact ⟨r, cap, by rw [e], (own_keys h1 h64).1, h2⟩
theorem Tr.leastB {w W : World} {ia ib ic : Nat} {La Lb Lc T : List Ent} {a : Option Addr} {l : List Ent} {ra : Option Addr} {m : List Ent} (h : Tr w W ia ib ic La Lb Lc a l ra m) (hT : T.Perm Lb) (hs : Sorted T) (hd : T.Pairwise (fun x y => x.1 ≠ y.1)) (hl : T.length < 1099511627776) (h64 : ∀ x ∈ T, Is64 x.1 ∧ Is64 x.2) (n : Nat) (hn : T.length ≤ n) :
    Calls Try.prog 31 #[.pointer (some ⟨ib, 0, none⟩), .int .i64 n] W fun E w' => ∃ r cap, E = .returned (.slice r T.length cap) ∧ KeysAt w' r T ∧ Kept (fun _ => False) W w' := by
  obtain ⟨qa, qb, qc, ⟨e1, e2, e3⟩, t, _, _, _, _⟩ := h
  rw [← e2]
  refine (qleast_any t.b hT hs hd hl n).mono ?_
  rintro E w' ⟨r, cap, rfl, h1, h2⟩
  have e : min ((n : Int).toNat) T.length = T.length := by simp; omega
  rw [e, List.take_of_length_le (by simpa using hn)] at h1
  exact ⟨r, cap, by rw [e], (own_keys h1 h64).1, h2⟩
theorem Tr.leastC {w W : World} {ia ib ic : Nat} {La Lb Lc T : List Ent} {a : Option Addr} {l : List Ent} {ra : Option Addr} {m : List Ent} (h : Tr w W ia ib ic La Lb Lc a l ra m) (hT : T.Perm Lc) (hs : Sorted T) (hd : T.Pairwise (fun x y => x.1 ≠ y.1)) (hl : T.length < 1099511627776) (h64 : ∀ x ∈ T, Is64 x.1 ∧ Is64 x.2) (n : Nat) (hn : T.length ≤ n) :
    Calls Try.prog 31 #[.pointer (some ⟨ic, 0, none⟩), .int .i64 n] W fun E w' => ∃ r cap, E = .returned (.slice r T.length cap) ∧ KeysAt w' r T ∧ Kept (fun _ => False) W w' := by
  obtain ⟨qa, qb, qc, ⟨e1, e2, e3⟩, t, _, _, _, _⟩ := h
  rw [← e3]
  refine (qleast_any t.c hT hs hd hl n).mono ?_
  rintro E w' ⟨r, cap, rfl, h1, h2⟩
  have e : min ((n : Int).toNat) T.length = T.length := by simp; omega
  rw [e, List.take_of_length_le (by simpa using hn)] at h1
  exact ⟨r, cap, by rw [e], (own_keys h1 h64).1, h2⟩
end Go.Proofs.Ytnpaeomacjlhpaa

/-
  ReadyJoins where the keys may be put: behind the puts, with the slice of all of them.
-/
namespace Go.Proofs.Ytnpaeomacjlhpaa
open Go.RowKit Go.Sort Go.Shelf Go.Maps
set_option linter.unusedVariables false

/-- Three queues at ia, ib, ic, and a slice of keys that the first one's calls do not turn. -/
def Tr1 (w W : World) (ia ib ic : Nat) (La Lb Lc : List Ent) (r : Option Addr) (T : List Ent) : Prop :=
  ∃ qa qb qc : QB, (qa.qb = ia ∧ qb.qb = ib ∧ qc.qb = ic) ∧ Tri w.heap.size W qa qb qc La Lb Lc ∧ KeysAt W r T ∧ Off r qa.turns ∧ w.heap.size ≤ W.heap.size ∧ Below w.heap.size w W

theorem Tr1.kept {w W W' : World} {ia ib ic : Nat} {La Lb Lc : List Ent} {r : Option Addr} {T : List Ent} (h : Tr1 w W ia ib ic La Lb Lc r T) (k : Kept (fun _ => False) W W') : Tr1 w W' ia ib ic La Lb Lc r T := by
  obtain ⟨qa, qb, qc, e, t, k1, o, s, b⟩ := h
  exact ⟨qa, qb, qc, e, t.kept k, k1.kept k (fun _ _ x => x), o, Nat.le_trans s k.size, b.trans (k.below s (fun _ x => x.elim))⟩

/-- Len of the first one. -/
theorem Tr.lenA {w W : World} {ia ib ic : Nat} {La Lb Lc : List Ent} {a : Option Addr} {l : List Ent} {ra : Option Addr} {m : List Ent} (h : Tr w W ia ib ic La Lb Lc a l ra m) :
    Calls Try.prog 34 #[.pointer (some ⟨ia, 0, none⟩)] W fun E w' => E = .returned (.int .i64 La.length) ∧ W = w' := by
  obtain ⟨qa, qb, qc, ⟨e1, e2, e3⟩, t, _, _, _, _⟩ := h
  rw [← e1]
  exact qlen_any t.a

/-- All of the first one. -/
theorem Tr.allA {w W : World} {ia ib ic : Nat} {La Lb Lc T : List Ent} {a : Option Addr} {l : List Ent} {ra : Option Addr} {m : List Ent} (h : Tr w W ia ib ic La Lb Lc a l ra m) (hT : T.Perm La) (hs : Sorted T) (hd : T.Pairwise (fun x y => x.1 ≠ y.1)) (hl : T.length < 1099511627776) (h64 : ∀ x ∈ T, Is64 x.1 ∧ Is64 x.2) (n : Nat) (hn : T.length ≤ n) :
    Calls Try.prog 31 #[.pointer (some ⟨ia, 0, none⟩), .int .i64 n] W fun E w' => ∃ r cap, E = .returned (.slice r T.length cap) ∧ T.length ≤ cap ∧ Tr1 w w' ia ib ic La Lb Lc r T := by
  obtain ⟨qa, qb, qc, ⟨e1, e2, e3⟩, t, _, _, s, b⟩ := h
  rw [← e1]
  refine (qleast_any t.a hT hs hd hl n).mono ?_
  rintro E w' ⟨r, cap, rfl, h1, k⟩
  have e : min ((n : Int).toNat) T.length = T.length := by simp; omega
  rw [e, List.take_of_length_le (by simpa using hn)] at h1
  obtain ⟨x1, x2, x3, x4⟩ := own_keys h1 h64
  refine ⟨r, cap, by rw [e], x3, qa, qb, qc, ⟨rfl, e2, e3⟩, t.kept k, x1, fun y ey ht => ?_, Nat.le_trans s k.size, b.trans (k.below s (fun _ x => x.elim))⟩
  have := x4 y ey
  have := t.a.lt _ (.inl ht)
  omega

/-- Least, the slice of all staying. -/
theorem Tr1.leastA {w W : World} {ia ib ic : Nat} {La Lb Lc T T' : List Ent} {r : Option Addr} (h : Tr1 w W ia ib ic La Lb Lc r T') (hT : T.Perm La) (hs : Sorted T) (hd : T.Pairwise (fun x y => x.1 ≠ y.1)) (hl : T.length < 1099511627776) (h64 : ∀ x ∈ T, Is64 x.1 ∧ Is64 x.2) (n : Nat) (hn : T.length ≤ n) :
    Calls Try.prog 31 #[.pointer (some ⟨ia, 0, none⟩), .int .i64 n] W fun E w' => ∃ r2 cap, E = .returned (.slice r2 T.length cap) ∧ KeysAt w' r2 T ∧ Kept (fun _ => False) W w' ∧ Tr1 w w' ia ib ic La Lb Lc r T' := by
  have h' := h
  obtain ⟨qa, qb, qc, ⟨e1, e2, e3⟩, t, _, _, s, b⟩ := h
  rw [← e1]
  refine (qleast_any t.a hT hs hd hl n).mono ?_
  rintro E w' ⟨r, cap, rfl, h1, k⟩
  have e : min ((n : Int).toNat) T.length = T.length := by simp; omega
  rw [e, List.take_of_length_le (by simpa using hn)] at h1
  exact ⟨r, cap, by rw [e], (own_keys h1 h64).1, k, by rw [e1]; exact h'.kept k⟩
theorem Tr1.leastB {w W : World} {ia ib ic : Nat} {La Lb Lc T T' : List Ent} {r : Option Addr} (h : Tr1 w W ia ib ic La Lb Lc r T') (hT : T.Perm Lb) (hs : Sorted T) (hd : T.Pairwise (fun x y => x.1 ≠ y.1)) (hl : T.length < 1099511627776) (h64 : ∀ x ∈ T, Is64 x.1 ∧ Is64 x.2) (n : Nat) (hn : T.length ≤ n) :
    Calls Try.prog 31 #[.pointer (some ⟨ib, 0, none⟩), .int .i64 n] W fun E w' => ∃ r2 cap, E = .returned (.slice r2 T.length cap) ∧ KeysAt w' r2 T ∧ Kept (fun _ => False) W w' ∧ Tr1 w w' ia ib ic La Lb Lc r T' := by
  have h' := h
  obtain ⟨qa, qb, qc, ⟨e1, e2, e3⟩, t, _, _, s, b⟩ := h
  rw [← e2]
  refine (qleast_any t.b hT hs hd hl n).mono ?_
  rintro E w' ⟨r, cap, rfl, h1, k⟩
  have e : min ((n : Int).toNat) T.length = T.length := by simp; omega
  rw [e, List.take_of_length_le (by simpa using hn)] at h1
  exact ⟨r, cap, by rw [e], (own_keys h1 h64).1, k, by rw [e2]; exact h'.kept k⟩
theorem Tr1.leastC {w W : World} {ia ib ic : Nat} {La Lb Lc T T' : List Ent} {r : Option Addr} (h : Tr1 w W ia ib ic La Lb Lc r T') (hT : T.Perm Lc) (hs : Sorted T) (hd : T.Pairwise (fun x y => x.1 ≠ y.1)) (hl : T.length < 1099511627776) (h64 : ∀ x ∈ T, Is64 x.1 ∧ Is64 x.2) (n : Nat) (hn : T.length ≤ n) :
    Calls Try.prog 31 #[.pointer (some ⟨ic, 0, none⟩), .int .i64 n] W fun E w' => ∃ r2 cap, E = .returned (.slice r2 T.length cap) ∧ KeysAt w' r2 T ∧ Kept (fun _ => False) W w' ∧ Tr1 w w' ia ib ic La Lb Lc r T' := by
  have h' := h
  obtain ⟨qa, qb, qc, ⟨e1, e2, e3⟩, t, _, _, s, b⟩ := h
  rw [← e3]
  refine (qleast_any t.c hT hs hd hl n).mono ?_
  rintro E w' ⟨r, cap, rfl, h1, k⟩
  have e : min ((n : Int).toNat) T.length = T.length := by simp; omega
  rw [e, List.take_of_length_le (by simpa using hn)] at h1
  exact ⟨r, cap, by rw [e], (own_keys h1 h64).1, k, by rw [e3]; exact h'.kept k⟩

/-- Drop of the first one. -/
theorem Tr1.dropNone {w W : World} {ia ib ic : Nat} {La Lb Lc T : List Ent} {r : Option Addr} (h : Tr1 w W ia ib ic La Lb Lc r T) (id : Int) (hid : Is64 id) (hn : ∀ x ∈ La, x.1 ≠ id) :
    Calls Try.prog 40 #[.pointer (some ⟨ia, 0, none⟩), .int .i64 id] W fun E w' => E = .returned (.tuple #[.agg #[.int .i64 0, .int .i64 0], .int .i64 14]) ∧ Tr1 w w' ia ib ic La Lb Lc r T := by
  have h' := h
  obtain ⟨qa, qb, qc, ⟨e1, e2, e3⟩, t, _, _, s, b⟩ := h
  rw [← e1]
  refine (qdrop_none t.a id hid hn).mono ?_
  rintro E w' ⟨rfl, g⟩
  exact ⟨rfl, by rw [e1]; exact h'.kept (g.kept _)⟩
theorem Tr1.dropThere {w W : World} {ia ib ic : Nat} {La Lb Lc T : List Ent} {r : Option Addr} (h : Tr1 w W ia ib ic La Lb Lc r T) (m : Ent) (hm : m ∈ La) :
    Calls Try.prog 40 #[.pointer (some ⟨ia, 0, none⟩), .int .i64 m.1] W fun E w' => E = .returned (.tuple #[.agg #[.int .i64 m.2, .int .i64 m.1], .int .i64 0]) ∧ Tr1 w w' ia ib ic (La.erase m) Lb Lc r T := by
  obtain ⟨qa, qb, qc, ⟨e1, e2, e3⟩, t, k, o, s, b⟩ := h
  rw [← e1]
  refine (qdrop_there t.a m hm).mono ?_
  rintro E w' ⟨rfl, lq⟩
  exact ⟨rfl, qa, qb, qc, ⟨rfl, e2, e3⟩, t.turnA lq, k.kept lq.kept o, o, Nat.le_trans s lq.kept.size, b.trans (lq.below t.a s)⟩

/-- The row v holds those of the first i of T that p has; all else as it was in W0. -/
def RowF (W0 : World) (T : List Ent) (p : Ent → Bool) (v : Value) (i n : Nat) (W : World) : Prop := n = ((T.take i).filter p).length ∧ W.ownsRow W0.heap.size 37 2 v n (flatR ((T.take i).filter p)) ∧ Kept (fun _ => False) W0 W
theorem take_next {T : List Ent} {i : Nat} (hi : i < T.length) : T.take (i + 1) = T.take i ++ [T.getD i (0, 0)] := by
  rw [List.take_add_one, List.getD_eq_getElem?_getD, List.getElem?_eq_getElem hi]; rfl
theorem RowF.skip {W0 W : World} {T : List Ent} {p : Ent → Bool} {v : Value} {i n : Nat} (h : RowF W0 T p v i n W) (hi : i < T.length) (hp : p (T.getD i (0, 0)) = false) : RowF W0 T p v (i + 1) n W := by
  obtain ⟨h1, h2, h3⟩ := h
  have e : (T.take (i + 1)).filter p = (T.take i).filter p := by rw [take_next hi, List.filter_append]; simp [List.getD_eq_getElem?_getD] at hp ⊢; simp [hp]
  exact ⟨by rw [e]; exact h1, by rw [e]; exact h2, h3⟩
theorem RowF.next {W0 W w2 : World} {T : List Ent} {p : Ent → Bool} {v v2 : Value} {i n : Nat} (h : RowF W0 T p v i n W) (hi : i < T.length) (hp : p (T.getD i (0, 0)) = true) (o : Obj)
    (ho : w2.ownsRow W0.heap.size 37 2 v2 (n + 1) (flatR ((T.take i).filter p) ++ [.int .i64 (T.getD i (0, 0)).2, .int .i64 (T.getD i (0, 0)).1])) (hg : (W.alloc o).grownBy w2 v.ownBlock) : RowF W0 T p v2 (i + 1) (n + 1) w2 := by
  obtain ⟨h1, h2, h3⟩ := h
  have e : (T.take (i + 1)).filter p = (T.take i).filter p ++ [T.getD i (0, 0)] := by rw [take_next hi, List.filter_append]; simp [List.getD_eq_getElem?_getD] at hp ⊢; simp [hp]
  refine ⟨by rw [e, List.length_append, ← h1]; rfl, ?_, (h3.alloc o).grown hg (fun i e => .inr (own_block h2 i e))⟩
  rw [e, flatR_append]
  exact ho
end Go.Proofs.Ytnpaeomacjlhpaa

/-
  ReadyJoins where the keys may be put: its walk.
-/
namespace Go.Proofs.Ytnpaeomacjlhpaa
open Go.RowKit Go.Sort Go.Shelf Go.Maps
set_option linter.unusedVariables false
set_option linter.unusedSimpArgs false

set_option maxHeartbeats 4000000 in
set_option maxRecDepth 100000 in
/-- Where the keys may be put. -/
theorem joins_good (a : Option Addr) (cap : Nat) (l : List Ent) (n : Nat) (id : Int) (hid : Is64 id) (hl : l.length ≤ 40) (hn : n ≤ l.length) (hcap : l.length ≤ cap) (w : World) (hk : KeysAt w a l) (ha : ∀ x, a = some x → x.block < w.heap.size) (hn0 : a = none → cap = 0) (hgood : putsR [] l = 0) :
    Calls Try.prog 6 #[.slice a l.length cap, .int .i64 n, .int .i64 id] w fun E w' => E = .returned (.bool true) ∧ Below w.heap.size w w' := by
  obtain ⟨i0, hi0, hz0, hz1, hz2⟩ := info_parts (P := Try.prog) (e := 37) (z := .agg #[.int .i64 0, .int .i64 0]) (size := 2) (bytes := 16) (by kernel_rfl)
  have HI : Hid (Try.prog.info? 37 = some i0 ∧ i0.zero = some (.agg #[.int .i64 0, .int .i64 0]) ∧ i0.size = 2 ∧ i0.bytes = 16) := ⟨hi0, hz0, hz1, hz2⟩
  have CW : ∀ W, Hid (Calls Try.prog 25 #[] W fun e w' => e = .returned (.bool true) ∧ Below W.heap.size W w') := fun W => awake4 W
  have CN : ∀ W, w.heap.size ≤ W.heap.size → Hid (Calls Try.prog 23 #[] W fun E w' => ∃ q : QB, E = .returned (.pointer (some ⟨q.qb, 0, none⟩)) ∧ Qs w.heap.size w' q [] ∧ Grew W w' ∧ ∀ k, q.own k → W.heap.size ≤ k) := fun W h => qnew_any w.heap.size W h
  have HL : Hid (KeysAt w a l ∧ (∀ x, a = some x → x.block < w.heap.size) ∧ putsR [] l = 0) := ⟨hk, ha, hgood⟩
  clear hk ha hgood hi0 hz0 hz1 hz2
  obtain ⟨len, hlen⟩ : ∃ len, l.length = len := ⟨_, rfl⟩
  have HN := Lib.hid hlen
  rw [hlen] at hl hn hcap ⊢
  clear hlen
  have t1 : decide ((len : Int) > 40) = false := decide_eq_false (by omega)
  have t2 : decide ((n : Int) < 0) = false := decide_eq_false (by omega)
  have t3 : decide ((n : Int) > (len : Int)) = false := decide_eq_false (by omega)
  have q0 : IntKind.i64.wrap ((len : Int) - 1) = (len : Int) - 1 := by rw [IntKind.wrap_i64]; omega
  go_enter Try.func6, Try.ntmps6
  go_wp2_with fail
  refine (CN w (Nat.le_refl _)).out.mono ?_
  rintro E w1 ⟨qa, rfl, h1, g1, o1⟩
  have H1 : Hid (Qs w.heap.size w1 qa [] ∧ Grew w w1) := ⟨h1, g1⟩
  clear h1 g1 o1
  go_wp2_with fail
  refine (CN w1 H1.out.2.size).out.mono ?_
  rintro E w2 ⟨qb, rfl, h2, g2, o2⟩
  have H2 : Hid (Qs w.heap.size w2 qa [] ∧ Qs w.heap.size w2 qb [] ∧ Grew w w2 ∧ Aside qa qb) := ⟨H1.out.1.grew g2, h2, H1.out.2.trans g2, apart_new H1.out.1 o2⟩
  clear h2 g2 o2 H1
  go_wp2_with fail
  refine (CN w2 H2.out.2.2.1.size).out.mono ?_
  rintro E w3 ⟨qc, rfl, h3, g3, o3⟩
  have H3 : Hid (Tri w.heap.size w3 qa qb qc [] [] [] ∧ Grew w w3) := ⟨⟨H2.out.1.grew g3, H2.out.2.1.grew g3, h3, H2.out.2.2.2, apart_new H2.out.1 o3, apart_new H2.out.2.1 o3⟩, H2.out.2.2.1.trans g3⟩
  clear h3 g3 o3 H2 CN
  go_wp2_with fail
  go_loopg [10, 11] len (fun gk s v wr => ∃ (j : Nat) (i : Int) (ra : Option Addr) (rc : Nat), s = .slice ra j rc ∧ v = .int .i64 i ∧ j ≤ len ∧ i = (len : Int) - 1 - j ∧ len - j ≤ gk ∧ Hid (RowTo w3 l.reverse (.slice ra j rc) j wr))
  case atStart => exact ⟨0, _, none, 0, rfl, rfl, Nat.zero_le _, by omega, Nat.le_refl _, ⟨rfl, .inl ⟨rfl, rfl⟩⟩, Kept.refl _ _⟩
  case round =>
    rename World => W2
    obtain ⟨j, i, ra, rc, rfl, rfl, hj, hij, hgk, HR⟩ := hrel
    by_cases hlt : j < len
    · obtain ⟨p, rfl⟩ : ∃ p : Nat, i = (p : Int) := ⟨len - 1 - j, by omega⟩
      have hp : p = len - 1 - j := by omega
      have hpl : p < len := by omega
      have hpz : (p : Int) < (len : Int) := by omega
      have hi' : decide ((p : Int) ≥ 0) = true := decide_eq_true (by omega)
      have q4 : IntKind.i64.wrap ((p : Int) - 1) = (p : Int) - 1 := by rw [IntKind.wrap_i64]; omega
      rcases HL.out.1.kept ((H3.out.2.kept (fun _ => False)).trans HR.out.2) (fun _ _ x => x) with h | ⟨g, o, rfl, hg, hc⟩
      · rw [HN.out] at h; omega
      obtain ⟨⟨c1, c2⟩, _⟩ := hc p (by rw [HN.out]; exact hpl)
      have er : l.reverse.getD j (0, 0) = l.getD p (0, 0) := by rw [rev_getD (by rw [HN.out]; exact hlt), HN.out, hp]
      have ER := Lib.hid er
      have hjr : Hid (j < l.reverse.length) := by rw [List.length_reverse, HN.out]; exact hlt
      have hz3 : w3.heap.size ≤ W2.heap.size := HR.out.2.size
      have HIJ := Lib.hid hij
      clear hc er hp hij
      generalize l.getD p (0, 0) = x at *
      obtain ⟨x1, x2⟩ := x
      simp only [] at *
      go_wp2_with (at_builtin; refine wpList_append_own _ rfl _ _ 46 rfl w3.heap.size 37 i0 (.agg #[.int .i64 0, .int .i64 0]) 2 16 Try.underlying46 HI.out.1 HI.out.2.1 HI.out.2.2.1 HI.out.2.2.2 rfl (by decide) _ _ _ rfl (own_kept HR.out.1 (fun g e => Below.heap_alloc _ _ _ (own_lt HR.out.1 g e))) ⟨W2.heap.size, 0, none⟩ 1 1 [.int .i64 x2, .int .i64 x1] rfl rfl (fun j u hj => two_cells _ _ _ hj) (by simp [Value.oneCell']) (by unfold maxLen; omega) (by omega) (by simp; omega) ?_; intro v2 w4 ho2 hg2 _; obtain ⟨a2, cap2, rfl⟩ := own_form ho2; have HN2 := Lib.hid (HR.out.next hjr.out _ (by rw [ER.out]; exact ho2) hg2); clear ho2 hg2)
      go_roundg (len - (j + 1))
      case measure => omega
      case rel => exact ⟨j + 1, _, a2, cap2, rfl, rfl, by omega, by have := HIJ.out; omega, Nat.le_refl _, (show Hid _ from HN2.out)⟩
    · obtain rfl : j = len := by omega
      have hi' : decide (i ≥ 0) = false := decide_eq_false (by omega)
      have HX : Hid (∃ T, Sorted T ∧ T.Pairwise (fun x y => x.1 ≠ y.1) ∧ T.length = l.length ∧ T.Perm (putsL [] l) ∧ T.Perm (putsL (putsL [] (l.take n)) (l.drop n)) ∧ T.Perm (putsL [] l.reverse)) := joined n HL.out.2.2
      have h64l : ∀ x ∈ l, Is64 x.1 ∧ Is64 x.2 := fun x hx => by
        rcases HL.out.1 with h | ⟨g, o, _, _, hc⟩
        · rw [List.length_eq_zero_iff.1 h] at hx; cases hx
        · obtain ⟨i, hi, ei⟩ := List.getElem_of_mem hx
          have := (hc i hi).2
          rwa [List.getD_eq_getElem?_getD, List.getElem?_eq_getElem hi, Option.getD_some, ei] at this
      obtain ⟨T, ts, td, tl, tA, tB, tC⟩ := HX.out
      have h64 : ∀ x ∈ T, Is64 x.1 ∧ Is64 x.2 := fun x hx => by
        have h := tA.mem_iff.1 hx
        rw [putsL, if_pos HL.out.2.2, List.append_nil] at h
        exact h64l x (List.mem_reverse.1 h)
      have S0 : Hid (Tr w W2 qa.qb qb.qb qc.qb [] [] [] a l ra l.reverse) := by
        have hT : Tri w.heap.size W2 qa qb qc [] [] [] := H3.out.1.kept HR.out.2
        have hB2 : w.heap.size ≤ W2.heap.size := Nat.le_trans H3.out.2.size HR.out.2.size
        have hb3 : Below w.heap.size w W2 := (H3.out.2.below).trans (HR.out.2.below H3.out.2.size (fun _ x => x.elim))
        have hr := HR.out.1
        rw [List.take_of_length_le (by rw [List.length_reverse, HN.out]; exact Nat.le_refl _)] at hr
        obtain ⟨k1, k2, k3, k4⟩ := own_keys (T := l.reverse) hr (fun x hx => h64l x (List.mem_reverse.1 hx))
        refine ⟨qa, qb, qc, ⟨rfl, rfl, rfl⟩, hT, ⟨HL.out.1.kept ((H3.out.2.kept (fun _ => False)).trans HR.out.2) (fun _ _ x => x), k1⟩, ?_, hB2, hb3⟩
        rintro x (e | e)
        · have := HL.out.2.1 x e
          exact ⟨by omega, off_old hT.a HL.out.2.1 x e, off_old hT.b HL.out.2.1 x e, off_old hT.c HL.out.2.1 x e⟩
        · have h1 := k4 x e
          have h2 : x.block < W2.heap.size := by rw [e] at hr; exact own_lt hr x.block rfl
          exact ⟨h2, fun ht => by have := H3.out.1.a.lt _ (.inl ht); omega, fun ht => by have := H3.out.1.b.lt _ (.inl ht); omega, fun ht => by have := H3.out.1.c.lt _ (.inl ht); omega⟩
      have PR : Hid (putsR [] (l.take n) = 0 ∧ putsR (putsL [] (l.take n)) (l.drop n) = 0 ∧ putsR [] l.reverse = 0) := by
        obtain ⟨p1, p2⟩ := good_parts n HL.out.2.2
        refine ⟨p1, ?_, good_back.2 HL.out.2.2⟩
        have e : putsL [] (l.take n) = (l.take n).reverse ++ [] := if_pos p1
        rw [e]
        exact p2
      have KR : Hid (j = l.reverse.length ∧ j ≤ rc) := by
        have hr := HR.out.1
        rw [List.take_of_length_le (by rw [List.length_reverse, HN.out]; exact Nat.le_refl _)] at hr
        obtain ⟨k1, k2, k3, k4⟩ := own_keys (T := l.reverse) hr (fun x hx => h64l x (List.mem_reverse.1 hx))
        exact ⟨k2, k3⟩
      have PA : Hid (Calls Try.prog 39 #[.pointer (some ⟨qa.qb, 0, none⟩), .slice a j cap] W2 fun E w' => E = .returned (.int .i64 0) ∧ Tr w w' qa.qb qb.qb qc.qb (putsL [] l) [] [] a l ra l.reverse) := by
        have := S0.out.putA a l cap (by obtain ⟨_, _, _, _, _, ⟨k, _⟩, _⟩ := S0.out; exact k) (fun x ex => ⟨x, .inl ex, rfl⟩) (by rw [HN.out]; exact hcap) (by rw [HN.out]; show 0 + j < _; omega)
        rw [HL.out.2.2, HN.out] at this
        exact this
      have PB : Hid (∀ W, Tr w W qa.qb qb.qb qc.qb (putsL [] l) [] [] a l ra l.reverse → Calls Try.prog 39 #[.pointer (some ⟨qb.qb, 0, none⟩), .slice a n cap] W fun E w' => E = .returned (.int .i64 0) ∧ Tr w w' qa.qb qb.qb qc.qb (putsL [] l) (putsL [] (l.take n)) [] a l ra l.reverse) := fun W h => by
        have hln : (l.take n).length = n := by rw [List.length_take, HN.out]; omega
        have := h.putB a (l.take n) cap (by obtain ⟨_, _, _, _, _, ⟨k, _⟩, _⟩ := h; exact k.take n) (fun x ex => ⟨x, .inl ex, rfl⟩) (by rw [hln]; omega) (by rw [hln]; show 0 + n < _; omega)
        rw [PR.out.1, hln] at this
        exact this
      have PC : Hid (∀ W x, a = some x → Tr w W qa.qb qb.qb qc.qb (putsL [] l) (putsL [] (l.take n)) [] a l ra l.reverse → Calls Try.prog 39 #[.pointer (some ⟨qb.qb, 0, none⟩), .slice (some (x.add (n * 2))) (j - n) (cap - n)] W fun E w' => E = .returned (.int .i64 0) ∧ Tr w w' qa.qb qb.qb qc.qb (putsL [] l) (putsL (putsL [] (l.take n)) (l.drop n)) [] a l ra l.reverse) := fun W x ex h => by
        have hln : (l.drop n).length = j - n := by rw [List.length_drop, HN.out]
        have := h.putB (some (x.add (n * 2))) (l.drop n) (cap - n) (by obtain ⟨_, _, _, _, _, ⟨k, _⟩, _⟩ := h; rw [ex] at k; exact k.drop n) (fun y ey => ⟨x, .inl ex, by cases ey; unfold Addr.add; split <;> rfl⟩) (by rw [hln]; omega) (by
          have : (putsL [] (l.take n)).length = n := by rw [putsL, if_pos PR.out.1, List.append_nil, List.length_reverse, List.length_take, HN.out]; omega
          rw [hln, this]; omega)
        rw [PR.out.2.1, hln] at this
        exact this
      have PD : Hid (∀ W, Tr w W qa.qb qb.qb qc.qb (putsL [] l) (putsL (putsL [] (l.take n)) (l.drop n)) [] a l ra l.reverse → Calls Try.prog 39 #[.pointer (some ⟨qc.qb, 0, none⟩), .slice ra j rc] W fun E w' => E = .returned (.int .i64 0) ∧ Tr w w' qa.qb qb.qb qc.qb (putsL [] l) (putsL (putsL [] (l.take n)) (l.drop n)) (putsL [] l.reverse) a l ra l.reverse) := fun W h => by
        have := h.putC ra l.reverse rc (by obtain ⟨_, _, _, _, _, ⟨_, k⟩, _⟩ := h; exact k) (fun x ex => ⟨x, .inr ex, rfl⟩) (by rw [← KR.out.1]; exact KR.out.2) (by rw [← KR.out.1]; show 0 + j < _; omega)
        rw [PR.out.2.2, ← KR.out.1] at this
        exact this
      have P0 : Hid (cap = n → ∀ W, Tr w W qa.qb qb.qb qc.qb (putsL [] l) (putsL [] (l.take n)) [] a l ra l.reverse → Calls Try.prog 39 #[.pointer (some ⟨qb.qb, 0, none⟩), .slice a (j - n) 0] W fun E w' => E = .returned (.int .i64 0) ∧ Tr w w' qa.qb qb.qb qc.qb (putsL [] l) (putsL (putsL [] (l.take n)) (l.drop n)) [] a l ra l.reverse) := fun hcn W h => by
        have hln : (l.drop n).length = j - n := by rw [List.length_drop, HN.out]
        have := h.putB a (l.drop n) 0 (.inl (by rw [hln]; omega)) (fun x ex => ⟨x, .inl ex, rfl⟩) (by rw [hln]; omega) (by
          have : (putsL [] (l.take n)).length = n := by rw [putsL, if_pos PR.out.1, List.append_nil, List.length_reverse, List.length_take, HN.out]; omega
          rw [hln, this]; omega)
        rw [PR.out.2.1, hln] at this
        exact this
      have hTl : T.length = j := by rw [tl, HN.out]
      have hTk : T.length < 1099511627776 := by omega
      have SOME : Hid (¬ cap = n → ∃ x, a = some x) := fun h => by
        cases a with
        | none => exact absurd (hn0 rfl) (by have := hn0 rfl; omega)
        | some x => exact ⟨x, rfl⟩
      have hLA : (putsL [] l).length = j := by rw [← tA.length_eq, hTl]
      generalize putsL [] l = LA at *
      generalize putsL (putsL [] (l.take n)) (l.drop n) = LB at *
      generalize putsL [] l.reverse = LC at *
      have CL1 : Hid (∀ W, Tr w W qa.qb qb.qb qc.qb LA LB LC a l ra l.reverse → Calls Try.prog 34 #[.pointer (some ⟨qa.qb, 0, none⟩)] W fun E w' => E = .returned (.int .i64 j) ∧ W = w') := fun W h => by
        have := h.lenA
        rw [hLA] at this
        exact this
      have CL2 : Hid (∀ W, Tr w W qa.qb qb.qb qc.qb LA LB LC a l ra l.reverse → Calls Try.prog 31 #[.pointer (some ⟨qa.qb, 0, none⟩), .int .i64 j] W fun E w' => ∃ r c, E = .returned (.slice r j c) ∧ Tr1 w w' qa.qb qb.qb qc.qb LA LB LC r T) := fun W h => by
        refine (h.allA tA ts td hTk h64 j (by omega)).mono ?_
        rintro E w' ⟨r, c, rfl, _, h'⟩
        exact ⟨r, c, by rw [hTl], h'⟩
      have CB : Hid (∀ W r, Tr1 w W qa.qb qb.qb qc.qb LA LB LC r T → Calls Try.prog 31 #[.pointer (some ⟨qb.qb, 0, none⟩), .int .i64 j] W fun E w' => ∃ r2 c, E = .returned (.slice r2 j c) ∧ KeysAt w' r2 T ∧ Tr1 w w' qa.qb qb.qb qc.qb LA LB LC r T) := fun W r h => by
        refine (h.leastB tB ts td hTk h64 j (by omega)).mono ?_
        rintro E w' ⟨r, c, rfl, k, _, h'⟩
        exact ⟨r, c, by rw [hTl], k, h'⟩
      have CC : Hid (∀ W r, Tr1 w W qa.qb qb.qb qc.qb LA LB LC r T → Calls Try.prog 31 #[.pointer (some ⟨qc.qb, 0, none⟩), .int .i64 j] W fun E w' => ∃ r2 c, E = .returned (.slice r2 j c) ∧ KeysAt w' r2 T ∧ Tr1 w w' qa.qb qb.qb qc.qb LA LB LC r T) := fun W r h => by
        refine (h.leastC tC ts td hTk h64 j (by omega)).mono ?_
        rintro E w' ⟨r, c, rfl, k, _, h'⟩
        exact ⟨r, c, by rw [hTl], k, h'⟩
      have CA : Hid (∀ W r, Tr1 w W qa.qb qb.qb qc.qb LA LB LC r T → Calls Try.prog 31 #[.pointer (some ⟨qa.qb, 0, none⟩), .int .i64 j] W fun E w' => ∃ r2 c, E = .returned (.slice r2 j c) ∧ KeysAt w' r2 T ∧ Tr1 w w' qa.qb qb.qb qc.qb LA LB LC r T) := fun W r h => by
        refine (h.leastA tA ts td hTk h64 j (by omega)).mono ?_
        rintro E w' ⟨r, c, rfl, k, _, h'⟩
        exact ⟨r, c, by rw [hTl], k, h'⟩
      have CK : Hid (∀ W r r2 c c2, Tr1 w W qa.qb qb.qb qc.qb LA LB LC r T → KeysAt W r2 T → Calls Try.prog 30 #[.slice r j c, .slice r2 j c2] W fun E w' => E = .returned (.bool true) ∧ Tr1 w w' qa.qb qb.qb qc.qb LA LB LC r T) := fun W r r2 c c2 h k2 => by
        have k1 : KeysAt W r T := by obtain ⟨_, _, _, _, _, k, _⟩ := h; exact k
        have := keys_any W r r2 T T c c2 k1 k2 hTk hTk
        rw [hTl] at this
        refine this.mono ?_
        rintro E w' ⟨rfl, g⟩
        exact ⟨by simp, h.kept (g.kept _)⟩
      have hnj : (n : Int) ≤ (j : Int) := by omega
      have hnc : n ≤ cap := by omega
      have hjj : ((j : Int) != (j : Int)) = false := by simp
      clear hij
      go_wp2_with fail
      refine PA.out.mono ?_
      rintro E w4 ⟨rfl, h4⟩
      have H4 := Lib.hid h4
      clear h4
      go_wp2_with fail
      refine (PB.out _ H4.out).mono ?_
      rintro E w5 ⟨rfl, h5⟩
      have H5 := Lib.hid h5
      clear h5
      go_wp2_with fail
      case' inr => obtain ⟨x, rfl⟩ := SOME.out h
      case' inr => refine (PC.out _ x rfl H5.out).mono ?_
      case' inl => refine (P0.out h _ H5.out).mono ?_
      all_goals
        rintro E w6 ⟨rfl, h6⟩
        have H6 := Lib.hid h6
        clear h6
        go_wp2_with fail
        refine (PD.out _ H6.out).mono ?_
        rintro E w7 ⟨rfl, h7⟩
        have H7 := Lib.hid h7
        clear h7
        go_wp2_with fail
        refine (CL1.out _ H7.out).mono ?_
        rintro E w7' ⟨rfl, rfl⟩
        go_wp2_with fail
        refine (CL2.out _ H7.out).mono ?_
        rintro E w8 ⟨r, c, rfl, h8⟩
        have H8 := Lib.hid h8
        clear h8
        go_wp2_with fail
        refine (CB.out _ r H8.out).mono ?_
        rintro E w9 ⟨r2, c2, rfl, k9, h9⟩
        have H9 : Hid (KeysAt w9 r2 T ∧ Tr1 w w9 qa.qb qb.qb qc.qb LA LB LC r T) := ⟨k9, h9⟩
        clear k9 h9
        go_wp2_with fail
        refine (CK.out _ r r2 c c2 H9.out.2 H9.out.1).mono ?_
        rintro E w10 ⟨rfl, h10⟩
        have H10 := Lib.hid h10
        clear h10
        go_wp2_with fail
        refine (CC.out _ r H10.out).mono ?_
        rintro E w11 ⟨r3, c3, rfl, k11, h11⟩
        have H11 : Hid (KeysAt w11 r3 T ∧ Tr1 w w11 qa.qb qb.qb qc.qb LA LB LC r T) := ⟨k11, h11⟩
        clear k11 h11
        go_wp2_with fail
        refine (CK.out _ r r3 c c3 H11.out.2 H11.out.1).mono ?_
        rintro E w12 ⟨rfl, h12⟩
        have H12 := Lib.hid h12
        clear h12 H11 H10 H9 H8 H7 H6 H5 H4
        by_cases hm : ∃ m ∈ T, m.1 = id
        · obtain ⟨⟨m1, m2⟩, hm, rfl⟩ := hm
          simp only [] at *
          have hmA : (m1, m2) ∈ LA := tA.mem_iff.1 hm
          obtain ⟨ts', td', tp', tl'⟩ := dropped ts td tA hmA
          have DT : Hid (Calls Try.prog 40 #[.pointer (some ⟨qa.qb, 0, none⟩), .int .i64 m1] w12 fun E w' => E = .returned (.tuple #[.agg #[.int .i64 m2, .int .i64 m1], .int .i64 0]) ∧ Tr1 w w' qa.qb qb.qb qc.qb (LA.erase (m1, m2)) LB LC r T) := H12.out.dropThere (m1, m2) hmA
          obtain ⟨p, hp⟩ : ∃ p : Ent → Bool, (fun y : Ent => y.1 != m1) = p := ⟨_, rfl⟩
          have HP := Lib.hid hp
          simp only [hp] at ts' td' tp' tl'
          obtain ⟨k, hk⟩ : ∃ k, (T.filter p).length = k := ⟨_, rfl⟩
          have HK := Lib.hid hk
          have CA2 : Hid (∀ W, Tr1 w W qa.qb qb.qb qc.qb (LA.erase (m1, m2)) LB LC r T → Calls Try.prog 31 #[.pointer (some ⟨qa.qb, 0, none⟩), .int .i64 j] W fun E w' => ∃ r2 c, E = .returned (.slice r2 k c) ∧ KeysAt w' r2 (T.filter p) ∧ Kept (fun _ => False) W w' ∧ Tr1 w w' qa.qb qb.qb qc.qb (LA.erase (m1, m2)) LB LC r T) := fun W h => by
            refine (h.leastA tp' ts' td' (by omega) (fun x hx => h64 x (List.mem_filter.1 hx).1) j (by omega)).mono ?_
            rintro E w' ⟨r, c, rfl, k1, k2, h'⟩
            exact ⟨r, c, by rw [hk], k1, k2, h'⟩
          have hkj : k + 1 = j := by omega
          have HTL := Lib.hid hTl
          have H64 := Lib.hid h64
          have hkk : ((k : Int) == (j : Int) - 1) = true := by simp; omega
          have hk40 : k ≤ 40 := by omega
          clear hp hk ts' td' tp' tl' hmA hm CA CK CC CB CL1 CL2 PA PB PC PD P0 PR KR S0 HX hTk hLA tA tB tC tl td ts hTl
          go_wp2_with fail
          refine DT.out.mono ?_
          rintro E w13 ⟨rfl, h13⟩
          have H13 := Lib.hid h13
          clear h13 DT H12
          go_wp2_with fail
          obtain ⟨W14, hW14⟩ : ∃ W14, w13.alloc (.cells #[.int .i64 m2, .int .i64 m1] 37) = W14 := ⟨_, rfl⟩
          have F14 : Hid (∀ W, Kept (fun _ => False) W14 W → W.cell? ⟨w13.heap.size, 1, none⟩ = some (.int .i64 m1)) := fun W g => (boxed hW14 g (fun x => x)).2
          have H14 : Hid (Tr1 w W14 qa.qb qb.qb qc.qb (LA.erase (m1, m2)) LB LC r T) := by rw [← hW14]; exact H13.out.kept (((Grew.refl w13).alloc _).kept _)
          rw [hW14]
          clear hW14 H13
          refine (CA2.out _ H14.out).mono ?_
          rintro E w15 ⟨r4, c4, rfl, k15, g15, h15⟩
          have H15 : Hid (KeysAt w15 r4 (T.filter p) ∧ Kept (fun _ => False) W14 w15 ∧ Tr1 w w15 qa.qb qb.qb qc.qb (LA.erase (m1, m2)) LB LC r T) := ⟨k15, g15, h15⟩
          clear k15 g15 h15 H14 CA2
          go_wp2_with fail
          go_loopg [17, 18] j (fun gk s v wr => ∃ (i nn : Nat) (ra' : Option Addr) (rc' : Nat), s = .slice ra' nn rc' ∧ v = .int .i64 i ∧ i ≤ j ∧ nn ≤ i ∧ j - i ≤ gk ∧ Hid (RowF w15 T p (.slice ra' nn rc') i nn wr))
          case atStart => exact ⟨0, 0, none, 0, rfl, rfl, Nat.zero_le _, Nat.le_refl _, Nat.le_refl _, rfl, ⟨rfl, .inl ⟨rfl, rfl⟩⟩, Kept.refl _ _⟩
          case round =>
            rename World => W16
            obtain ⟨i2, nn, ra', rc', rfl, rfl, hi2, hnn, hgk2, HR2⟩ := hrel
            by_cases hlt2 : i2 < j
            · have hi3 : decide ((i2 : Int) < (j : Int)) = true := decide_eq_true (by omega)
              have hiz : (i2 : Int) < (j : Int) := by omega
              have q4 : IntKind.i64.wrap ((i2 : Int) + 1) = (i2 : Int) + 1 := by rw [IntKind.wrap_i64]; omega
              have hiT : i2 < T.length := by rw [HTL.out]; exact hlt2
              have kT : KeysAt W16 r T := by
                obtain ⟨_, _, _, _, _, kk, _⟩ := H15.out.2.2
                exact kk.kept HR2.out.2.2 (fun _ _ x => x)
              rcases kT with h | ⟨g, o, rfl, hg, hc⟩
              · rw [HTL.out] at h; omega
              obtain ⟨⟨c1', c2'⟩, _⟩ := hc i2 hiT
              have HT2 := Lib.hid hiT
              have hz3 : w15.heap.size ≤ W16.heap.size := HR2.out.2.2.size
              by_cases hpx : (T.getD i2 (0, 0)).1 = m1
              · have t5 : ((T.getD i2 (0, 0)).1 != m1) = false := by simpa using hpx
                have HN2 : Hid (RowF w15 T p (.slice ra' nn rc') (i2 + 1) nn W16) := HR2.out.skip hiT (by rw [← HP.out]; exact t5)
                clear hc hpx hiT
                generalize T.getD i2 (0, 0) = x at *
                obtain ⟨x1, x2⟩ := x
                simp only [] at *
                go_wp2
                go_roundg (j - (i2 + 1))
                case measure => omega
                case rel => exact ⟨i2 + 1, nn, ra', rc', rfl, by go_num, by omega, by omega, Nat.le_refl _, (show Hid _ from HN2.out)⟩
              · have t5 : ((T.getD i2 (0, 0)).1 != m1) = true := by simpa using hpx
                have HPX : Hid (p (T.getD i2 (0, 0)) = true) := by rw [← HP.out]; exact t5
                obtain ⟨x, hx⟩ : ∃ x, T.getD i2 (0, 0) = x := ⟨_, rfl⟩
                have HX2 := Lib.hid hx
                simp only [hx] at c1' c2' t5
                obtain ⟨x1, x2⟩ := x
                simp only [] at c1' c2' t5
                clear hc hpx hiT hx
                go_wp2_with (at_builtin; refine wpList_append_own _ rfl _ _ 46 rfl w15.heap.size 37 i0 (.agg #[.int .i64 0, .int .i64 0]) 2 16 Try.underlying46 HI.out.1 HI.out.2.1 HI.out.2.2.1 HI.out.2.2.2 rfl (by decide) _ _ _ rfl (own_kept HR2.out.2.1 (fun g e => Below.heap_alloc _ _ _ (own_lt HR2.out.2.1 g e))) ⟨W16.heap.size, 0, none⟩ 1 1 [.int .i64 x2, .int .i64 x1] rfl rfl (fun j u hj => two_cells _ _ _ hj) (by simp [Value.oneCell']) (by unfold maxLen; omega) (by omega) (by simp; omega) ?_; intro v2 w4 ho2 hg2 _; obtain ⟨a2, cap2, rfl⟩ := own_form ho2; have HN2 := Lib.hid (HR2.out.next HT2.out HPX.out _ (by rw [HX2.out]; exact ho2) hg2); clear ho2 hg2)
                go_roundg (j - (i2 + 1))
                case measure => omega
                case rel => exact ⟨i2 + 1, nn + 1, a2, cap2, rfl, by go_num, by omega, by omega, Nat.le_refl _, (show Hid _ from HN2.out)⟩
            · obtain rfl : i2 = j := by omega
              have hi3 : decide ((i2 : Int) < (i2 : Int)) = false := decide_eq_false (by omega)
              obtain ⟨n1, n2, n3⟩ := HR2.out
              rw [List.take_of_length_le (by rw [HTL.out]; exact Nat.le_refl _)] at n1 n2
              obtain rfl : nn = k := n1.trans HK.out
              obtain ⟨y1, y2, y3, y4⟩ := own_keys n2 (fun x hx => H64.out x (List.mem_filter.1 hx).1)
              have cm := F14.out W16 (H15.out.2.1.trans n3)
              have CK2 : Hid (Calls Try.prog 30 #[.slice r4 nn c4, .slice ra' nn rc'] W16 fun E w' => E = .returned (.bool true) ∧ Tr1 w w' qa.qb qb.qb qc.qb (LA.erase (m1, m2)) LB LC r T) := by
                have := keys_any W16 r4 ra' (T.filter p) (T.filter p) c4 rc' (H15.out.1.kept n3 (fun _ _ x => x)) y1 (by omega) (by omega)
                rw [HK.out] at this
                refine this.mono ?_
                rintro E w' ⟨rfl, g⟩
                exact ⟨by simp, H15.out.2.2.kept (n3.trans (g.kept _))⟩
              clear n1 n2 n3 y1 y2 y3 y4 HR2 H15 F14
              go_wp2_with fail
              refine CK2.out.mono ?_
              rintro E w17 ⟨rfl, h17⟩
              have H17 := Lib.hid h17
              clear h17 CK2
              go_wp2_with (go_at_call 25; (with_reducible refine (CW _).out.mono ?_); rintro e W6 ⟨rfl, b6⟩)
              go_ret
              obtain ⟨_, _, _, _, _, _, _, s15, b15⟩ := H17.out
              exact ⟨rfl, b15.trans (b6.mono s15)⟩
        · have DN : Hid (Calls Try.prog 40 #[.pointer (some ⟨qa.qb, 0, none⟩), .int .i64 id] w12 fun E w' => E = .returned (.tuple #[.agg #[.int .i64 0, .int .i64 0], .int .i64 14]) ∧ Tr1 w w' qa.qb qb.qb qc.qb LA LB LC r T) := H12.out.dropNone id hid (fun x hx e => hm ⟨x, tA.mem_iff.2 hx, e⟩)
          go_wp2_with fail
          refine DN.out.mono ?_
          rintro E w13 ⟨rfl, h13⟩
          have H13 := Lib.hid h13
          clear h13
          go_wp2_with fail
          refine (CA.out _ r (H13.out.kept (((Grew.refl w13).alloc _).kept _))).mono ?_
          rintro E w14 ⟨r4, c4, rfl, k14, h14⟩
          have H14 : Hid (KeysAt w14 r4 T ∧ Tr1 w w14 qa.qb qb.qb qc.qb LA LB LC r T) := ⟨k14, h14⟩
          clear k14 h14
          go_wp2_with fail
          refine (CK.out _ r r4 c c4 H14.out.2 H14.out.1).mono ?_
          rintro E w15 ⟨rfl, h15⟩
          have H15 := Lib.hid h15
          clear h15
          go_wp2_with (go_at_call 25; (with_reducible refine (CW _).out.mono ?_); rintro e W6 ⟨rfl, b6⟩)
          go_ret
          obtain ⟨_, _, _, _, _, _, _, s15, b15⟩ := H15.out
          exact ⟨rfl, b15.trans (b6.mono s15)⟩
end Go.Proofs.Ytnpaeomacjlhpaa
