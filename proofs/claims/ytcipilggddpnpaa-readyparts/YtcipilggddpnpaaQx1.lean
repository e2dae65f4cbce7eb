/-
  Several texts as one.
-/
import Derived.Test.YtcipilggddpnpaaKq
import Derived.Sort.QuietIn
import Derived.RangeFuncCalls
import Derived.Test.YtcipilggddpnpaaProg
import Derived.WalkKit
import Derived.OrdersIn
import Derived.OrdersHeld
import Derived.Shelf.SlSortCmp.QuietGrown
import Derived.Test.YtcipilggddpnpaaHpB
import Derived.Test.YtcipilggddpnpaaRng
import Derived.WalkSpells
import Derived.WalkLawsBesides
import Derived.Lib.Hide
import Derived.BigQuiet
/-
  ready.Queue: what it is in memory; New, fromFirst, fromLast, Len, Get, First, Last.
-/
namespace Go.Proofs.Ytcipilggddpnpaa
open Go.RowKit Go.Sort Go.Shelf Go.Maps
set_option linter.unusedVariables false
set_option linter.unusedSimpArgs false

/-- Where a queue lies: its own block, its two heaps', the order that is turned. -/
structure QB where
  qb : Nat
  hu : Nat
  mu : Nat
  ru : Option Nat
  hd : Nat
  md : Nat
  rd : Option Nat
  fb : Nat
/-- The blocks that its calls may turn. -/
def QB.turns (q : QB) (k : Nat) : Prop := Mine q.hu q.mu q.ru k ∨ Mine q.hd q.md q.rd k
/-- All its blocks. -/
def QB.own (q : QB) (k : Nat) : Prop := q.turns k ∨ k = q.qb ∨ k = q.fb

/-- A queue of the numbers L with their times, in blocks from B on. -/
structure Qs (B : Nat) (W : World) (q : QB) (L : List Ent) : Prop where
  obj : W.heap[q.qb]? = some (.cells #[.pointer (some ⟨q.hu, 0, none⟩), .pointer (some ⟨q.hd, 0, none⟩)] 88 (0, 0))
  up : K.Hs K.upV K.ltK B W q.hu q.mu q.ru (L.map kN)
  down : K.Hs (K.downV q.fb) K.ltD B W q.hd q.md q.rd (L.map kN)
  box : K.FBox W q.fb
  apart : ∀ k, Mine q.hu q.mu q.ru k → Mine q.hd q.md q.rd k → False
  base : B ≤ q.qb ∧ B ≤ q.fb

theorem Qs.c0 {B : Nat} {W : World} {q : QB} {L : List Ent} (h : Qs B W q L) : W.cell? ⟨q.qb, 0, none⟩ = some (.pointer (some ⟨q.hu, 0, none⟩)) := by simp [World.cell?, h.obj]
theorem Qs.c1 {B : Nat} {W : World} {q : QB} {L : List Ent} (h : Qs B W q L) : W.cell? ⟨q.qb, 1, none⟩ = some (.pointer (some ⟨q.hd, 0, none⟩)) := by simp [World.cell?, h.obj]
theorem Qs.lt {B : Nat} {W : World} {q : QB} {L : List Ent} (h : Qs B W q L) : ∀ k, q.own k → k < W.heap.size := by
  rintro k ((hm | hm) | rfl | rfl)
  · exact h.up.inside k hm
  · exact h.down.inside k hm
  · exact (Array.getElem?_eq_some_iff.1 h.obj).1
  · exact h.box.lt
theorem Qs.from {B : Nat} {W : World} {q : QB} {L : List Ent} (h : Qs B W q L) : ∀ k, q.own k → B ≤ k := by
  rintro k ((hm | hm) | rfl | rfl)
  · exact h.up.base k hm
  · exact h.down.base k hm
  · exact h.base.1
  · exact h.base.2
theorem Qs.kept {B : Nat} {W W' : World} {q : QB} {L : List Ent} {S : Nat → Prop} (h : Qs B W q L) (k : Kept S W W') (hs : ∀ b, q.own b → ¬ S b) : Qs B W' q L := by
  have hS : ∀ fb, S fb → fb ≠ q.fb := fun fb s e => hs q.fb (.inr (.inr rfl)) (e ▸ s)
  have box : K.FBox W' q.fb := (k.block q.fb h.box.lt (hs q.fb (.inr (.inr rfl)))).trans h.box
  refine ⟨(k.block q.qb (Array.getElem?_eq_some_iff.1 h.obj).1 (hs q.qb (.inr (.inl rfl)))).trans h.obj, ?_, ?_, box, h.apart, h.base⟩
  · obtain ⟨⟨R, h1, h2, h3⟩, h4, h5⟩ := h.up
    exact ⟨⟨R, h1, h2, h3.kept k (fun b hm => hs b (.inl (.inl hm)))⟩, h4, .inl ⟨rfl, rfl⟩⟩
  · obtain ⟨⟨R, h1, h2, h3⟩, h4, h5⟩ := h.down
    exact ⟨⟨R, h1, h2, h3.kept k (fun b hm => hs b (.inl (.inr hm)))⟩, h4, .inr ⟨q.fb, rfl, rfl, box⟩⟩
theorem Qs.grew {B : Nat} {W W' : World} {q : QB} {L : List Ent} (h : Qs B W q L) (g : Grew W W') : Qs B W' q L := h.kept (g.kept (fun _ => False)) (fun _ _ x => x)
theorem Qs.perm {B : Nat} {W : World} {q : QB} {L L' : List Ent} (h : Qs B W q L) (hp : L.Perm L') : Qs B W q L' := ⟨h.obj, h.up.perm (hp.map _), h.down.perm (hp.map _), h.box, h.apart, h.base⟩

/-- What a call leaves. -/
structure LeftQ (B : Nat) (W W' : World) (q q' : QB) (L : List Ent) : Prop where
  queue : Qs B W' q' L
  here : q'.qb = q.qb ∧ q'.fb = q.fb
  kept : Kept q.turns W W'
  moved : ∀ k, q'.turns k → q.turns k ∨ W.heap.size ≤ k
theorem LeftQ.below {B : Nat} {W W' : World} {q q' : QB} {L L' : List Ent} (h : LeftQ B W W' q q' L') (h0 : Qs B W q L) (hB : B ≤ W.heap.size) : Below B W W' := h.kept.below hB (fun k hk => h0.from k (.inl hk))

set_option maxHeartbeats 400000 in
theorem fromFirst_any {B : Nat} {W : World} {q : QB} {L : List Ent} (h : Qs B W q L) : Calls Try.prog 50 #[.pointer (some ⟨q.qb, 0, none⟩)] W fun e w' => e = .returned (.pointer (some ⟨q.hu, 0, none⟩)) ∧ W = w' := by
  have c0 := h.c0
  clear h
  go_enter Try.func50, Try.ntmps50
  go_wp2
  go_ret
  exact ⟨rfl, rfl⟩
set_option maxHeartbeats 400000 in
theorem fromLast_any {B : Nat} {W : World} {q : QB} {L : List Ent} (h : Qs B W q L) : Calls Try.prog 56 #[.pointer (some ⟨q.qb, 0, none⟩)] W fun e w' => e = .returned (.pointer (some ⟨q.hd, 0, none⟩)) ∧ W = w' := by
  have c0 := h.c1
  clear h
  go_enter Try.func56, Try.ntmps56
  go_wp2
  go_ret
  exact ⟨rfl, rfl⟩
set_option maxHeartbeats 400000 in
theorem qlen_any {B : Nat} {W : World} {q : QB} {L : List Ent} (h : Qs B W q L) : Calls Try.prog 27 #[.pointer (some ⟨q.qb, 0, none⟩)] W fun e w' => e = .returned (.int .i64 L.length) ∧ W = w' := by
  have C1 := Lib.hid (fromFirst_any h)
  have C2 : Hid (Calls Try.prog 54 #[.pointer (some ⟨q.hu, 0, none⟩)] W fun e w' => e = .returned (.int .i64 L.length) ∧ W = w') := by
    have := K.hs_len h.up
    rwa [List.length_map] at this
  clear h
  go_enter Try.func27, Try.ntmps27
  go_wp2_with (first | (go_at_call 50; (with_reducible refine C1.out.mono ?_); rintro e w1 ⟨rfl, rfl⟩) | (go_at_call 54; (with_reducible refine C2.out.mono ?_); rintro e w1 ⟨rfl, rfl⟩))
  go_ret
  exact ⟨rfl, rfl⟩

/-- A result's key in a block of its own, behind a call that laid blocks alone. -/
theorem res_key {w W W' : World} (hW : w.alloc (.cells #[.int .i64 0, .int .i64 0] 37) = W) (g : Grew W W') : W'.cell? ⟨w.heap.size, 0, none⟩ = some (.int .i64 0) ∧ W'.cell? ⟨w.heap.size, 1, none⟩ = some (.int .i64 0) ∧ W'.frozen? ⟨w.heap.size, 0, none⟩ = false ∧ W'.frozen? ⟨w.heap.size, 1, none⟩ = false := by
  have hlt : w.heap.size < W.heap.size := by rw [← hW]; simp
  refine ⟨?_, ?_, ?_, ?_⟩
  · rw [g.cell (by exact hlt), ← hW]; simp [go_sem]
  · rw [g.cell (by exact hlt), ← hW]; simp [go_sem]
  · rw [g.frozen (by exact hlt), ← hW]; simp [go_sem]
  · rw [g.frozen (by exact hlt), ← hW]; simp [go_sem]

set_option maxHeartbeats 1000000 in
set_option maxRecDepth 20000 in
/-- Get, whatever the heap answers. -/
theorem qget_core {B : Nat} {w : World} {q : QB} {L : List Ent} (h : Qs B w q L) (id a b e : Int)
    (hc : ∀ W, Grew w W → Calls Try.prog 57 #[.pointer (some ⟨q.hu, 0, none⟩), .int .i64 id] W fun E w' => E = .returned (.tuple #[.agg #[.int .i64 a, .int .i64 b], .int .i64 e]) ∧ Grew W w') :
    Calls Try.prog 30 #[.pointer (some ⟨q.qb, 0, none⟩), .int .i64 id] w fun E w' => E = .returned (.tuple #[.agg #[.int .i64 a, .int .i64 b], .int .i64 e]) ∧ Grew w w' := by
  obtain ⟨W, hW⟩ : ∃ W, w.alloc (.cells #[.int .i64 0, .int .i64 0] 37) = W := ⟨_, rfl⟩
  have hG : Grew w W := by rw [← hW]; exact (Grew.refl w).alloc _
  have C1 := Lib.hid (fromFirst_any (h.grew hG))
  have C2 := Lib.hid (hc W hG)
  have RK : Hid (∀ W', Grew W W' → W'.cell? ⟨w.heap.size, 0, none⟩ = some (.int .i64 0) ∧ W'.cell? ⟨w.heap.size, 1, none⟩ = some (.int .i64 0) ∧ W'.frozen? ⟨w.heap.size, 0, none⟩ = false ∧ W'.frozen? ⟨w.heap.size, 1, none⟩ = false) := fun W' g => res_key hW g
  have HG := Lib.hid hG
  clear h hG hc
  go_enter Try.func30, Try.ntmps30
  go_wp2_with (first | (go_at_call 50; (try rw [hW]); (with_reducible refine C1.out.mono ?_); rintro E w1 ⟨rfl, hw1⟩; subst hw1) | (go_at_call 57; (with_reducible refine C2.out.mono ?_); rintro E w2 ⟨rfl, g2⟩; obtain ⟨x1, x2, x3, x4⟩ := RK.out w2 g2; have G2 := Lib.hid g2; clear g2))
  refine bodyPost_ret (v := .tuple #[.agg #[.int .i64 a, .int .i64 b], .int .i64 e]) (by simp [results, Try.f30, go_sem, x1, x2]) rfl ⟨rfl, ?_⟩
  exact ((HG.out.trans G2.out).setCell (Nat.le_refl _) _).setCell (Nat.le_refl _) _

theorem qget_there {B : Nat} {w : World} {q : QB} {L : List Ent} (h : Qs B w q L) (m : Ent) (hm : m ∈ L) :
    Calls Try.prog 30 #[.pointer (some ⟨q.qb, 0, none⟩), .int .i64 m.1] w fun E w' => E = .returned (.tuple #[.agg #[.int .i64 m.2, .int .i64 m.1], .int .i64 0]) ∧ Grew w w' :=
  qget_core h m.1 m.2 m.1 0 (fun W g => K.hs_get (h.grew g).up (kN m) (List.mem_map_of_mem hm))
theorem qget_none {B : Nat} {w : World} {q : QB} {L : List Ent} (h : Qs B w q L) (id : Int) (hid : Is64 id) (hn : ∀ x ∈ L, x.1 ≠ id) :
    Calls Try.prog 30 #[.pointer (some ⟨q.qb, 0, none⟩), .int .i64 id] w fun E w' => E = .returned (.tuple #[.agg #[.int .i64 0, .int .i64 0], .int .i64 14]) ∧ Grew w w' :=
  qget_core h id 0 0 14 (fun W g => K.hs_get_none (h.grew g).up id hid (fun x hx => by
    obtain ⟨y, hy, rfl⟩ := List.mem_map.1 hx
    exact hn y hy))
end Go.Proofs.Ytcipilggddpnpaa

/-
  Drawn regions in rounds and outside, with a last operation; ways to leave; counters.
-/
/-! A drawn region that only reads, walked inside a round of a range over a function: one walk of its text's order serves every order there too, as long as nothing in it is deferred. -/
namespace Go.Proofs.Ytcipilggddpnpaa
open Go
set_option linter.unusedVariables false

section
variable {F : Fence} {n : Nat} {P : Program} {ops : Array Oper} {md : Region.Mode} {C : World → Prop}

/-- Nothing is deferred. -/
def NoDefer (ops : Array Oper) : Prop := ∀ (i : Nat) (o : Oper), ops[i]? = some o → ∀ c, o.op ≠ .defer c
def noDeferB (l : List Oper) : Bool := l.all fun o => match o.op with | .defer _ => false | _ => true
theorem noDefer_of {l : List Oper} (h : noDeferB l = true) : NoDefer l.toArray := by
  intro i o ho c e
  have hm : o ∈ l := by
    rw [List.getElem?_toArray] at ho
    exact List.mem_of_getElem? ho
  have := (List.all_eq_true.1 h) o hm
  rw [e] at this
  cases this

theorem oper_of_quiet {o : Oper} {a : Act} {K : Act → Prop} {K' : Act → World → Prop} {Q' : Exit → Act → World → Prop} {w : World} (l : Nat) (hnd : ∀ c, o.op ≠ .defer c) (hw : C w) (h : ∀ a w', C w' → K a → K' a w')
    (ha : o.askedIn F P a C) (hh : o.quietIn F n P a C K) : o.wpIn (F.inRound l) n P a w K' Q' := by
  obtain ⟨v, h1, h2⟩ := hh
  have h3 := h1 w hw
  unfold Oper.quietAtIn at h3
  unfold Oper.wpIn
  refine ⟨ha w hw, ?_⟩
  rw [Oper.semAt_eq _ _ _ hnd]
  generalize (execOp a.eval o).run P w = r at *
  cases r with
  | ok x w' =>
    cases x <;> simp only [Oper.quietUponIn] at h3 <;> simp only [Oper.uponIn]
    case value u =>
      obtain ⟨e1, e2⟩ := h3
      rw [e1, e2]
      exact h _ _ hw h2
    case skip =>
      obtain ⟨e1, e2⟩ := h3
      rw [e1, ← e2]
      exact h _ _ hw h2
    case enter f args =>
      obtain ⟨e1, hd, hc⟩ := h3
      rw [e1]
      exact ⟨hd, (CallsIn.inRound l hc).mono fun e w'' ⟨he, hw''⟩ => by subst he; exact h _ _ hw'' h2⟩
  | halt x w' => simp only [Oper.quietUponIn] at h3

theorem op_of_quiet {i : Nat} {a : Act} {K : Act → Prop} {K' : Act → World → Prop} {Q' : Exit → Act → World → Prop} {w : World} (l : Nat) (hnd : NoDefer ops) (hC : C w) (h : ∀ a w', C w' → K a → K' a w')
    (hh : qOpIn F n P ops C i K a) : wpOpIn (F.inRound l) n P ops Q' i K' a w := by
  unfold qOpIn at hh
  unfold wpOpIn
  split
  · rename_i ho; simp only [ho] at hh; exact h _ _ hC hh
  · rename_i o ho
    simp only [ho] at hh
    obtain ⟨ha, hh⟩ := hh
    split
    · rename_i hw; simp only [hw, if_true] at hh; exact oper_of_quiet l (hnd i o ho) hC h ha hh
    · rename_i hw; simp only [hw] at hh; exact ⟨ha w hC, h _ _ hC hh⟩

theorem any_of_quiet {Q : Act → Prop} {Q' : Exit → Act → World → Prop} (l : Nat) (hnd : NoDefer ops) (hQ : ∀ a w, C w → Q a → Q' .normal a w) : ∀ (fuel : Nat) (listed : Array Bool) (a : Act) (w : World), C w →
    wpAnyQIn F n P md ops C Q fuel listed a → wpAnyIn (F.inRound l) n P md ops Q' fuel listed a w
  | 0, _, _, _, hw, h => ⟨h.1, hQ _ _ hw h.2⟩
  | fuel + 1, _, _, _, hw, h => ⟨fun h0 => hQ _ _ hw (h.1 h0), fun i hi => op_of_quiet l hnd hw (fun a' w' hw' => any_of_quiet l hnd hQ fuel _ a' w' hw') (h.2 i hi)⟩

theorem region_quiet_round {id : Nat} {Q : Exit → Act → World → Prop} {a : Act} {w : World} (l : Nat) (hnd : NoDefer ops) (hm : P.follows .mixedOrders = true) (hB : Region.lexB .any ops = true) (hC : C { w with drawn := w.drawn + 1 })
    (h : wpQuietIn F n P ops C (fun a' => ∀ w', C w' → Q .normal a' w') ops.toList a) : (Code.region id ops true).wpIn (F.inRound l) n P Q a w := by
  simp only [Region.lexB, Bool.and_eq_true] at hB
  refine wpIn_region_any hm (any_of_quiet (Q := fun a' => ∀ w', C w' → Q .normal a' w') l hnd (fun _ w' hw' h => h w' hw') _ _ _ _ hC ?_)
  have := wpAnyQIn_lex (F := F) (n := n) (C := C) (md := .any) hB.1 ops.toList 0 (Array.replicate ops.size false) a (by simp) (by simpa using hB.2) h
  simpa using this

theorem region_quiet_round_lit {id : Nat} {Q : Exit → Act → World → Prop} {a : Act} {w : World} {os : List Oper} (l : Nat) (hnd : noDeferB os = true) (hm : P.follows .mixedOrders = true) (hB : Region.lexB .any os.toArray = true)
    (h : wpQuietIn F n P os.toArray (fun w' => ∃ n, w' = w.drewN n) (fun a' => ∀ w', (∃ n, w' = w.drewN n) → Q .normal a' w') os a) : (Code.region id os.toArray true).wpIn (F.inRound l) n P Q a w :=
  region_quiet_round (C := fun w' => ∃ n, w' = w.drewN n) l (noDefer_of hnd) hm hB ⟨1, rfl⟩ (by simpa using h)
end
end Go.Proofs.Ytcipilggddpnpaa

/-! A region that draws its order, inside a fence: each of its operations but the last leaves a known value (or is not wanted) in every world that meets S; the last one waits for all others. -/
namespace Go.Proofs.Ytcipilggddpnpaa.O2
open Go
set_option linter.unusedVariables false
section
variable {F : Fence} {n : Nat} {P : Program} {ops : Array Oper} {Q : Exit → Act → World → Prop} {S : World → Prop}

/-- What an operation sees: the places ahead of the region's own as they were, and the values of those that it waits for. -/
def Sees (a0 : Act) (base : Nat) (vals : List Value) (o : Oper) (a : Act) : Prop :=
  (∀ s, s < base → a.tmps[s]? = a0.tmps[s]?) ∧ ∀ e ∈ o.after, Region.binds .any e = true → a.tmps[base + e.on]? = vals[e.on]?

/-- One operation leaves its value. -/
def StepOk (F : Fence) (n : Nat) (P : Program) (ops : Array Oper) (Q : Exit → Act → World → Prop) (S : World → Prop) (a0 : Act) (base : Nat) (vals : List Value) (i : Nat) (o : Oper) : Prop :=
  (o.dst = some (base + i) ∧ o.after.all (fun e => decide (e.on < i)) = true) ∧
  ∀ a w v, vals[i]? = some v → S w → Sees a0 base vals o a → if Region.wanted o (yielded ops a.tmps) = true then ∀ K' : Act → World → Prop, (∀ w', S w' → K' (a.put o.dst v) w') → Oper.wpIn F n P o a w K' Q else v = undef

def AllSteps (F : Fence) (n : Nat) (P : Program) (ops : Array Oper) (Q : Exit → Act → World → Prop) (S : World → Prop) (a0 : Act) (base : Nat) (vals : List Value) : Nat → List Oper → Prop
  | _, [] => True
  | k, o :: l => StepOk F n P ops Q S a0 base vals k o ∧ AllSteps F n P ops Q S a0 base vals (k + 1) l

theorem AllSteps.at_ {a0 : Act} {base : Nat} {vals : List Value} : ∀ (l : List Oper) (k i : Nat) (o : Oper), AllSteps F n P ops Q S a0 base vals k l → l[i]? = some o → StepOk F n P ops Q S a0 base vals (k + i) o
  | [], _, _, _, _, h => by simp at h
  | x :: l, k, 0, o, hs, h => by
    simp at h
    subst h
    exact hs.1
  | x :: l, k, i + 1, o, hs, h => by
    have := AllSteps.at_ l (k + 1) i o hs.2 (by simpa using h)
    rw [show k + (i + 1) = k + 1 + i by omega]
    exact this

/-- The frame, with the region's values in their places. -/
def patch (t : Array Value) (base : Nat) (vals : List Value) : Array Value := (t.toList.take base ++ (vals ++ t.toList.drop (base + vals.length))).toArray
theorem patch_at (t : Array Value) (base : Nat) (vals : List Value) (hb : base + vals.length ≤ t.size) (s : Nat) :
    (patch t base vals)[s]? = if base ≤ s ∧ s - base < vals.length then vals[s - base]? else t[s]? := by
  have hlen : (t.toList.take base).length = base := by rw [List.length_take, Array.length_toList]; omega
  unfold patch
  rw [List.getElem?_toArray]
  by_cases h1 : s < base
  · rw [List.getElem?_append_left (by omega), if_neg (by omega), List.getElem?_take_of_lt h1, Array.getElem?_toList]
  · rw [List.getElem?_append_right (by omega), hlen]
    by_cases h2 : s - base < vals.length
    · rw [if_pos ⟨by omega, h2⟩, List.getElem?_append_left h2]
    · rw [if_neg (by omega), List.getElem?_append_right (by omega), List.getElem?_drop, Array.getElem?_toList]
      congr 1
      omega

/-- The frame behind those that have come up. -/
def Known (a0 : Act) (base : Nat) (vals : List Value) (listed : Array Bool) (a : Act) : Prop :=
  a.defers = a0.defers ∧ ∀ s, a.tmps[s]? = if base ≤ s ∧ listed.getD (s - base) false = true then vals[s - base]? else a0.tmps[s]?

/-- The last one waits for all others. -/
def waitsB (o : Oper) (m : Nat) : Bool := (List.range m).all fun i => o.after.any fun e => Region.binds .any e && e.on == i
/-- .. or for one that does, and so on. -/
def sinkB (init : Array Oper) (o : Oper) : Bool := (List.range init.size).all fun i => (o.after.any fun e => Region.binds .any e && e.on == i) || (List.range init.size).any fun j => decide (i < j) && (match init[j]? with | some oj => oj.after.any (fun e => Region.binds .any e && e.on == i) | none => false)
theorem sink_of {init : Array Oper} {o : Oper} (h : sinkB init o = true) (i : Nat) (hi : i < init.size) : (∃ e ∈ o.after, Region.binds .any e = true ∧ e.on = i) ∨ ∃ j oj, i < j ∧ init[j]? = some oj ∧ ∃ e ∈ oj.after, Region.binds .any e = true ∧ e.on = i := by
  have h1 := List.all_eq_true.1 h i (List.mem_range.2 hi)
  simp only [Bool.or_eq_true] at h1
  rcases h1 with h1 | h1
  · obtain ⟨e, he, hb⟩ := Array.any_eq_true'.1 h1
    simp only [Bool.and_eq_true, beq_iff_eq] at hb
    exact .inl ⟨e, he, hb.1, hb.2⟩
  · obtain ⟨j, hj, hb⟩ := List.any_eq_true.1 h1
    simp only [Bool.and_eq_true, decide_eq_true_eq] at hb
    obtain ⟨hij, hb⟩ := hb
    cases hj' : init[j]? with
    | none => rw [hj'] at hb; cases hb
    | some oj =>
      rw [hj'] at hb
      obtain ⟨e, he, hb⟩ := Array.any_eq_true'.1 hb
      simp only [Bool.and_eq_true, beq_iff_eq] at hb
      exact .inr ⟨j, oj, hij, hj', e, he, hb.1, hb.2⟩
/-- What has come up has nothing left to wait for. -/
def Closed (init : Array Oper) (listed : Array Bool) : Prop := ∀ k o, init[k]? = some o → listed.getD k false = true → ∀ e ∈ o.after, Region.binds .any e = true → listed.getD e.on false = true
theorem sink_all {init : Array Oper} {o : Oper} (h : sinkB init o = true) {listed : Array Bool} (hc : Closed init listed) (hd : ∀ e ∈ o.after, Region.binds .any e = true → listed.getD e.on false = true) : ∀ (d i : Nat), init.size - i = d → i < init.size → listed.getD i false = true := by
  intro d
  induction d using Nat.strongRecOn with
  | ind d ih =>
    intro i hid hi
    rcases sink_of h i hi with ⟨e, he, hb, rfl⟩ | ⟨j, oj, hij, hj, e, he, hb, rfl⟩
    · exact hd e he hb
    · have hjl : j < init.size := (Array.getElem?_eq_some_iff.1 hj).1
      exact hc j oj hj (ih (init.size - j) (by omega) j rfl hjl) e he hb
theorem Closed.set {init : Array Oper} {listed : Array Bool} (hc : Closed init listed) {i : Nat} (hi : i ∈ Region.ready .any init listed) : Closed init (listed.setIfInBounds i true) := by
  obtain ⟨_, oi, hoi, hdep⟩ := mem_ready.1 hi
  have up : ∀ j, listed.getD j false = true → (listed.setIfInBounds i true).getD j false = true := fun j hj => by
    rw [Array.getD_eq_getD_getElem?] at hj ⊢
    rw [Array.getElem?_setIfInBounds]
    by_cases e : i = j
    · subst e
      rcases Nat.lt_or_ge i listed.size with h | h
      · rw [if_pos rfl, if_pos h]; rfl
      · rw [Array.getElem?_eq_none h] at hj; cases hj
    · rw [if_neg e]; exact hj
  intro k o ho hk e he hb
  by_cases hik : i = k
  · subst hik
    rw [hoi] at ho
    cases ho
    exact up _ (hdep e he hb)
  · refine up _ (hc k o ho ?_ e he hb)
    rw [Array.getD_eq_getD_getElem?, Array.getElem?_setIfInBounds, if_neg hik, ← Array.getD_eq_getD_getElem?] at hk
    exact hk
theorem closed_none (init : Array Oper) (m : Nat) : Closed init (Array.replicate m false) := fun k o ho hk => by
  rw [Array.getD_eq_getD_getElem?, Array.getElem?_replicate] at hk
  split at hk <;> cases hk
theorem waits_of {o : Oper} {m : Nat} (h : waitsB o m = true) (i : Nat) (hi : i < m) : ∃ e ∈ o.after, Region.binds .any e = true ∧ e.on = i := by
  have h1 := List.all_eq_true.1 h i (List.mem_range.2 hi)
  obtain ⟨e, he, hb⟩ := Array.any_eq_true'.1 h1
  simp only [Bool.and_eq_true, beq_iff_eq] at hb
  exact ⟨e, he, hb.1, hb.2⟩

theorem done_any (listed : Array Bool) (hl : listed.size = ops.size) (hall : ∀ j, j < listed.size → listed.getD j false = true) (a : Act) (w : World) (hq : Q .normal a w) : ∀ fuel, wpAnyIn F n P .any ops Q fuel listed a w := by
  have hr : Region.ready .any ops listed = [] := by
    rw [List.eq_nil_iff_forall_not_mem]
    intro j hj
    obtain ⟨h0, o, ho, _⟩ := mem_ready.1 hj
    have hlt : j < listed.size := by rw [hl]; exact (Array.getElem?_eq_some_iff.1 ho).1
    have := hall j hlt
    rw [Array.getD_eq_getD_getElem?, Array.getElem?_eq_getElem hlt] at this h0
    simp only [Option.getD_some] at this h0
    rw [this] at h0
    cases h0
  intro fuel
  cases fuel with
  | zero => exact ⟨hr, hq⟩
  | succ fuel => exact ⟨fun _ => hq, fun i hi => by rw [hr] at hi; cases hi⟩

theorem known_any {a0 : Act} {base m : Nat} {vals : List Value} {oL : Oper} (hF : ∀ f, F.fn f) (hm : ops.size = m + 1) (hoL : ops[m]? = some oL) (hw : waitsB oL m = true) (hw2 : oL.after.all (fun e => decide (e.on < m)) = true) (hg : oL.guard = none) (hv : vals.length = m) (hb : base + vals.length ≤ a0.tmps.size)
    (hs : AllSteps F n P ops Q S a0 base vals 0 (ops.toList.take m)) (hQ : ∀ w, S w → Oper.wpIn F n P oL { a0 with tmps := patch a0.tmps base vals } w (fun a' w' => Q .normal a' w') Q) :
    ∀ (fuel : Nat) (listed : Array Bool) (a : Act) (w : World), listed.size = ops.size → listed.getD m true = false → listed.toList.count false ≤ fuel → Known a0 base vals listed a → S w → wpAnyIn F n P .any ops Q fuel listed a w := by
  have at_ : ∀ (j : Nat) (o : Oper), j < m → ops[j]? = some o → StepOk F n P ops Q S a0 base vals j o := fun j o hj ho => by
    have := AllSteps.at_ (ops.toList.take m) 0 j o hs (by rw [List.getElem?_take_of_lt hj, Array.getElem?_toList]; exact ho)
    rwa [Nat.zero_add] at this
  intro fuel
  induction fuel with
  | zero =>
    intro listed a w hl hmf hc hk hS
    exfalso
    rw [Nat.le_zero, List.count_eq_zero] at hc
    apply hc
    have hlt : m < listed.size := by omega
    rw [Array.getD_eq_getD_getElem?, Array.getElem?_eq_getElem hlt] at hmf
    simp only [Option.getD_some] at hmf
    rw [← hmf]
    exact Array.mem_toList_iff.2 (Array.getElem_mem hlt)
  | succ fuel ih =>
    intro listed a w hl hmf hc hk hS
    have hml : m < listed.size := by omega
    refine ⟨fun hr => ?_, fun i hi => ?_⟩
    · exfalso
      have hall : ∀ j, j < m → listed.getD j false = true := by
        intro j
        induction j using Nat.strongRecOn with
        | ind j ihj =>
          intro hj
          cases hb' : listed.getD j false with
          | true => rfl
          | false =>
            have hjo : j < ops.size := by omega
            have hst := at_ j ops[j] hj (Array.getElem?_eq_getElem hjo)
            have hmem : j ∈ Region.ready .any ops listed := by
              refine mem_ready.2 ⟨?_, ops[j], Array.getElem?_eq_getElem hjo, fun e he _ => ?_⟩
              · rw [Array.getD_eq_getD_getElem?, Array.getElem?_eq_getElem (show j < listed.size by omega)] at hb' ⊢
                exact hb'
              · have h2 := hst.1.2
                rw [Array.all_eq_true'] at h2
                have h3 := of_decide_eq_true (h2 e he)
                exact ihj e.on (by omega) (by omega)
            rw [hr] at hmem
            cases hmem
      have hp : ∀ e ∈ oL.after, Region.binds .any e = true → listed.getD e.on false = true := fun e he _ => by
        rw [Array.all_eq_true'] at hw2
        exact hall e.on (of_decide_eq_true (hw2 e he))
      have hmem : m ∈ Region.ready .any ops listed := mem_ready.2 ⟨hmf, oL, hoL, hp⟩
      rw [hr] at hmem
      cases hmem
    · obtain ⟨h0, o, ho, hdep⟩ := mem_ready.1 hi
      have hio : i < ops.size := (Array.getElem?_eq_some_iff.1 ho).1
      have hil : i < listed.size := by omega
      have hli : listed[i] = false := by
        rw [Array.getD_eq_getD_getElem?, Array.getElem?_eq_getElem hil] at h0
        exact h0
      by_cases him : i = m
      · subst him
        rw [hoL] at ho
        cases ho
        have hall : ∀ j, j < i → listed.getD j false = true := fun j hj => by
          obtain ⟨e, he, hbd, rfl⟩ := waits_of hw j hj
          exact hdep e he hbd
        have ea : a = { a0 with tmps := patch a0.tmps base vals } := by
          obtain ⟨t, d⟩ := a
          obtain ⟨k1, k2⟩ := hk
          have ht : t = patch a0.tmps base vals := by
            refine Array.ext_getElem? fun s => ?_
            have := k2 s
            simp only at this
            rw [this, patch_at _ _ _ hb]
            by_cases hcs : base ≤ s ∧ s - base < vals.length
            · rw [if_pos ⟨hcs.1, hall _ (by omega)⟩, if_pos hcs]
            · rw [if_neg hcs, if_neg]
              rintro ⟨c1, c2⟩
              have hge : i ≤ s - base := by omega
              rcases Nat.lt_or_ge (s - base) listed.size with hlt | hlt
              · have hei : s - base = i := by omega
                rw [hei, Array.getD_eq_getD_getElem?, Array.getElem?_eq_getElem hil, hli] at c2
                cases c2
              · rw [Array.getD_eq_getD_getElem?, Array.getElem?_eq_none hlt] at c2
                cases c2
          rw [ht]
          simp only at k1
          rw [k1]
        subst ea
        unfold wpOpIn
        rw [hoL]
        have hwant : Region.wanted oL (yielded ops (patch a0.tmps base vals)) = true := by unfold Region.wanted; rw [hg]
        simp only [hwant, if_true]
        refine Oper.wpIn_mono (fun a' w' hq => ?_) (hQ w hS)
        refine done_any _ (by simp [hl]) (fun j hj => ?_) a' w' hq fuel
        rw [Array.getD_eq_getD_getElem?, Array.getElem?_setIfInBounds]
        by_cases hji : i = j
        · rw [if_pos hji, if_pos hil]; rfl
        · rw [if_neg hji, ← Array.getD_eq_getD_getElem?]
          exact hall j (by simp at hj; omega)
      · have hilt : i < m := by omega
        obtain ⟨⟨hd, hlt⟩, hrun⟩ := at_ i o hilt ho
        obtain ⟨v, hv'⟩ : ∃ v, vals[i]? = some v := ⟨vals[i], List.getElem?_eq_getElem (by omega)⟩
        have hsees : Sees a0 base vals o a := by
          refine ⟨fun s hs' => ?_, fun e he hbd => ?_⟩
          · rw [hk.2 s, if_neg (by omega)]
          · have := hdep e he hbd
            rw [hk.2 (base + e.on), Nat.add_sub_cancel_left, if_pos ⟨by omega, this⟩]
        have hslot : base + i < a.tmps.size := by
          have := hk.2 (base + i)
          rw [if_neg (by rw [Nat.add_sub_cancel_left, Array.getD_eq_getD_getElem?, Array.getElem?_eq_getElem hil, hli]; simp), Array.getElem?_eq_getElem (show base + i < a0.tmps.size by omega)] at this
          rcases Nat.lt_or_ge (base + i) a.tmps.size with h | h
          · exact h
          · rw [Array.getElem?_eq_none h] at this; cases this
        have hnext : ∀ w', S w' → wpAnyIn F n P .any ops Q fuel (listed.setIfInBounds i true) (a.put o.dst v) w' := by
          intro w' hw'
          refine ih _ _ _ (by rw [Array.size_setIfInBounds]; exact hl) ?_ ?_ ?_ hw'
          · rw [Array.getD_eq_getD_getElem?, Array.getElem?_setIfInBounds, if_neg him, ← Array.getD_eq_getD_getElem?]; exact hmf
          · rw [Array.toList_setIfInBounds, List.count_set (by rw [Array.length_toList]; exact hil), Array.getElem_toList, hli]
            show listed.toList.count false - 1 + 0 ≤ fuel
            omega
          · refine ⟨by rw [hd]; exact hk.1, fun s => ?_⟩
            rw [hd]
            show (a.tmps.setIfInBounds (base + i) v)[s]? = _
            rw [Array.getElem?_setIfInBounds]
            by_cases hsi : base + i = s
            · subst hsi
              rw [if_pos rfl, if_pos hslot, Nat.add_sub_cancel_left, if_pos ⟨by omega, by rw [Array.getD_eq_getD_getElem?, Array.getElem?_setIfInBounds, if_pos rfl, if_pos hil]; rfl⟩, hv']
            · rw [if_neg hsi, hk.2 s]
              by_cases hbs : base ≤ s
              · have e1 : (listed.setIfInBounds i true).getD (s - base) false = listed.getD (s - base) false := by
                  rw [Array.getD_eq_getD_getElem?, Array.getElem?_setIfInBounds, if_neg (by omega), ← Array.getD_eq_getD_getElem?]
                rw [e1]
              · rw [if_neg (by omega), if_neg (by omega)]
        have hgo := hrun a w v hv' hS hsees
        unfold wpOpIn
        rw [ho]
        by_cases hwant : Region.wanted o (yielded ops a.tmps) = true
        · simp only [hwant, if_true] at hgo ⊢
          exact hgo _ hnext
        · simp only [hwant] at hgo ⊢
          have hgo : v = undef := hgo
          rw [hgo] at hnext
          exact ⟨fun f _ => hF f, hnext w hS⟩

/-- A region that draws: the value of every operation but the last is known, and the last one waits for all. -/
theorem region_last {id : Nat} {a0 : Act} {w : World} (m base : Nat) (vals : List Value) (oL : Oper) (S : World → Prop) (hF : ∀ f, F.fn f) (hm : P.follows .mixedOrders = true) (hsz : ops.size = m + 1) (hoL : ops[m]? = some oL) (hw : waitsB oL m = true) (hw2 : oL.after.all (fun e => decide (e.on < m)) = true) (hg : oL.guard = none) (hv : vals.length = m) (hb : base + vals.length ≤ a0.tmps.size)
    (hS : S w.drew) (hs : AllSteps F n P ops Q S a0 base vals 0 (ops.toList.take m)) (hQ : ∀ w, S w → Oper.wpIn F n P oL { a0 with tmps := patch a0.tmps base vals } w (fun a' w' => Q .normal a' w') Q) : (Code.region id ops true).wpIn F n P Q a0 w := by
  refine wpIn_region_any hm (known_any hF hsz hoL hw hw2 hg hv hb hs hQ _ _ _ _ (by simp) ?_ (by simp) ⟨rfl, fun s => ?_⟩ hS)
  · rw [Array.getD_eq_getD_getElem?, Array.getElem?_replicate, if_pos (by omega)]; rfl
  · rw [if_neg]
    rintro ⟨_, h2⟩
    rw [Array.getD_eq_getD_getElem?, Array.getElem?_replicate] at h2
    split at h2 <;> cases h2
end
end Go.Proofs.Ytcipilggddpnpaa.O2

/-! A drawn region whose last operation waits for all others, inside a fence: the others are walked as if they were the region, the last one behind them. -/
namespace Go.Proofs.Ytcipilggddpnpaa
open Go
set_option linter.unusedVariables false

section
variable {F : Fence} {n : Nat} {P : Program} {init : Array Oper} {oL : Oper} {Q : Exit → Act → World → Prop} {C : World → Prop}

/-- Behind the others: the last one. -/
def lastQ (F : Fence) (n : Nat) (P : Program) (oL : Oper) (Q : Exit → Act → World → Prop) : Exit → Act → World → Prop
  | .normal, a, w => Oper.wpIn F n P oL a w (fun a' w' => Q .normal a' w') Q
  | e, a, w => Q e a w

/-- Each waits for elder ones alone, and its guard is an elder one. -/
def elderB (init : Array Oper) : Bool := (List.range init.size).all fun i => match init[i]? with
  | some o => o.after.all (fun e => decide (e.on < i)) && (match o.guard with | some (j, _) => decide (j < init.size) | none => true)
  | none => true
theorem elder_of (h : elderB init = true) (i : Nat) (o : Oper) (ho : init[i]? = some o) : (∀ e ∈ o.after, e.on < i) ∧ ∀ j b, o.guard = some (j, b) → j < init.size := by
  have hi : i < init.size := (Array.getElem?_eq_some_iff.1 ho).1
  have h1 := List.all_eq_true.1 h i (List.mem_range.2 hi)
  simp only [ho, Bool.and_eq_true] at h1
  refine ⟨fun e he => ?_, fun j b hg => ?_⟩
  · have := h1.1
    rw [Array.all_eq_true'] at this
    exact of_decide_eq_true (this e he)
  · have := h1.2
    rw [hg] at this
    exact of_decide_eq_true this

theorem yielded_push (t : Array Value) {j : Nat} (hj : j < init.size) : yielded (init.push oL) t j = yielded init t j := by
  unfold yielded
  rw [Array.getElem?_push_lt hj, Array.getElem?_eq_getElem hj]
theorem wanted_push (h : elderB init = true) {i : Nat} {o : Oper} (ho : init[i]? = some o) (t : Array Value) : Region.wanted o (yielded (init.push oL) t) = Region.wanted o (yielded init t) := by
  unfold Region.wanted
  cases hg : o.guard with
  | none => rfl
  | some jb =>
    obtain ⟨j, b⟩ := jb
    simp only []
    rw [yielded_push t ((elder_of h i o ho).2 j b hg)]

theorem oper_lastQ {o : Oper} {a : Act} {w : World} {K K' : Act → World → Prop} (h : ∀ a w, K a w → K' a w) (hh : o.wpIn F n P a w K (lastQ F n P oL Q)) : o.wpIn F n P a w K' Q := by
  have h1 := Oper.wpIn_mono h hh
  unfold Oper.wpIn at *
  refine ⟨h1.1, ?_⟩
  have h2 := h1.2
  generalize (o.semAt F.round a.eval).run P w = r at *
  cases r with
  | ok x w' => cases x <;> exact h2
  | halt x w' => cases x <;> exact h2

theorem getD_push_lt {listed : Array Bool} {j : Nat} (d : Bool) (hj : j < listed.size) : (listed.push false).getD j d = listed.getD j d := by
  rw [Array.getD_eq_getD_getElem?, Array.getElem?_push_lt hj, Array.getD_eq_getD_getElem?, Array.getElem?_eq_getElem hj]

theorem ready_nil (h : elderB init = true) {listed : Array Bool} (hl : listed.size = init.size) (hr : Region.ready .any init listed = []) : ∀ j, j < init.size → listed.getD j false = true := by
  intro j
  induction j using Nat.strongRecOn with
  | ind j ihj =>
    intro hj
    cases hb' : listed.getD j false with
    | true => rfl
    | false =>
      have hmem : j ∈ Region.ready .any init listed := by
        refine mem_ready.2 ⟨?_, init[j], Array.getElem?_eq_getElem hj, fun e he _ => ?_⟩
        · rw [Array.getD_eq_getD_getElem?, Array.getElem?_eq_getElem (show j < listed.size by omega)] at hb' ⊢
          exact hb'
        · have := (elder_of h j _ (Array.getElem?_eq_getElem hj)).1 e he
          exact ihj e.on this (by omega)
      rw [hr] at hmem
      cases hmem
theorem nil_ready {listed : Array Bool} (hl : listed.size = init.size) (hall : ∀ j, j < init.size → listed.getD j false = true) : Region.ready .any init listed = [] := by
  rw [List.eq_nil_iff_forall_not_mem]
  intro j hj
  obtain ⟨h0, o, ho, _⟩ := mem_ready.1 hj
  have hlt : j < init.size := (Array.getElem?_eq_some_iff.1 ho).1
  have := hall j hlt
  rw [Array.getD_eq_getD_getElem?, Array.getElem?_eq_getElem (show j < listed.size by omega)] at this h0
  simp only [Option.getD_some] at this h0
  rw [this] at h0
  cases h0

theorem snoc_any (he : elderB init = true) (hw : O2.sinkB init oL = true) (hw2 : oL.after.all (fun e => decide (e.on < init.size)) = true) (hg : oL.guard = none) : ∀ (fuel : Nat) (listed : Array Bool) (a : Act) (w : World), listed.size = init.size → O2.Closed init listed →
    wpAnyIn F n P .any init (lastQ F n P oL Q) fuel listed a w → wpAnyIn F n P .any (init.push oL) Q (fuel + 1) (listed.push false) a w := by
  have hoL : (init.push oL)[init.size]? = some oL := by simp
  have lastly : ∀ (fuel : Nat) (listed : Array Bool) (a : Act) (w : World), listed.size = init.size → (∀ j, j < init.size → listed.getD j false = true) → lastQ F n P oL Q .normal a w →
      wpOpIn F n P (init.push oL) Q init.size (wpAnyIn F n P .any (init.push oL) Q fuel ((listed.push false).setIfInBounds init.size true)) a w := fun fuel listed a w hl hall hq => by
    unfold wpOpIn
    rw [hoL]
    have hwant : Region.wanted oL (yielded (init.push oL) a.tmps) = true := by unfold Region.wanted; rw [hg]
    simp only [hwant, if_true]
    refine Oper.wpIn_mono (fun a' w' hq' => ?_) hq
    refine O2.done_any _ (by simp [hl]) (fun j hj => ?_) a' w' hq' fuel
    rw [Array.getD_eq_getD_getElem?, Array.getElem?_setIfInBounds]
    by_cases hji : init.size = j
    · rw [if_pos hji, if_pos (by simp; omega)]; rfl
    · rw [if_neg hji, ← Array.getD_eq_getD_getElem?, getD_push_lt _ (by simp at hj; omega)]
      exact hall j (by simp at hj; omega)
  have lastReady : ∀ (listed : Array Bool), listed.size = init.size → (∀ j, j < init.size → listed.getD j false = true) → init.size ∈ Region.ready .any (init.push oL) (listed.push false) := fun listed hl hall => by
    refine mem_ready.2 ⟨?_, oL, hoL, fun e he' _ => ?_⟩
    · rw [Array.getD_eq_getD_getElem?, ← hl, Array.getElem?_push_size]; rfl
    · rw [Array.all_eq_true'] at hw2
      have := of_decide_eq_true (hw2 e he')
      rw [getD_push_lt _ (by omega)]
      exact hall _ this
  have elder : ∀ (listed : Array Bool) (i : Nat), listed.size = init.size → O2.Closed init listed → i ∈ Region.ready .any (init.push oL) (listed.push false) → i < init.size ∧ i ∈ Region.ready .any init listed ∨ i = init.size ∧ ∀ j, j < init.size → listed.getD j false = true := fun listed i hl hcl hi => by
    obtain ⟨h0, o, ho, hdep⟩ := mem_ready.1 hi
    have hio : i < init.size + 1 := by have := (Array.getElem?_eq_some_iff.1 ho).1; simpa using this
    by_cases him : i = init.size
    · subst him
      rw [hoL] at ho
      cases ho
      refine .inr ⟨rfl, fun j hj => O2.sink_all hw hcl (fun e he' hbd => ?_) _ j rfl hj⟩
      rw [Array.all_eq_true'] at hw2
      have h1 := of_decide_eq_true (hw2 e he')
      have := hdep e he' hbd
      rwa [getD_push_lt _ (by omega)] at this
    · have hlt : i < init.size := by omega
      rw [Array.getElem?_push_lt hlt] at ho
      have ho' : init[i]? = some o := by rw [Array.getElem?_eq_getElem hlt]; exact ho
      refine .inl ⟨hlt, mem_ready.2 ⟨by rwa [getD_push_lt _ (by omega)] at h0, o, ho', fun e he' hbd => ?_⟩⟩
      have h1 := (elder_of he i o ho').1 e he'
      have := hdep e he' hbd
      rwa [getD_push_lt _ (by omega)] at this
  intro fuel
  induction fuel with
  | zero =>
    intro listed a w hl hcl h
    have hall := ready_nil he hl h.1
    refine ⟨fun hr => ?_, fun i hi => ?_⟩
    · have := lastReady listed hl hall
      rw [hr] at this
      cases this
    · rcases elder listed i hl hcl hi with ⟨_, hi'⟩ | ⟨rfl, _⟩
      · rw [h.1] at hi'; cases hi'
      · exact lastly 0 listed a w hl hall h.2
  | succ fuel ih =>
    intro listed a w hl hcl h
    refine ⟨fun hr => ?_, fun i hi => ?_⟩
    · exfalso
      by_cases hr2 : Region.ready .any init listed = []
      · have := lastReady listed hl (ready_nil he hl hr2)
        rw [hr] at this
        cases this
      · obtain ⟨i, hi⟩ := List.exists_mem_of_ne_nil _ hr2
        obtain ⟨h0, o, ho, hdep⟩ := mem_ready.1 hi
        have hlt : i < init.size := (Array.getElem?_eq_some_iff.1 ho).1
        have : i ∈ Region.ready .any (init.push oL) (listed.push false) := by
          refine mem_ready.2 ⟨by rwa [getD_push_lt _ (by omega)], o, by rw [Array.getElem?_push_lt hlt, ← Array.getElem?_eq_getElem hlt]; exact ho, fun e he' hbd => ?_⟩
          have h1 := (elder_of he i o ho).1 e he'
          rw [getD_push_lt _ (by omega)]
          exact hdep e he' hbd
        rw [hr] at this
        cases this
    · rcases elder listed i hl hcl hi with ⟨hlt, hi'⟩ | ⟨rfl, hall⟩
      · have h2 := h.2 i hi'
        obtain ⟨_, o, ho, _⟩ := mem_ready.1 hi'
        have ho' : (init.push oL)[i]? = some o := by rw [Array.getElem?_push_lt hlt, ← Array.getElem?_eq_getElem hlt]; exact ho
        have e1 : (listed.push false).setIfInBounds i true = (listed.setIfInBounds i true).push false := by
          apply Array.ext'
          rw [Array.toList_setIfInBounds, Array.toList_push, Array.toList_push, Array.toList_setIfInBounds, List.set_append_left _ _ (by simpa using (show i < listed.size by omega))]
        unfold wpOpIn at h2 ⊢
        rw [ho] at h2
        rw [ho', e1]
        simp only [] at h2 ⊢
        rw [wanted_push he ho]
        by_cases hwant : Region.wanted o (yielded init a.tmps) = true
        · simp only [hwant, if_true] at h2 ⊢
          exact oper_lastQ (fun a' w' hk => ih _ a' w' (by simpa using hl) (hcl.set hi') hk) h2
        · simp only [hwant] at h2 ⊢
          exact ⟨h2.1, ih _ _ _ (by simpa using hl) (hcl.set hi') h2.2⟩
      · exact lastly (fuel + 1) listed a w hl hall (h.1 (nil_ready hl hall))

/-- The others walked in their text's order, in a class of worlds that they and their callees keep to; then the last one. -/
theorem region_quiet_last {id : Nat} {a : Act} {w : World} (hro : F.round = none) (hm : P.follows .mixedOrders = true) (he : elderB init = true) (hw : O2.sinkB init oL = true) (hw2 : oL.after.all (fun e => decide (e.on < init.size)) = true) (hg : oL.guard = none) (hB : Region.lexB .any init = true) (hC : C { w with drawn := w.drawn + 1 })
    (h : wpQuietIn F n P init C (fun a' => ∀ w', C w' → Oper.wpIn F n P oL a' w' (fun a2 w2 => Q .normal a2 w2) Q) init.toList a) : (Code.region id (init.push oL) true).wpIn F n P Q a w := by
  simp only [Region.lexB, Bool.and_eq_true] at hB
  refine wpIn_region_any hm ?_
  have h1 := wpAnyQIn_lex (F := F) (n := n) (C := C) (md := .any) hB.1 init.toList 0 (Array.replicate init.size false) a (by simp) (by simpa using hB.2) h
  have h2 := wpAnyIn_of_quiet (Q' := lastQ F n P oL Q) hro (fun a' w' hw' (h : ∀ w', C w' → Oper.wpIn F n P oL a' w' (fun a2 w2 => Q .normal a2 w2) Q) => h w' hw') _ _ _ _ hC h1
  have h3 := snoc_any he hw hw2 hg _ _ _ _ (by simp) (O2.closed_none init _) h2
  have e1 : (Array.replicate init.size false).push false = Array.replicate (init.push oL).size false := by simp [Array.replicate_succ]
  have e2 : init.toList.length + 1 = (init.push oL).size := by simp
  rw [e1, e2] at h3
  exact h3

theorem region_quiet_last_round {id : Nat} {a : Act} {w : World} (l : Nat) (hnd : NoDefer init) (hm : P.follows .mixedOrders = true) (he : elderB init = true) (hw : O2.sinkB init oL = true) (hw2 : oL.after.all (fun e => decide (e.on < init.size)) = true) (hg : oL.guard = none) (hB : Region.lexB .any init = true) (hC : C { w with drawn := w.drawn + 1 })
    (h : wpQuietIn F n P init C (fun a' => ∀ w', C w' → Oper.wpIn (F.inRound l) n P oL a' w' (fun a2 w2 => Q .normal a2 w2) Q) init.toList a) : (Code.region id (init.push oL) true).wpIn (F.inRound l) n P Q a w := by
  simp only [Region.lexB, Bool.and_eq_true] at hB
  refine wpIn_region_any hm ?_
  have h1 := wpAnyQIn_lex (F := F) (n := n) (C := C) (md := .any) hB.1 init.toList 0 (Array.replicate init.size false) a (by simp) (by simpa using hB.2) h
  have h2 := any_of_quiet (Q' := lastQ (F.inRound l) n P oL Q) l hnd (fun a' w' hw' (h : ∀ w', C w' → Oper.wpIn (F.inRound l) n P oL a' w' (fun a2 w2 => Q .normal a2 w2) Q) => h w' hw') _ _ _ _ hC h1
  have h3 := snoc_any he hw hw2 hg _ _ _ _ (by simp) (O2.closed_none init _) h2
  have e1 : (Array.replicate init.size false).push false = Array.replicate (init.push oL).size false := by simp [Array.replicate_succ]
  have e2 : init.toList.length + 1 = (init.push oL).size := by simp
  rw [e1, e2] at h3
  exact h3
end
end Go.Proofs.Ytcipilggddpnpaa

/-! Drawn regions, in a round of a range over a function and outside: walked as plain ones are, with plain contracts; the last operation, if it waits for all others, behind them. -/
namespace Go.Proofs.Ytcipilggddpnpaa
open Go Go.Sort
set_option linter.unusedVariables false

section
variable {n : Nat} {P : Program} {Q : Exit → Act → World → Prop} {C : World → Prop}

theorem quietAt_wide {o : Oper} {a : Act} {w : World} {v : Value} (h : o.quietAt P a C w v) : o.quietAtIn Fence.wide n P a C w v := by
  unfold Oper.quietAt at h
  unfold Oper.quietAtIn
  generalize (execOp a.eval o).run P w = r at *
  cases r with
  | ok x w' =>
    cases x <;> simp only [Oper.quietUpon] at h <;> simp only [Oper.quietUponIn]
    case value u => exact h
    case skip => exact h
    case enter f args => exact ⟨h.1, fun x => by simp [Fence.wide] at x, callsIn_wide.2 h.2⟩
  | halt x w' => simp only [Oper.quietUpon] at h

theorem quiet_wide {ops : Array Oper} {R : Act → Prop} : ∀ {l : List Oper} {a : Act}, wpQuiet P ops C R l a → wpQuietIn Fence.wide n P ops C R l a
  | [], _, h => h
  | o :: rest, a, h => by
    refine ⟨fun _ _ _ _ => trivial, ?_⟩
    unfold wpQuiet at h
    split
    · rename_i hw
      rw [if_pos hw] at h
      obtain ⟨v, h1, h2⟩ := h
      exact ⟨v, fun w hw => quietAt_wide (h1 w hw), quiet_wide h2⟩
    · rename_i hw
      rw [if_neg hw] at h
      exact quiet_wide h

/-- In a round: a region that reads, with quiet callees. -/
theorem round_quiet {id : Nat} {a : Act} {w : World} {os : List Oper} (l : Nat) (C : World → Prop) (hnd : noDeferB os = true) (hm : P.follows .mixedOrders = true) (hB : Region.lexB .any os.toArray = true) (hC : C { w with drawn := w.drawn + 1 })
    (h : wpQuiet P os.toArray C (fun a' => ∀ w', C w' → Q .normal a' w') os a) : (Code.region id os.toArray true).wpIn (Fence.wide.inRound l) n P Q a w :=
  region_quiet_round (C := C) l (noDefer_of hnd) hm hB hC (by simpa using quiet_wide h)

theorem take_push {os : List Oper} {m : Nat} {oL : Oper} (hos : os[m]? = some oL) (hlen : os.length = m + 1) : os.toArray = (os.take m).toArray.push oL := by
  apply Array.ext'
  rw [Array.toList_push]
  show os = os.take m ++ [oL]
  have h1 : os.take (m + 1) = os.take m ++ [oL] := by
    rw [List.take_add_one, hos]; rfl
  rw [← h1, List.take_of_length_le (by omega)]

def lastB (os : List Oper) (m : Nat) (oL : Oper) : Bool := elderB (os.take m).toArray && O2.sinkB (os.take m).toArray oL && oL.after.all (fun e => decide (e.on < m)) && oL.guard.isNone && Region.lexB .any (os.take m).toArray && noDeferB (os.take m)

theorem tail_of {F : Fence} {oL : Oper} (hg : oL.guard = none) {a : Act} {w : World} (h : wpListIn F n P #[oL] Q [oL] a w) : Oper.wpIn F n P oL a w (fun a2 w2 => Q .normal a2 w2) Q := by
  unfold wpListIn at h
  have hw : Region.wanted oL (yielded #[oL] a.tmps) = true := by unfold Region.wanted; rw [hg]
  rw [if_pos hw] at h
  exact Oper.wpIn_mono (fun a' w' hq => by unfold wpListIn at hq; exact hq) h

/-- A region whose last operation waits for all others, which read, with quiet callees. -/
theorem plain_last {id : Nat} {a : Act} {w : World} {os : List Oper} (m : Nat) (oL : Oper) (C : World → Prop) (hos : os[m]? = some oL) (hlen : os.length = m + 1) (hch : lastB os m oL = true) (hm : P.follows .mixedOrders = true) (hC : C { w with drawn := w.drawn + 1 })
    (h : wpQuiet P (os.take m).toArray C (fun a' => ∀ w', C w' → wpListIn Fence.wide 8 P #[oL] Q [oL] a' w') (os.take m) a) : (Code.region id os.toArray true).wp P Q a w := by
  simp only [lastB, Bool.and_eq_true, Option.isNone_iff_eq_none] at hch
  obtain ⟨⟨⟨⟨⟨h1, h2⟩, h3⟩, h4⟩, h5⟩, h6⟩ := hch
  have hsz : (os.take m).toArray.size = m := by simp; omega
  rw [take_push hos hlen]
  refine (wpIn_wide (n := 8)).1 (region_quiet_last (C := C) rfl hm h1 h2 (by rw [hsz]; exact h3) h4 h5 hC ?_)
  have hq := quiet_wide (n := 8) h
  have : ∀ (l : List Oper) (a : Act), wpQuietIn Fence.wide 8 P (os.take m).toArray C (fun a' => ∀ w', C w' → wpListIn Fence.wide 8 P #[oL] Q [oL] a' w') l a → wpQuietIn Fence.wide 8 P (os.take m).toArray C (fun a' => ∀ w', C w' → Oper.wpIn Fence.wide 8 P oL a' w' (fun a2 w2 => Q .normal a2 w2) Q) l a := by
    intro l
    induction l with
    | nil => intro a h w' hw'; exact tail_of h4 (h w' hw')
    | cons o r ih =>
      intro a h
      obtain ⟨ha, h⟩ := h
      refine ⟨ha, ?_⟩
      split
      · rename_i hw
        rw [if_pos hw] at h
        exact Oper.quietIn_mono ih h
      · rename_i hw
        rw [if_neg hw] at h
        exact ih _ h
  have := this _ _ hq
  simpa using this

/-- .. in a round. -/
theorem round_last {id : Nat} {a : Act} {w : World} {os : List Oper} (l m : Nat) (oL : Oper) (C : World → Prop) (hos : os[m]? = some oL) (hlen : os.length = m + 1) (hch : lastB os m oL = true) (hm : P.follows .mixedOrders = true) (hC : C { w with drawn := w.drawn + 1 })
    (h : wpQuiet P (os.take m).toArray C (fun a' => ∀ w', C w' → wpListIn (Fence.wide.inRound l) n P #[oL] Q [oL] a' w') (os.take m) a) : (Code.region id os.toArray true).wpIn (Fence.wide.inRound l) n P Q a w := by
  simp only [lastB, Bool.and_eq_true, Option.isNone_iff_eq_none] at hch
  obtain ⟨⟨⟨⟨⟨h1, h2⟩, h3⟩, h4⟩, h5⟩, h6⟩ := hch
  have hsz : (os.take m).toArray.size = m := by simp; omega
  rw [take_push hos hlen]
  refine region_quiet_last_round (C := C) l (noDefer_of h6) hm h1 h2 (by rw [hsz]; exact h3) h4 h5 hC ?_
  have hq := quiet_wide (n := n) h
  have : ∀ (k : List Oper) (a : Act), wpQuietIn Fence.wide n P (os.take m).toArray C (fun a' => ∀ w', C w' → wpListIn (Fence.wide.inRound l) n P #[oL] Q [oL] a' w') k a → wpQuietIn Fence.wide n P (os.take m).toArray C (fun a' => ∀ w', C w' → Oper.wpIn (Fence.wide.inRound l) n P oL a' w' (fun a2 w2 => Q .normal a2 w2) Q) k a := by
    intro k
    induction k with
    | nil => intro a h w' hw'; exact tail_of h4 (h w' hw')
    | cons o r ih =>
      intro a h
      obtain ⟨ha, h⟩ := h
      refine ⟨ha, ?_⟩
      split
      · rename_i hw
        rw [if_pos hw] at h
        exact Oper.quietIn_mono ih h
      · rename_i hw
        rw [if_neg hw] at h
        exact ih _ h
  have := this _ _ hq
  simpa using this
end

/-- w, some draws on, some blocks laid behind it: the class that growing callees keep to. -/
abbrev Growing (w : World) (w' : World) : Prop := ∃ p : GrownBy, w' = grow (w.drewN p.n) p.os
theorem growing_drew (w : World) : Growing w { w with drawn := w.drawn + 1 } := ⟨⟨1, #[]⟩, by rw [grow_empty]; rfl⟩
/-- A world in which all that there was lies as it lay. -/
structure Lies (w : World) where
  v : World
  h : Go.RowKit.Below w.heap.size w v
abbrev Lying (w : World) (w' : World) : Prop := ∃ q : Lies w, w' = q.v
theorem lying_drew (w : World) : Lying w { w with drawn := w.drawn + 1 } := ⟨⟨_, (Grew.refl w).drew.below⟩, rfl⟩
/-- w, some draws on. -/
abbrev Drawing (w : World) (w' : World) : Prop := ∃ n, w' = w.drewN n
theorem drawing_drew (w : World) : Drawing w { w with drawn := w.drawn + 1 } := ⟨1, rfl⟩
theorem Growing.grew {w w' : World} (h : Growing w w') : Grew w w' := by
  obtain ⟨p, rfl⟩ := h
  exact ⟨p.n, p.os, rfl⟩
end Go.Proofs.Ytcipilggddpnpaa

/-! Ways to leave, and counters, in functions that range over a function. -/
namespace Go.Proofs.Ytcipilggddpnpaa
open Go.RowKit Go.Sort Go.Shelf Go.Maps
set_option linter.unusedVariables false
set_option linter.unusedSimpArgs false

/-- A counter in a block of its own. -/
def NumAt (W : World) (b : Nat) (k : Int) : Prop := W.heap[b]? = some (.cells #[.int .i64 k] 3 (0, 0))
theorem NumAt.cell {W : World} {b : Nat} {k : Int} (h : NumAt W b k) : W.cell? ⟨b, 0, none⟩ = some (.int .i64 k) ∧ W.frozen? ⟨b, 0, none⟩ = false := by
  unfold NumAt at h
  exact ⟨by simp [World.cell?, h], by simp [World.frozen?, h]⟩
theorem NumAt.set {W : World} {b : Nat} {k : Int} (h : NumAt W b k) (k' : Int) : NumAt (W.setCell ⟨b, 0, none⟩ (.int .i64 k')) b k' := by
  unfold NumAt at *
  simp [World.setCell, Array.getElem?_modify, h]

/-- Between two rounds: the counter stands at k, all else is as it was. -/
def CntI (W4 : World) (b : Nat) (k : Nat) (W : World) : Prop := Kept (fun i => i = b) W4 W ∧ NumAt W b k
theorem cntI_own {W4 : World} {b : Nat} (hb : b < W4.heap.size) : OwnFrom W4.heap.size (CntI W4 b) := fun k A B row hs hg hr => by
  obtain ⟨h1, h2⟩ := hs
  refine ⟨h1.grown hg (fun k e => .inr (hr k e).1), ?_⟩
  unfold NumAt at *
  rw [hg.block b (Array.getElem?_eq_some_iff.1 h2).1 (fun e => by have := (hr b e.symm).1; omega)]
  exact h2
theorem CntI.next {W4 W : World} {b k : Nat} (h : CntI W4 b k W) : CntI W4 b (k + 1) (W.setCell ⟨b, 0, none⟩ (.int .i64 ((k : Int) + 1))) :=
  ⟨h.1.setCell (.inl rfl) _, by have := h.2.set ((k : Int) + 1); exact this⟩

theorem CntI.grew {W4 W W' : World} {b k : Nat} (h : CntI W4 b k W) (hb : b < W4.heap.size) (g : Grew W W') : CntI W4 b k W' :=
  ⟨h.1.trans (g.kept _), (g.block (Nat.lt_of_lt_of_le hb h.1.size)).trans h.2⟩
theorem Kept.from {S : Nat → Prop} {a b : World} (h : Kept S a b) (B : Nat) (hs : ∀ k, S k → k < B) : KeepsFrom B a b :=
  ⟨h.size, fun k o hk ho _ => (h.block k (Array.getElem?_eq_some_iff.1 ho).1 (fun s => by have := hs k s; omega)).trans ho⟩

theorem leave_one {P : Program} {fn : Func} {tmps : Array Value} {R : Ending → World → Prop} {n D : Nat} {W : World} (hD : W.heap[D]? = some (.deferred (some [])))
    (h : ∃ v, (results fn tmps).run P (W.putObj D (.deferred none)) = .ok v (W.putObj D (.deferred none)) ∧ R (.returned v) (W.putObj D (.deferred none))) : LeavesInM Fence.wide n P fn tmps R [{ target := .collected D, args := #[] }] .returning W :=
  ⟨by simp, .inl ⟨D, _, rfl, run_takeDeferred hD, h⟩⟩

end Go.Proofs.Ytcipilggddpnpaa

/-
  Drawn regions whose last two operations wait for all others, one behind the other: a call, and what keeps its answer.
-/
namespace Go.Proofs.Ytcipilggddpnpaa
open Go Go.Sort
set_option linter.unusedVariables false

section
variable {F : Fence} {n : Nat} {P : Program} {o1 o2 : Oper} {Q : Exit → Act → World → Prop} {C : World → Prop}

theorem oper_toLastQ {o : Oper} {a : Act} {w : World} {K : Act → World → Prop} (hh : o.wpIn F n P a w K Q) : o.wpIn F n P a w K (lastQ F n P o2 Q) := by
  unfold Oper.wpIn at *
  refine ⟨hh.1, ?_⟩
  have h2 := hh.2
  generalize (o.semAt F.round a.eval).run P w = r at *
  cases r with
  | ok x w' => cases x <;> exact h2
  | halt x w' => cases x <;> exact h2

theorem tail2_of (hg1 : o1.guard = none) (hg2 : o2.guard = none) {a : Act} {w : World} (h : wpListIn F n P #[o1, o2] Q [o1, o2] a w) : Oper.wpIn F n P o1 a w (fun a2 w2 => lastQ F n P o2 Q .normal a2 w2) (lastQ F n P o2 Q) := by
  unfold wpListIn at h
  have hw : ∀ (o : Oper) t, o.guard = none → Region.wanted o (yielded #[o1, o2] t) = true := fun o t hg => by unfold Region.wanted; rw [hg]
  rw [if_pos (hw o1 _ hg1)] at h
  refine oper_toLastQ (Oper.wpIn_mono (fun a' w' hq => ?_) h)
  unfold wpListIn at hq
  rw [if_pos (hw o2 _ hg2)] at hq
  exact Oper.wpIn_mono (fun a' w' hq => by unfold wpListIn at hq; exact hq) hq

def last2B (os : List Oper) (m : Nat) (o1 o2 : Oper) : Bool := lastB os m o1 && (elderB (os.take (m + 1)).toArray && O2.sinkB (os.take (m + 1)).toArray o2 && o2.after.all (fun e => decide (e.on < m + 1)) && o2.guard.isNone)

/-- A region whose last two operations wait for all others, which read, with quiet callees. -/
theorem plain_last2 {id : Nat} {a : Act} {w : World} {os : List Oper} (m : Nat) (o1 o2 : Oper) (C : World → Prop) (hos : os[m]? = some o1) (hos2 : os[m + 1]? = some o2) (hlen : os.length = m + 2) (hch : last2B os m o1 o2 = true) (hm : P.follows .mixedOrders = true) (hC : C { w with drawn := w.drawn + 1 })
    (h : wpQuiet P (os.take m).toArray C (fun a' => ∀ w', C w' → wpListIn Fence.wide 8 P #[o1, o2] Q [o1, o2] a' w') (os.take m) a) : (Code.region id os.toArray true).wp P Q a w := by
  simp only [last2B, lastB, Bool.and_eq_true, Option.isNone_iff_eq_none] at hch
  obtain ⟨⟨⟨⟨⟨⟨h1, h2⟩, h3⟩, h4⟩, h5⟩, h6⟩, ⟨⟨g1, g2⟩, g3⟩, g4⟩ := hch
  have hsz : (os.take m).toArray.size = m := by simp; omega
  have e0 : os.toArray = (os.take (m + 1)).toArray.push o2 := take_push (m := m + 1) hos2 (by omega)
  have e1 : (os.take (m + 1)).toArray = (os.take m).toArray.push o1 := by
    have := take_push (os := os.take (m + 1)) (m := m) (oL := o1) (by rw [List.getElem?_take, if_pos (by omega)]; exact hos) (by rw [List.length_take]; omega)
    rwa [List.take_take, Nat.min_eq_left (by omega)] at this
  rw [e1] at e0 g1 g2
  rw [e0]
  generalize hi : (os.take m).toArray = init at *
  have hl : os.take m = init.toList := by rw [← hi]
  rw [hl] at h
  have hq : wpQuietIn Fence.wide 8 P init C (fun a' => ∀ w', C w' → Oper.wpIn Fence.wide 8 P o1 a' w' (fun a2 w2 => lastQ Fence.wide 8 P o2 Q .normal a2 w2) (lastQ Fence.wide 8 P o2 Q)) init.toList a := by
    have hq := quiet_wide (n := 8) h
    have : ∀ (l : List Oper) (a : Act), wpQuietIn Fence.wide 8 P init C (fun a' => ∀ w', C w' → wpListIn Fence.wide 8 P #[o1, o2] Q [o1, o2] a' w') l a → wpQuietIn Fence.wide 8 P init C (fun a' => ∀ w', C w' → Oper.wpIn Fence.wide 8 P o1 a' w' (fun a2 w2 => lastQ Fence.wide 8 P o2 Q .normal a2 w2) (lastQ Fence.wide 8 P o2 Q)) l a := by
      intro l
      induction l with
      | nil => intro a h w' hw'; exact tail2_of h4 g4 (h w' hw')
      | cons o r ih =>
        intro a h
        obtain ⟨ha, h⟩ := h
        refine ⟨ha, ?_⟩
        split
        · rename_i hw
          rw [if_pos hw] at h
          exact Oper.quietIn_mono ih h
        · rename_i hw
          rw [if_neg hw] at h
          exact ih _ h
    exact this _ _ hq
  refine (wpIn_wide (n := 8)).1 ?_
  simp only [Region.lexB, Bool.and_eq_true] at h5
  refine wpIn_region_any hm ?_
  have k1 := wpAnyQIn_lex (F := Fence.wide) (n := 8) (C := C) (md := .any) h5.1 init.toList 0 (Array.replicate init.size false) a (by simp) (by simpa using h5.2) hq
  have k2 := wpAnyIn_of_quiet (Q' := lastQ Fence.wide 8 P o1 (lastQ Fence.wide 8 P o2 Q)) rfl (fun a' w' hw' (h : ∀ w', C w' → Oper.wpIn Fence.wide 8 P o1 a' w' (fun a2 w2 => lastQ Fence.wide 8 P o2 Q .normal a2 w2) (lastQ Fence.wide 8 P o2 Q)) => h w' hw') _ _ _ _ hC k1
  have k3 := snoc_any h1 h2 (by rw [hsz]; exact h3) h4 _ _ _ _ (by simp) (O2.closed_none init _) k2
  have f1 : (Array.replicate init.size false).push false = Array.replicate (init.push o1).size false := by simp [Array.replicate_succ]
  rw [f1] at k3
  have k4 := snoc_any g1 g2 (by rw [Array.size_push, hsz]; exact g3) g4 _ _ _ _ (by simp) (O2.closed_none (init.push o1) _) k3
  have f2 : (Array.replicate (init.push o1).size false).push false = Array.replicate ((init.push o1).push o2).size false := by simp [Array.replicate_succ]
  have f3 : init.toList.length + 1 + 1 = ((init.push o1).push o2).size := by simp
  rw [f2, f3] at k4
  exact k4
end
end Go.Proofs.Ytcipilggddpnpaa

/-
  The walks of num.Time and num.After: what each answers, for every int; the world is as it was.
-/
namespace Go.Proofs.Ytcipilggddpnpaa
open Go.RowKit

/-- What num.Time answers. -/
def timeE (t : Int) : Int := if t < 0 then 10 else if 1099511627776 ≤ t then 21 else 0
theorem timeE_neg {t : Int} (h : t < 0) : timeE t = 10 := if_pos h
theorem timeE_far {t : Int} (h : 1099511627776 ≤ t) : timeE t = 21 := by
  unfold timeE; rw [if_neg (by omega), if_pos h]
theorem timeE_ok {t : Int} (h0 : 0 ≤ t) (h : t < 1099511627776) : timeE t = 0 := by
  unfold timeE; rw [if_neg (by omega), if_neg (by omega)]

set_option maxHeartbeats 400000 in
theorem time_any (t : Int) (w : World) :
    Calls Try.prog 58 #[.int .i64 t] w fun e w' => e = .returned (.int .i64 (timeE t)) ∧ w = w' := by
  by_cases h : t < 0
  · rw [timeE_neg h]
    go_enter Try.func58, Try.ntmps58
    go_wp2
    go_ret
    exact ⟨rfl, rfl⟩
  by_cases h1 : 1099511627776 ≤ t
  · rw [timeE_far h1]
    go_enter Try.func58, Try.ntmps58
    go_wp2
    go_ret
    exact ⟨rfl, rfl⟩
  · rw [timeE_ok (by omega) (by omega)]
    go_enter Try.func58, Try.ntmps58
    go_wp2
    go_ret
    exact ⟨rfl, rfl⟩

/-- What num.After answers: the time, and the error. -/
def afterE (t b : Int) : Int := if timeE t = 0 then (if b < 0 then 10 else if 1099511627776 - t ≤ b then 21 else 0) else timeE t
def afterN (t b : Int) : Int := if afterE t b = 0 then t + b else 0

theorem timeE_ne {t : Int} (h : t < 0 ∨ 1099511627776 ≤ t) : timeE t ≠ 0 := by
  rcases h with h | h
  · rw [timeE_neg h]; decide
  · rw [timeE_far h]; decide

end Go.Proofs.Ytcipilggddpnpaa

/-
  ready.Queue: what both heaps' turns leave; First, Last, putOne.
-/
namespace Go.Proofs.Ytcipilggddpnpaa
open Go.RowKit Go.Sort Go.Shelf Go.Maps
set_option linter.unusedVariables false
set_option linter.unusedSimpArgs false

theorem Qs.qApart {B : Nat} {w : World} {q : QB} {L : List Ent} (h : Qs B w q L) : ¬ q.turns q.qb := by
  rintro (hm | hm)
  · obtain ⟨o, ho, ht⟩ := h.up.kinds q.qb hm
    rw [h.obj] at ho
    cases ho
    rcases ht with e | e | e <;> simp [tyOf] at e
  · obtain ⟨o, ho, ht⟩ := h.down.kinds q.qb hm
    rw [h.obj] at ho
    cases ho
    rcases ht with e | e | e <;> simp [tyOf] at e
theorem Qs.fApart {B : Nat} {w : World} {q : QB} {L : List Ent} (h : Qs B w q L) : ¬ q.turns q.fb := by
  rintro (hm | hm)
  · obtain ⟨⟨R, _, _, hp⟩, _, _⟩ := h.up
    exact h.box.apart hp hm
  · obtain ⟨⟨R, _, _, hp⟩, _, _⟩ := h.down
    exact h.box.apart hp hm

theorem LeftQ.grew {B : Nat} {w w' : World} {q : QB} {L : List Ent} (h : Qs B w q L) (g : Grew w w') : LeftQ B w w' q q L := ⟨h.grew g, ⟨rfl, rfl⟩, g.kept _, fun _ x => .inl x⟩

/-- The heap that falls, behind a turn of the one that rises. -/
theorem Qs.downAfter {B : Nat} {w w1 w2 w3 : World} {q : QB} {L : List Ent} {C : List K.Ent} {ru' : Option Nat} (h : Qs B w q L) (g : Grew w w1) (l1 : K.Left K.upV K.ltK B w1 w2 q.hu q.mu q.ru ru' C) (g2 : Grew w2 w3) : K.Hs (K.downV q.fb) K.ltD B w3 q.hd q.md q.rd (L.map kN) :=
  ((h.down.grew g).kept l1.kept (fun b hb hm => h.apart b hm hb) ((h.up.grew g).mineTy)).grew g2

/-- Both heaps turned: the queue is turned. -/
theorem Qs.both {B : Nat} {w w1 w2 w3 w4 : World} {q : QB} {L C : List Ent} {ru' rd' : Option Nat} (h : Qs B w q L) (g : Grew w w1) (l1 : K.Left K.upV K.ltK B w1 w2 q.hu q.mu q.ru ru' (C.map kN)) (g2 : Grew w2 w3) (l2 : K.Left (K.downV q.fb) K.ltD B w3 w4 q.hd q.md q.rd rd' (C.map kN)) :
    LeftQ B w w4 q { q with ru := ru', rd := rd' } C := by
  have hk : Kept q.turns w w4 := (((g.kept _).trans (l1.kept.mono fun k _ hk => .inl hk)).trans (g2.kept _)).trans (l2.kept.mono fun k _ hk => .inr hk)
  have s1 := g.size
  have s2 := l1.kept.size
  have s3 := g2.size
  have hd := h.downAfter g l1 g2
  have upIn : ∀ k, Mine q.hu q.mu ru' k → Mine q.hu q.mu q.ru k ∨ (w1.heap.size ≤ k ∧ k < w2.heap.size) := by
    intro k hm
    have hi := l1.heap.inside k hm
    rcases hm with e | e | e
    · exact .inl (.inl e)
    · exact .inl (.inr (.inl e))
    · rcases l1.moved k e with e | e
      · exact .inl (.inr (.inr e))
      · exact .inr ⟨e, hi⟩
  have downIn : ∀ k, Mine q.hd q.md rd' k → Mine q.hd q.md q.rd k ∨ w3.heap.size ≤ k := by
    intro k hm
    rcases hm with e | e | e
    · exact .inl (.inl e)
    · exact .inl (.inr (.inl e))
    · rcases l2.moved k e with e | e
      · exact .inl (.inr (.inr e))
      · exact .inr e
  refine ⟨⟨(hk.block q.qb (Array.getElem?_eq_some_iff.1 h.obj).1 h.qApart).trans h.obj, ?_, l2.heap, (hk.block q.fb h.box.lt h.fApart).trans h.box, ?_, h.base⟩, ⟨rfl, rfl⟩, hk, ?_⟩
  · refine (l1.heap.grew g2).kept l2.kept (fun b hb hm => ?_) hd.mineTy
    rcases upIn b hb with e | ⟨e, _⟩
    · exact h.apart b e hm
    · have := h.down.inside b hm
      omega
  · intro k hu hd
    rcases upIn k hu with e | ⟨e1, e2⟩
    · rcases downIn k hd with e' | e'
      · exact h.apart k e e'
      · have := h.up.inside k e
        omega
    · rcases downIn k hd with e' | e'
      · have := h.down.inside k e'
        omega
      · omega
  · rintro k (hm | hm)
    · rcases upIn k hm with e | ⟨e, _⟩
      · exact .inl (.inl e)
      · exact .inr (by omega)
    · rcases downIn k hm with e | e
      · exact .inl (.inr e)
      · exact .inr (by omega)

theorem LeftQ.trans {B : Nat} {w w1 w2 : World} {q q1 q2 : QB} {L1 L2 : List Ent} (h1 : LeftQ B w w1 q q1 L1) (h2 : LeftQ B w1 w2 q1 q2 L2) : LeftQ B w w2 q q2 L2 :=
  ⟨h2.queue, ⟨h2.here.1.trans h1.here.1, h2.here.2.trans h1.here.2⟩, h1.kept.andThen h2.kept h1.moved, fun k hk => by
    rcases h2.moved k hk with e | e
    · exact h1.moved k e
    · exact .inr (Nat.le_trans h1.kept.size e)⟩
theorem LeftQ.perm {B : Nat} {w w1 : World} {q q1 : QB} {L1 L2 : List Ent} (h : LeftQ B w w1 q q1 L1) (hp : L1.Perm L2) : LeftQ B w w1 q q1 L2 := ⟨h.queue.perm hp, h.here, h.kept, h.moved⟩
theorem LeftQ.step {B : Nat} {w w1 w2 : World} {q q1 : QB} {L : List Ent} (h : LeftQ B w w1 q q1 L) (g : Grew w1 w2) : LeftQ B w w2 q q1 L := h.trans (LeftQ.grew h.queue g)

/-- What putOne answers. -/
def putR (L : List Ent) (x : Ent) : Int := if x.1 < 0 then 1 else if timeE x.2 ≠ 0 then timeE x.2 else if L.any (fun y => y.1 == x.1) then 15 else 0

set_option maxHeartbeats 1000000 in
theorem putOne_arg {w : World} (p : Value) (a id : Int) (h : id < 0) :
    Calls Try.prog 68 #[p, .agg #[.int .i64 a, .int .i64 id]] w fun E w' => E = .returned (.int .i64 1) ∧ Grew w w' := by
  have h0 : decide (id < 0) = true := decide_eq_true h
  go_enter Try.func68, Try.ntmps68
  go_wp2
  go_ret
  exact ⟨rfl, (Grew.refl w).alloc _⟩
set_option maxHeartbeats 1000000 in
theorem putOne_time {w : World} (p : Value) (a id e : Int) (h : ¬ id < 0) (he : timeE a = e) (hne : e ≠ 0) :
    Calls Try.prog 68 #[p, .agg #[.int .i64 a, .int .i64 id]] w fun E w' => E = .returned (.int .i64 e) ∧ Grew w w' := by
  have h0 : decide (id < 0) = false := decide_eq_false h
  have h1 : (e != 0) = true := by simpa using hne
  have h2 : (e == 0) = false := by simpa using hne
  have C1 : ∀ W, Hid (Calls Try.prog 58 #[.int .i64 a] W fun E w' => E = .returned (.int .i64 e) ∧ W = w') := fun W => by
    have := time_any a W
    rw [he] at this
    exact this
  clear he h hne
  go_enter Try.func68, Try.ntmps68
  go_wp2_with (go_at_call 58; refine (C1 _).out.mono ?_; rintro E w1 ⟨rfl, hw1⟩; subst hw1)
  go_ret
  exact ⟨rfl, (Grew.refl w).alloc _⟩

theorem boxed {w W : World} {a id : Int} (hW : w.alloc (.cells #[.int .i64 a, .int .i64 id] 37) = W) {S : Nat → Prop} {W' : World} (g : Kept S W W') (hS : ¬ S w.heap.size) : W'.cell? ⟨w.heap.size, 0, none⟩ = some (.int .i64 a) ∧ W'.cell? ⟨w.heap.size, 1, none⟩ = some (.int .i64 id) := by
  have hlt : w.heap.size < W.heap.size := by rw [← hW]; simp
  refine ⟨?_, ?_⟩
  · rw [g.cell (by exact hlt) hS, ← hW]; simp [go_sem]
  · rw [g.cell (by exact hlt) hS, ← hW]; simp [go_sem]
theorem mixedP : Try.prog.follows .mixedOrders = true := by kernel_rfl
theorem grewN (w : World) (n : Nat) : Grew w (w.drewN n) := ⟨n, #[], by rw [grow_empty]⟩

set_option maxHeartbeats 2000000 in
set_option maxRecDepth 20000 in
theorem putOne_there {B : Nat} {w : World} {q : QB} {L : List Ent} (h : Qs B w q L) (a : Int) (x : Ent) (hx : x ∈ L) (hid : ¬ x.1 < 0) (ht : timeE a = 0) :
    Calls Try.prog 68 #[.pointer (some ⟨q.qb, 0, none⟩), .agg #[.int .i64 a, .int .i64 x.1]] w fun E w' => E = .returned (.int .i64 15) ∧ Grew w w' := by
  have h0 : decide (x.1 < 0) = false := decide_eq_false hid
  have C1 : ∀ W, Hid (Calls Try.prog 58 #[.int .i64 a] W fun E w' => E = .returned (.int .i64 0) ∧ W = w') := fun W => by
    have := time_any a W
    rw [ht] at this
    exact this
  obtain ⟨W, hW⟩ : ∃ W, w.alloc (.cells #[.int .i64 a, .int .i64 x.1] 37) = W := ⟨_, rfl⟩
  have hG : Grew w W := by rw [← hW]; exact (Grew.refl w).alloc _
  have c0 := (h.grew hG).c0
  obtain ⟨k0, k1⟩ := boxed hW (Kept.refl (fun _ => False) W) id
  have C2 : ∀ n, Hid (Calls Try.prog 78 #[.pointer (some ⟨q.hu, 0, none⟩), .int .i64 x.1, .agg #[.int .i64 a, .int .i64 x.1]] (W.drewN n) fun e w' => e = .returned (.int .i64 15) ∧ Grew (W.drewN n) w') := fun n =>
    K.hs_put_there (h.grew (hG.trans (grewN W n))).up (kN x) (List.mem_map_of_mem hx) (a, x.1)
  have HG := Lib.hid hG
  generalize x.1 = id at *
  clear h hG hx hid ht
  go_enter Try.func68, Try.ntmps68
  go_wp2_with (go_at_call 58; (try rw [hW]); refine (C1 _).out.mono ?_; rintro E w1 ⟨rfl, hw1⟩; subst hw1)
  refine plain_last2 7 _ _ (Drawing W) rfl rfl rfl (by kernel_rfl) mixedP (drawing_drew W) ?_
  simp only [List.take_succ_cons, List.take_zero]
  repeat (go_big_quiet_step (fail))
  refine wpQuiet_nil ?_
  rintro _ ⟨nq, rfl⟩
  gi_wp2_with fail
  refine ⟨trivial, (callsIn_wide.2 (C2 nq).out).mono ?_⟩
  rintro e W3 ⟨rfl, g3⟩
  gi_wp2
  go_wp2
  go_ret
  exact ⟨rfl, (HG.out.trans (grewN W nq)).trans g3⟩

set_option maxHeartbeats 2000000 in
set_option maxRecDepth 20000 in
theorem putOne_ok {B : Nat} {w : World} {q : QB} {L : List Ent} (h : Qs B w q L) (hB : B ≤ w.heap.size) (a id : Int) (hid : ¬ id < 0) (hi : Is64 id) (ha : Is64 a) (ht : timeE a = 0) (hn : ∀ x ∈ L, x.1 ≠ id) (hr : L.length < 1099511627776) :
    Calls Try.prog 68 #[.pointer (some ⟨q.qb, 0, none⟩), .agg #[.int .i64 a, .int .i64 id]] w fun E w' => E = .returned (.int .i64 0) ∧ ∃ q', LeftQ B w w' q q' ((id, a) :: L) := by
  have h0 : decide (id < 0) = false := decide_eq_false hid
  have C1 : ∀ W, Hid (Calls Try.prog 58 #[.int .i64 a] W fun E w' => E = .returned (.int .i64 0) ∧ W = w') := fun W => by
    have := time_any a W
    rw [ht] at this
    exact this
  obtain ⟨W, hW⟩ : ∃ W, w.alloc (.cells #[.int .i64 a, .int .i64 id] 37) = W := ⟨_, rfl⟩
  have hG : Grew w W := by rw [← hW]; exact (Grew.refl w).alloc _
  have c0 := (h.grew hG).c0
  obtain ⟨k0, k1⟩ := boxed hW (Kept.refl (fun _ => False) W) (fun x => x)
  have hn' : ∀ x ∈ L.map kN, x.1 ≠ id := fun x hx => by
    obtain ⟨y, hy, rfl⟩ := List.mem_map.1 hx
    exact hn y hy
  have hsz : ∀ n, B ≤ (W.drewN n).heap.size := fun n => Nat.le_trans hB (hG.trans (grewN W n)).size
  have C2 : ∀ n, Hid (Calls Try.prog 78 #[.pointer (some ⟨q.hu, 0, none⟩), .int .i64 id, .agg #[.int .i64 a, .int .i64 id]] (W.drewN n) fun e w' => e = .returned (.int .i64 0) ∧ ∃ ru', K.Left K.upV K.ltK B (W.drewN n) w' q.hu q.mu q.ru ru' (((id, a) :: L).map kN)) := fun n =>
    K.hs_put (h.grew (hG.trans (grewN W n))).up (hsz n) id (a, id) ⟨by omega, hi⟩ ⟨ha, hi⟩ hn' (by rw [List.length_map]; exact hr)
  have C3 : Hid (∀ n w2 ru', K.Left K.upV K.ltK B (W.drewN n) w2 q.hu q.mu q.ru ru' (((id, a) :: L).map kN) → ∀ m, Calls Try.prog 78 #[.pointer (some ⟨q.hd, 0, none⟩), .int .i64 id, .agg #[.int .i64 a, .int .i64 id]] (w2.drewN m) fun e w' => e = .returned (.int .i64 0) ∧ ∃ q', LeftQ B w w' q q' ((id, a) :: L)) := fun n w2 ru' l1 m => by
    refine (K.hs_put (h.downAfter (hG.trans (grewN W n)) l1 (grewN w2 m)) (Nat.le_trans (hsz n) (Nat.le_trans l1.kept.size (grewN w2 m).size)) id (a, id) ⟨by omega, hi⟩ ⟨ha, hi⟩ hn' (by rw [List.length_map]; exact hr)).mono ?_
    rintro e w4 ⟨rfl, rd', l2⟩
    exact ⟨rfl, _, h.both (C := (id, a) :: L) (hG.trans (grewN W n)) l1 (grewN w2 m) l2⟩
  have C4 : Hid (∀ n w2 ru', K.Left K.upV K.ltK B (W.drewN n) w2 q.hu q.mu q.ru ru' (((id, a) :: L).map kN) → w2.cell? ⟨q.qb, 1, none⟩ = some (.pointer (some ⟨q.hd, 0, none⟩)) ∧ w2.cell? ⟨w.heap.size, 0, none⟩ = some (.int .i64 a) ∧ w2.cell? ⟨w.heap.size, 1, none⟩ = some (.int .i64 id)) := fun n w2 ru' l1 => by
    have hk : Kept (Mine q.hu q.mu q.ru) W w2 := ((grewN W n).kept _).trans l1.kept
    refine ⟨?_, boxed hW hk (fun hm => ?_)⟩
    · rw [hk.cell (by exact Nat.lt_of_lt_of_le (h.lt q.qb (.inr (.inl rfl))) hG.size) (fun hm => h.qApart (.inl hm))]
      exact (h.grew hG).c1
    · exact Nat.lt_irrefl _ (h.up.inside _ hm)
  have HG := Lib.hid hG
  clear h hG hn hn' hid ht hsz hi ha hr hB
  go_enter Try.func68, Try.ntmps68
  go_wp2_with (go_at_call 58; (try rw [hW]); refine (C1 _).out.mono ?_; rintro E w1 ⟨rfl, hw1⟩; subst hw1)
  refine plain_last2 7 _ _ (Drawing W) rfl rfl rfl (by kernel_rfl) mixedP (drawing_drew W) ?_
  simp only [List.take_succ_cons, List.take_zero]
  repeat (go_big_quiet_step (fail))
  refine wpQuiet_nil ?_
  rintro _ ⟨nq, rfl⟩
  gi_wp2_with fail
  refine ⟨trivial, (callsIn_wide.2 (C2 nq).out).mono ?_⟩
  rintro e W3 ⟨rfl, ru', l1⟩
  obtain ⟨d1, d2, d3⟩ := C4.out nq W3 ru' l1
  have C5 := Lib.hid (C3.out nq W3 ru' l1)
  clear l1 c0 k0 k1
  gi_wp2
  go_wp2_with fail
  refine plain_last2 7 _ _ (Drawing W3) rfl rfl rfl (by kernel_rfl) mixedP (drawing_drew W3) ?_
  simp only [List.take_succ_cons, List.take_zero]
  repeat (go_big_quiet_step (fail))
  refine wpQuiet_nil ?_
  rintro _ ⟨mq, rfl⟩
  gi_wp2_with fail
  refine ⟨trivial, (callsIn_wide.2 (C5.out mq)).mono ?_⟩
  rintro e W4 ⟨rfl, q', l2⟩
  gi_wp2
  go_wp2
  go_ret
  exact ⟨rfl, q', l2⟩

theorem putOne_any {B : Nat} {w : World} {q : QB} {L : List Ent} (h : Qs B w q L) (hB : B ≤ w.heap.size) (x : Ent) (hx : Is64 x.1 ∧ Is64 x.2) (hr : L.length < 1099511627776) :
    Calls Try.prog 68 #[.pointer (some ⟨q.qb, 0, none⟩), .agg #[.int .i64 x.2, .int .i64 x.1]] w fun E w' => E = .returned (.int .i64 (putR L x)) ∧ ∃ q', LeftQ B w w' q q' (if putR L x = 0 then x :: L else L) := by
  by_cases h1 : x.1 < 0
  · have e : putR L x = 1 := if_pos h1
    rw [e]
    refine (putOne_arg _ x.2 x.1 h1).mono ?_
    rintro E w' ⟨rfl, g⟩
    exact ⟨rfl, q, LeftQ.grew h g⟩
  by_cases h2 : timeE x.2 ≠ 0
  · have e : putR L x = timeE x.2 := by unfold putR; rw [if_neg h1, if_pos h2]
    rw [e, if_neg h2]
    refine (putOne_time _ x.2 x.1 _ h1 rfl h2).mono ?_
    rintro E w' ⟨rfl, g⟩
    exact ⟨rfl, q, LeftQ.grew h g⟩
  have h2' : timeE x.2 = 0 := Decidable.not_not.1 h2
  by_cases h3 : L.any (fun y => y.1 == x.1) = true
  · have e : putR L x = 15 := by unfold putR; rw [if_neg h1, if_neg h2, if_pos h3]
    rw [e]
    obtain ⟨y, hy, e⟩ := List.any_eq_true.1 h3
    have e : y.1 = x.1 := by simpa using e
    rw [← e]
    refine (putOne_there h x.2 y hy (by rw [e]; exact h1) h2').mono ?_
    rintro E w' ⟨rfl, g⟩
    exact ⟨rfl, q, LeftQ.grew h g⟩
  · have e : putR L x = 0 := by unfold putR; rw [if_neg h1, if_neg h2, if_neg h3]
    rw [e, if_pos rfl]
    exact putOne_ok h hB x.2 x.1 h1 hx.1 hx.2 h2' (fun y hy e => h3 (List.any_eq_true.2 ⟨y, hy, by simpa using e⟩)) hr
end Go.Proofs.Ytcipilggddpnpaa

/-
  ready.Queue: First, Last, Drop, Move.
-/
namespace Go.Proofs.Ytcipilggddpnpaa
open Go.RowKit Go.Sort Go.Shelf Go.Maps
set_option linter.unusedVariables false
set_option linter.unusedSimpArgs false

set_option maxHeartbeats 1000000 in
set_option maxRecDepth 20000 in
theorem first_core {B : Nat} {w : World} {q : QB} {L : List Ent} (h : Qs B w q L) (i a b e : Int)
    (hc : ∀ W, Grew w W → Calls Try.prog 55 #[.pointer (some ⟨q.hu, 0, none⟩)] W fun E w' => E = .returned (.tuple #[.int .i64 i, .agg #[.int .i64 a, .int .i64 b], .int .i64 e]) ∧ Grew W w') :
    Calls Try.prog 28 #[.pointer (some ⟨q.qb, 0, none⟩)] w fun E w' => E = .returned (.tuple #[.agg #[.int .i64 a, .int .i64 b], .int .i64 e]) ∧ Grew w w' := by
  obtain ⟨W, hW⟩ : ∃ W, w.alloc (.cells #[.int .i64 0, .int .i64 0] 37) = W := ⟨_, rfl⟩
  have hG : Grew w W := by rw [← hW]; exact (Grew.refl w).alloc _
  have C1 := Lib.hid (fromFirst_any (h.grew hG))
  have C2 := Lib.hid (hc W hG)
  have hlt : w.heap.size < W.heap.size := by rw [← hW]; simp
  have RK : Hid (∀ W', Grew W W' → w.heap.size < W'.heap.size ∧ W'.cell? ⟨w.heap.size, 0, none⟩ = some (.int .i64 0) ∧ W'.cell? ⟨w.heap.size, 1, none⟩ = some (.int .i64 0) ∧ W'.frozen? ⟨w.heap.size, 0, none⟩ = false ∧ W'.frozen? ⟨w.heap.size, 1, none⟩ = false) := fun W' g => ⟨Nat.lt_of_lt_of_le hlt g.size, res_key hW g⟩
  have HG := Lib.hid hG
  clear h hG hc hlt
  go_enter Try.func28, Try.ntmps28
  go_wp2_with (first | (go_at_call 50; (try rw [hW]); (with_reducible refine C1.out.mono ?_); rintro E w1 ⟨rfl, hw1⟩; subst hw1) | (go_at_call 55; (with_reducible refine C2.out.mono ?_); rintro E w2 ⟨rfl, g2⟩; obtain ⟨x0, x1, x2, x3, x4⟩ := RK.out w2 g2; have x5 := Nat.ne_of_lt x0; have x6 := Nat.ne_of_gt x0; have G2 := Lib.hid g2; clear g2))
  refine bodyPost_ret (v := .tuple #[.agg #[.int .i64 a, .int .i64 b], .int .i64 e]) (by simp [results, Try.f28, go_sem, x0, x1, x2, x5, x6]) rfl ⟨rfl, ?_⟩
  exact (((HG.out.trans G2.out).setCell (Nat.le_refl _) _).setCell (Nat.le_refl _) _).alloc _
set_option maxHeartbeats 1000000 in
set_option maxRecDepth 20000 in
theorem last_core {B : Nat} {w : World} {q : QB} {L : List Ent} (h : Qs B w q L) (i a b e : Int)
    (hc : ∀ W, Grew w W → Calls Try.prog 55 #[.pointer (some ⟨q.hd, 0, none⟩)] W fun E w' => E = .returned (.tuple #[.int .i64 i, .agg #[.int .i64 a, .int .i64 b], .int .i64 e]) ∧ Grew W w') :
    Calls Try.prog 29 #[.pointer (some ⟨q.qb, 0, none⟩)] w fun E w' => E = .returned (.tuple #[.agg #[.int .i64 a, .int .i64 b], .int .i64 e]) ∧ Grew w w' := by
  obtain ⟨W, hW⟩ : ∃ W, w.alloc (.cells #[.int .i64 0, .int .i64 0] 37) = W := ⟨_, rfl⟩
  have hG : Grew w W := by rw [← hW]; exact (Grew.refl w).alloc _
  have C1 := Lib.hid (fromLast_any (h.grew hG))
  have C2 := Lib.hid (hc W hG)
  have hlt : w.heap.size < W.heap.size := by rw [← hW]; simp
  have RK : Hid (∀ W', Grew W W' → w.heap.size < W'.heap.size ∧ W'.cell? ⟨w.heap.size, 0, none⟩ = some (.int .i64 0) ∧ W'.cell? ⟨w.heap.size, 1, none⟩ = some (.int .i64 0) ∧ W'.frozen? ⟨w.heap.size, 0, none⟩ = false ∧ W'.frozen? ⟨w.heap.size, 1, none⟩ = false) := fun W' g => ⟨Nat.lt_of_lt_of_le hlt g.size, res_key hW g⟩
  have HG := Lib.hid hG
  clear h hG hc hlt
  go_enter Try.func29, Try.ntmps29
  go_wp2_with (first | (go_at_call 56; (try rw [hW]); (with_reducible refine C1.out.mono ?_); rintro E w1 ⟨rfl, hw1⟩; subst hw1) | (go_at_call 55; (with_reducible refine C2.out.mono ?_); rintro E w2 ⟨rfl, g2⟩; obtain ⟨x0, x1, x2, x3, x4⟩ := RK.out w2 g2; have x5 := Nat.ne_of_lt x0; have x6 := Nat.ne_of_gt x0; have G2 := Lib.hid g2; clear g2))
  refine bodyPost_ret (v := .tuple #[.agg #[.int .i64 a, .int .i64 b], .int .i64 e]) (by simp [results, Try.f29, go_sem, x0, x1, x2, x5, x6]) rfl ⟨rfl, ?_⟩
  exact (((HG.out.trans G2.out).setCell (Nat.le_refl _) _).setCell (Nat.le_refl _) _).alloc _

/-- x is ahead of all others of L. -/
def IsFirst (L : List Ent) (x : Ent) : Prop := x ∈ L ∧ ∀ y ∈ L, y ≠ x → ah x y = true
/-- .. behind. -/
def IsLast (L : List Ent) (x : Ent) : Prop := x ∈ L ∧ ∀ y ∈ L, y ≠ x → ah y x = true

theorem qfirst_nil {B : Nat} {w : World} {q : QB} (h : Qs B w q []) :
    Calls Try.prog 28 #[.pointer (some ⟨q.qb, 0, none⟩)] w fun E w' => E = .returned (.tuple #[.agg #[.int .i64 0, .int .i64 0], .int .i64 14]) ∧ Grew w w' :=
  first_core h 0 0 0 14 (fun W g => K.hs_peek_nil (h.grew g).up)
theorem qlast_nil {B : Nat} {w : World} {q : QB} (h : Qs B w q []) :
    Calls Try.prog 29 #[.pointer (some ⟨q.qb, 0, none⟩)] w fun E w' => E = .returned (.tuple #[.agg #[.int .i64 0, .int .i64 0], .int .i64 14]) ∧ Grew w w' :=
  last_core h 0 0 0 14 (fun W g => K.hs_peek_nil (h.grew g).down)
theorem qfirst_any {B : Nat} {w : World} {q : QB} {L : List Ent} (h : Qs B w q L) (m : Ent) (hm : IsFirst L m) :
    Calls Try.prog 28 #[.pointer (some ⟨q.qb, 0, none⟩)] w fun E w' => E = .returned (.tuple #[.agg #[.int .i64 m.2, .int .i64 m.1], .int .i64 0]) ∧ Grew w w' :=
  first_core h m.1 m.2 m.1 0 (fun W g => K.hs_peek (h.grew g).up (kN m) (List.mem_map_of_mem hm.1) (fun y hy hne => by
    obtain ⟨x, hx, rfl⟩ := List.mem_map.1 hy
    rw [ahd_up]
    exact hm.2 x hx (fun e => hne (by rw [e]))))
theorem qlast_any {B : Nat} {w : World} {q : QB} {L : List Ent} (h : Qs B w q L) (m : Ent) (hm : IsLast L m) :
    Calls Try.prog 29 #[.pointer (some ⟨q.qb, 0, none⟩)] w fun E w' => E = .returned (.tuple #[.agg #[.int .i64 m.2, .int .i64 m.1], .int .i64 0]) ∧ Grew w w' :=
  last_core h m.1 m.2 m.1 0 (fun W g => K.hs_peek (h.grew g).down (kN m) (List.mem_map_of_mem hm.1) (fun y hy hne => by
    obtain ⟨x, hx, rfl⟩ := List.mem_map.1 hy
    rw [ahd_down]
    exact hm.2 x hx (fun e => hne (by rw [e]))))

theorem K.Left.perm {fv : Value} {lt : K.Ky → K.Ky → Bool} {B : Nat} {w w' : World} {hb mb : Nat} {ro ro' : Option Nat} {C C' : List K.Ent} (h : K.Left fv lt B w w' hb mb ro ro' C) (hp : C.Perm C') : K.Left fv lt B w w' hb mb ro ro' C' := ⟨h.heap.perm hp, h.kept, h.moved⟩
theorem erase_kN {L : List Ent} {m : Ent} (hm : m ∈ L) : ((L.map kN).erase (kN m)).Perm ((L.erase m).map kN) :=
  List.Perm.cons_inv (a := kN m) ((List.perm_cons_erase (List.mem_map_of_mem hm)).symm.trans ((List.perm_cons_erase hm).map kN))

theorem LeftQ.setNew {B : Nat} {w w' : World} {q : QB} {L L0 : List Ent} (h : LeftQ B w w' q q L) (h0 : Qs B w q L0) {p : Addr} (hp : w.heap.size ≤ p.block) (v : Value) : LeftQ B w (w'.setCell p v) q q L :=
  ⟨h.queue.kept ((Kept.refl (fun k => k = p.block) w').setCell (.inl rfl) v) (fun b hb e => by have := h0.lt b hb; omega), ⟨rfl, rfl⟩, h.kept.setCell (.inr hp) v, fun _ x => .inl x⟩

set_option maxHeartbeats 2000000 in
set_option maxRecDepth 20000 in
theorem qdrop_none {B : Nat} {w : World} {q : QB} {L : List Ent} (h : Qs B w q L) (id : Int) (hid : Is64 id) (hn : ∀ x ∈ L, x.1 ≠ id) :
    Calls Try.prog 48 #[.pointer (some ⟨q.qb, 0, none⟩), .int .i64 id] w fun E w' => E = .returned (.tuple #[.agg #[.int .i64 0, .int .i64 0], .int .i64 14]) ∧ Grew w w' := by
  obtain ⟨W, hW⟩ : ∃ W, w.alloc (.cells #[.int .i64 0, .int .i64 0] 37) = W := ⟨_, rfl⟩
  have hG : Grew w W := by rw [← hW]; exact (Grew.refl w).alloc _
  have C1 := Lib.hid (qget_none (h.grew hG) id hid hn)
  have hlt : w.heap.size < W.heap.size := by rw [← hW]; simp
  have RK : Hid (∀ W', Grew W W' → w.heap.size < W'.heap.size ∧ W'.cell? ⟨w.heap.size, 0, none⟩ = some (.int .i64 0) ∧ W'.cell? ⟨w.heap.size, 1, none⟩ = some (.int .i64 0) ∧ W'.frozen? ⟨w.heap.size, 0, none⟩ = false ∧ W'.frozen? ⟨w.heap.size, 1, none⟩ = false) := fun W' g => ⟨Nat.lt_of_lt_of_le hlt g.size, res_key hW g⟩
  have HG := Lib.hid hG
  clear h hG hn hlt hid
  go_enter Try.func48, Try.ntmps48
  go_wp2_with (go_at_call 30; (try rw [hW]); (with_reducible refine C1.out.mono ?_); rintro E w2 ⟨rfl, g2⟩; obtain ⟨x0, x1, x2, x3, x4⟩ := RK.out w2 g2; have x5 := Nat.ne_of_lt x0; have x6 := Nat.ne_of_gt x0; have G2 := Lib.hid g2; clear g2)
  refine bodyPost_ret (v := .tuple #[.agg #[.int .i64 0, .int .i64 0], .int .i64 14]) (by simp [results, Try.f48, go_sem, x0, x1, x2, x5, x6]) rfl ⟨rfl, ?_⟩
  exact (((HG.out.trans G2.out).setCell (Nat.le_refl _) _).setCell (Nat.le_refl _) _).alloc _

set_option maxHeartbeats 2000000 in
set_option maxRecDepth 20000 in
theorem qdrop_there {B : Nat} {w : World} {q : QB} {L : List Ent} (h : Qs B w q L) (m : Ent) (hm : m ∈ L) :
    Calls Try.prog 48 #[.pointer (some ⟨q.qb, 0, none⟩), .int .i64 m.1] w fun E w' => E = .returned (.tuple #[.agg #[.int .i64 m.2, .int .i64 m.1], .int .i64 0]) ∧ LeftQ B w w' q q (L.erase m) := by
  obtain ⟨W, hW⟩ : ∃ W, w.alloc (.cells #[.int .i64 0, .int .i64 0] 37) = W := ⟨_, rfl⟩
  have hG : Grew w W := by rw [← hW]; exact (Grew.refl w).alloc _
  have C1 := Lib.hid (qget_there (h.grew hG) m hm)
  have hlt : w.heap.size < W.heap.size := by rw [← hW]; simp
  have Q0 : Hid (∀ W', Grew W W' → W'.cell? ⟨q.qb, 0, none⟩ = some (.pointer (some ⟨q.hu, 0, none⟩)) ∧ q.qb < W'.heap.size) := fun W' g => ⟨((h.grew hG).grew g).c0, ((h.grew hG).grew g).lt _ (.inr (.inl rfl))⟩
  have C2 : Hid (∀ W', Grew W W' → Calls Try.prog 73 #[.pointer (some ⟨q.hu, 0, none⟩), .int .i64 m.1] W' fun e w' => e = .returned (.tuple #[.agg #[.int .i64 m.2, .int .i64 m.1], .int .i64 0]) ∧ K.Left K.upV K.ltK B W' w' q.hu q.mu q.ru q.ru ((L.erase m).map kN)) := fun W' g => by
    refine (K.hs_drop ((h.grew hG).grew g).up (kN m) (List.mem_map_of_mem hm)).mono ?_
    rintro e w' ⟨rfl, l⟩
    exact ⟨rfl, l.perm (erase_kN hm)⟩
  have C3 : Hid (∀ W' w2, Grew W W' → K.Left K.upV K.ltK B W' w2 q.hu q.mu q.ru q.ru ((L.erase m).map kN) → Calls Try.prog 73 #[.pointer (some ⟨q.hd, 0, none⟩), .int .i64 m.1] w2 fun e w' => e = .returned (.tuple #[.agg #[.int .i64 m.2, .int .i64 m.1], .int .i64 0]) ∧ LeftQ B W w' q q (L.erase m)) := fun W' w2 g l1 => by
    refine (K.hs_drop ((h.grew hG).downAfter g l1 (Grew.refl w2)) (kN m) (List.mem_map_of_mem hm)).mono ?_
    rintro e w' ⟨rfl, l⟩
    exact ⟨rfl, (h.grew hG).both g l1 (Grew.refl w2) (l.perm (erase_kN hm))⟩
  have Q1 : Hid (∀ W' w2, Grew W W' → K.Left K.upV K.ltK B W' w2 q.hu q.mu q.ru q.ru ((L.erase m).map kN) → w2.cell? ⟨q.qb, 1, none⟩ = some (.pointer (some ⟨q.hd, 0, none⟩))) := fun W' w2 g l1 => by
    have h' := (h.grew hG).grew g
    rw [l1.kept.cell (by exact h'.lt q.qb (.inr (.inl rfl))) (fun hm => h.qApart (.inl hm))]
    exact h'.c1
  have R1 : Hid (∀ w3, LeftQ B W w3 q q (L.erase m) → w3.cell? ⟨w.heap.size, 0, none⟩ = some (.int .i64 0) ∧ w3.cell? ⟨w.heap.size, 1, none⟩ = some (.int .i64 0) ∧ w3.frozen? ⟨w.heap.size, 0, none⟩ = false ∧ w3.frozen? ⟨w.heap.size, 1, none⟩ = false ∧ ∀ u v, LeftQ B w ((w3.setCell ⟨w.heap.size, 0, none⟩ u).setCell ⟨w.heap.size, 1, none⟩ v) q q (L.erase m)) := fun w3 l => by
    have hno : ¬ q.turns w.heap.size := fun x => Nat.lt_irrefl _ (h.lt _ (.inl x))
    obtain ⟨x1, x2, x3, x4⟩ := res_key hW (Grew.refl W)
    refine ⟨?_, ?_, ?_, ?_, fun u v => ?_⟩
    · rw [l.kept.cell (by exact hlt) hno]; exact x1
    · rw [l.kept.cell (by exact hlt) hno]; exact x2
    · rw [l.kept.frozen (by exact hlt) hno]; exact x3
    · rw [l.kept.frozen (by exact hlt) hno]; exact x4
    · have l' : LeftQ B w w3 q q (L.erase m) := ⟨l.queue, ⟨rfl, rfl⟩, (hG.kept _).trans l.kept, fun _ x => .inl x⟩
      exact (l'.setNew h (Nat.le_refl _) u).setNew h (Nat.le_refl _) v
  have HG := Lib.hid hG
  clear h hG hm
  generalize m.1 = id at *
  generalize m.2 = a at *
  generalize L.erase m = L2 at *
  go_enter Try.func48, Try.ntmps48
  go_wp2_with (first | (go_at_call 30; (try rw [hW]); (with_reducible refine C1.out.mono ?_); rintro E w2 ⟨rfl, g2⟩; obtain ⟨x1, x0⟩ := Q0.out w2 g2; have x5 := Nat.ne_of_lt x0; have x6 := Nat.ne_of_gt x0; have G2 := Lib.hid g2; clear g2) | fail)
  refine (C2.out _ (G2.out.alloc _)).mono ?_
  rintro E w3 ⟨rfl, l1⟩
  have c1 := Q1.out _ w3 (G2.out.alloc _) l1
  have C4 := Lib.hid (C3.out _ w3 (G2.out.alloc _) l1)
  clear l1
  go_wp2_with fail
  refine C4.out.mono ?_
  rintro E w4 ⟨rfl, l2⟩
  obtain ⟨y1, y2, y3, y4, l3⟩ := R1.out w4 l2
  have L3 := Lib.hid l3
  clear l2 l3
  go_wp2
  refine bodyPost_ret (v := .tuple #[.agg #[.int .i64 a, .int .i64 id], .int .i64 0]) (by simp [results, Try.f48, go_sem, y1, y2]) rfl ⟨rfl, ?_⟩
  exact L3.out _ _
end Go.Proofs.Ytcipilggddpnpaa

/-
  ready.Queue: takeBack, Put.
-/
namespace Go.Proofs.Ytcipilggddpnpaa
open Go.RowKit Go.Sort Go.Shelf Go.Maps
set_option linter.unusedVariables false
set_option linter.unusedSimpArgs false

/-- The keys l (numbers with their times) lie at a. -/
def KeysAt (w : World) (a : Option Addr) (l : List Ent) : Prop :=
  l.length = 0 ∨ ∃ g o, a = some ⟨g, o, none⟩ ∧ g < w.heap.size ∧ ∀ i, i < l.length → (w.cell? ⟨g, o + i * 2, none⟩ = some (.int .i64 (l.getD i (0, 0)).2) ∧ w.cell? ⟨g, o + i * 2 + 1, none⟩ = some (.int .i64 (l.getD i (0, 0)).1)) ∧ Is64 (l.getD i (0, 0)).1 ∧ Is64 (l.getD i (0, 0)).2
/-- Its block is none that S has. -/
def Off (a : Option Addr) (S : Nat → Prop) : Prop := ∀ x, a = some x → ¬ S x.block
theorem KeysAt.kept {w w' : World} {a : Option Addr} {l : List Ent} {S : Nat → Prop} (h : KeysAt w a l) (k : Kept S w w') (hs : Off a S) : KeysAt w' a l := by
  rcases h with h | ⟨g, o, rfl, hg, hc⟩
  · exact .inl h
  · refine .inr ⟨g, o, rfl, Nat.lt_of_lt_of_le hg k.size, fun i hi => ?_⟩
    obtain ⟨⟨h1, h2⟩, h3⟩ := hc i hi
    exact ⟨⟨(k.cell (p := ⟨g, o + i * 2, none⟩) hg (hs ⟨g, o, none⟩ rfl)).trans h1, (k.cell (p := ⟨g, o + i * 2 + 1, none⟩) hg (hs ⟨g, o, none⟩ rfl)).trans h2⟩, h3⟩
theorem KeysAt.take {w : World} {a : Option Addr} {l : List Ent} (h : KeysAt w a l) (n : Nat) : KeysAt w a (l.take n) := by
  rcases h with h | ⟨g, o, rfl, hg, hc⟩
  · exact .inl (by rw [List.length_take]; omega)
  · refine .inr ⟨g, o, rfl, hg, fun i hi => ?_⟩
    rw [List.length_take] at hi
    have e : (l.take n).getD i (0, 0) = l.getD i (0, 0) := by
      rw [List.getD_eq_getElem?_getD, List.getD_eq_getElem?_getD, List.getElem?_take, if_pos (by omega)]
    rw [e]
    exact hc i (by omega)

theorem take_getD {l : List Ent} {i : Nat} (h : i < l.length) : (l.take (i + 1)).reverse = l.getD i (0, 0) :: (l.take i).reverse := by
  rw [List.take_add_one, List.getD_eq_getElem?_getD, List.getElem?_eq_getElem h]
  simp

set_option maxHeartbeats 2000000 in
set_option maxRecDepth 20000 in
/-- takeBack: what is there but for l stays. -/
theorem takeBack_any {B : Nat} {w : World} {q : QB} {L l : List Ent} (h : Qs B w q (l ++ L)) (a : Option Addr) (cap : Nat) (hl : KeysAt w a l) (ha : Off a q.turns) (hn : l.length < 1099511627776) :
    Calls Try.prog 69 #[.pointer (some ⟨q.qb, 0, none⟩), .slice a l.length cap] w fun E w' => E = .returned (.tuple #[]) ∧ LeftQ B w w' q q L := by
  have H1 : Hid (LeftQ B w w q q (l.drop 0 ++ L)) := LeftQ.grew h (Grew.refl w)
  have HL : Hid (KeysAt w a l ∧ Off a q.turns) := ⟨hl, ha⟩
  clear h hl ha
  obtain ⟨n, hn0⟩ : ∃ n, l.length = n := ⟨_, rfl⟩
  have HN := Lib.hid hn0
  rw [hn0] at hn ⊢
  clear hn0
  go_enter Try.func69, Try.ntmps69
  go_wp2
  go_loopg [8] n (fun gk s wr => ∃ i : Nat, s = .int .i64 i ∧ i ≤ n ∧ n - i ≤ gk ∧ Hid (LeftQ B w wr q q (l.drop i ++ L)))
  case atStart => exact ⟨0, rfl, Nat.zero_le _, Nat.le_refl _, H1.out⟩
  case round =>
    rename World => W2
    obtain ⟨i, rfl, hin, hgk, HR⟩ := hrel
    by_cases hi : i < n
    · have hi' : decide ((i : Int) < (n : Int)) = true := decide_eq_true (by omega)
      have hiz : (i : Int) < (n : Int) := by omega
      have q4 : IntKind.i64.wrap ((i : Int) + 1) = (i : Int) + 1 := by rw [IntKind.wrap_i64]; omega
      have hi2 : i < l.length := by rw [HN.out]; exact hi
      have hR := HR.out
      rcases HL.out.1.kept hR.kept HL.out.2 with h | ⟨g, o, rfl, hg, hc⟩
      · rw [HN.out] at h; omega
      obtain ⟨⟨c1, c2⟩, hx⟩ := hc i hi2
      have e0 : l.drop i ++ L = l.getD i (0, 0) :: (l.drop (i + 1) ++ L) := by rw [drop_getD hi2]; rfl
      have CD : Hid (∀ W3, Grew W2 W3 → Calls Try.prog 48 #[.pointer (some ⟨q.qb, 0, none⟩), .int .i64 (l.getD i (0, 0)).1] W3 fun E w' => (∃ v, E = .returned v) ∧ LeftQ B w w' q q (l.drop (i + 1) ++ L)) := fun W3 g3 => by
        have h3 := hR.step g3
        rw [e0] at h3
        refine (qdrop_there h3.queue (l.getD i (0, 0)) (List.mem_cons_self ..)).mono ?_
        rintro E w' ⟨rfl, l'⟩
        rw [List.erase_cons_head] at l'
        exact ⟨⟨_, rfl⟩, h3.trans l'⟩
      clear hc hx hR HR H1 e0
      generalize (l.getD i (0, 0)).1 = id at *
      generalize (l.getD i (0, 0)).2 = t at *
      go_wp2_with fail
      refine (CD.out _ ((Grew.refl W2).alloc _)).mono ?_
      rintro E W4 ⟨⟨v, rfl⟩, h4⟩
      have H4 := Lib.hid h4
      clear h4
      go_wp2
      go_roundg (n - (i + 1))
      case measure => omega
      case rel => exact ⟨i + 1, by go_num, by omega, Nat.le_refl _, (show Hid _ from H4.out)⟩
    · obtain rfl : i = n := by omega
      have hi' : decide ((i : Int) < (i : Int)) = false := decide_eq_false (by omega)
      go_wp2
      go_end0
      have hR := HR.out
      rw [List.drop_of_length_le (by rw [HN.out]; exact Nat.le_refl _), List.nil_append] at hR
      exact ⟨rfl, hR⟩

/-- What Put answers. -/
def putsR : List Ent → List Ent → Int
  | _, [] => 0
  | L, x :: r => if putR L x = 0 then putsR (x :: L) r else putR L x
/-- .. and leaves. -/
def putsL (L l : List Ent) : List Ent := if putsR L l = 0 then l.reverse ++ L else L

set_option maxHeartbeats 2000000 in
set_option maxRecDepth 20000 in
theorem qput_gen {B : Nat} {w : World} {q : QB} {L l : List Ent} (h : Qs B w q L) (hB : B ≤ w.heap.size) (a : Option Addr) (cap : Nat) (hl : KeysAt w a l) (ha : l.length ≠ 0 → Off a q.turns) (hcap : l.length ≤ cap) (hr : L.length + l.length < 1099511627776) :
    Calls Try.prog 44 #[.pointer (some ⟨q.qb, 0, none⟩), .slice a l.length cap] w fun E w' => E = .returned (.int .i64 (putsR L l)) ∧ ∃ q', LeftQ B w w' q q' (putsL L l) := by
  have H1 : Hid (∃ q', LeftQ B w w q q' ((l.take 0).reverse ++ L) ∧ putsR L l = putsR ((l.take 0).reverse ++ L) (l.drop 0)) := ⟨q, LeftQ.grew h (Grew.refl w), rfl⟩
  have HL : Hid (KeysAt w a l ∧ (l.length ≠ 0 → Off a q.turns) ∧ B ≤ w.heap.size ∧ L.length + l.length < 1099511627776) := ⟨hl, ha, hB, hr⟩
  clear h hl ha hB
  obtain ⟨r, er⟩ : ∃ r, putsR L l = r := ⟨_, rfl⟩
  obtain ⟨M, eM⟩ : ∃ M, putsL L l = M := ⟨_, rfl⟩
  rw [er, eM]
  have ER : Hid (putsR L l = r ∧ putsL L l = M) := ⟨er, eM⟩
  clear er eM
  obtain ⟨n, hn0⟩ : ∃ n, l.length = n := ⟨_, rfl⟩
  have HN := Lib.hid hn0
  rw [hn0] at hcap hr ⊢
  clear hn0
  have hn : n < 1099511627776 := by omega
  clear hr
  go_enter Try.func44, Try.ntmps44
  go_wp2
  go_loopg [12] n (fun gk s wr => ∃ i : Nat, s = .int .i64 i ∧ i ≤ n ∧ n - i ≤ gk ∧ Hid (∃ q', LeftQ B w wr q q' ((l.take i).reverse ++ L) ∧ putsR L l = putsR ((l.take i).reverse ++ L) (l.drop i)))
  case atStart => exact ⟨0, rfl, Nat.zero_le _, Nat.le_refl _, H1.out⟩
  case round =>
    rename World => W2
    obtain ⟨i, rfl, hin, hgk, HR⟩ := hrel
    by_cases hi : i < n
    · have hi' : decide ((i : Int) < (n : Int)) = true := decide_eq_true (by omega)
      have hiz : (i : Int) < (n : Int) := by omega
      have q4 : IntKind.i64.wrap ((i : Int) + 1) = (i : Int) + 1 := by rw [IntKind.wrap_i64]; omega
      have hi2 : i < l.length := by rw [HN.out]; exact hi
      obtain ⟨q1, hR, hs⟩ := HR.out
      obtain ⟨hl, ha0, hB, hr⟩ := HL.out
      have ha : Off a q.turns := ha0 (by omega)
      have hl2 := hl.kept hR.kept ha
      have ha2 : Off a q1.turns := fun x e hx => by
        rcases hR.moved _ hx with y | y
        · exact ha x e y
        · rcases hl with z | ⟨g, o, e2, hg, _⟩
          · omega
          · rw [e] at e2
            cases e2
            exact absurd hg (by exact Nat.not_lt.2 y)
      have hl3 := hl2
      rcases hl2 with h | ⟨g, o, rfl, hg, hc⟩
      · rw [HN.out] at h; omega
      obtain ⟨⟨c1, c2⟩, hx⟩ := hc i hi2
      rw [drop_getD hi2] at hs
      have e1 := take_getD hi2
      have hlen : ((l.take i).reverse ++ L).length < 1099511627776 := by
        rw [List.length_append, List.length_reverse, List.length_take]; omega
      have CP : Hid (∀ W3, Grew W2 W3 → Calls Try.prog 68 #[.pointer (some ⟨q.qb, 0, none⟩), .agg #[.int .i64 (l.getD i (0, 0)).2, .int .i64 (l.getD i (0, 0)).1]] W3 fun E w' => E = .returned (.int .i64 (putR ((l.take i).reverse ++ L) (l.getD i (0, 0)))) ∧ ∃ q', LeftQ B w w' q q' (if putR ((l.take i).reverse ++ L) (l.getD i (0, 0)) = 0 then l.getD i (0, 0) :: ((l.take i).reverse ++ L) else ((l.take i).reverse ++ L)) ∧ Off (some ⟨g, o, none⟩) q'.turns ∧ KeysAt w' (some ⟨g, o, none⟩) l) := fun W3 g3 => by
        have h3 := hR.step g3
        have := putOne_any h3.queue (Nat.le_trans hB h3.kept.size) (l.getD i (0, 0)) hx hlen
        rw [hR.here.1] at this
        refine this.mono ?_
        rintro E w' ⟨rfl, q', l'⟩
        refine ⟨rfl, q', h3.trans l', fun x e hx => ?_, (hl3.kept (g3.kept _) ha2).kept l'.kept ha2⟩
        rcases l'.moved _ hx with y | y
        · exact ha2 x e y
        · cases e
          have := g3.size
          exact absurd hg (by simp only [Nat.not_lt]; exact Nat.le_trans this y)
      by_cases hp : putR ((l.take i).reverse ++ L) (l.getD i (0, 0)) = 0
      · have fin : Hid (∀ q' w', LeftQ B w w' q q' (l.getD i (0, 0) :: ((l.take i).reverse ++ L)) → ∃ q', LeftQ B w w' q q' ((l.take (i + 1)).reverse ++ L) ∧ putsR L l = putsR ((l.take (i + 1)).reverse ++ L) (l.drop (i + 1))) := fun q' w' l' => by
          refine ⟨q', ?_, ?_⟩
          · rw [e1]; exact l'
          · rw [e1, hs]
            show (if putR _ _ = 0 then _ else _) = _
            rw [if_pos hp]
            rfl
        simp only [hp, if_true] at CP
        clear hc hx hR HR H1 hs e1 hl hl3 ha2 hlen HL hp
        generalize l.getD i (0, 0) = x at *
        obtain ⟨id, t⟩ := x
        simp only [] at *
        go_wp2_with fail
        refine (CP.out _ ((Grew.refl W2).alloc _)).mono ?_
        rintro E W4 ⟨rfl, q', l4, _⟩
        have H4 := Lib.hid (fin.out q' W4 l4)
        clear l4 fin
        go_wp2
        go_roundg (n - (i + 1))
        case measure => omega
        case rel => exact ⟨i + 1, by go_num, by omega, Nat.le_refl _, (show Hid _ from H4.out)⟩
      · have CT : Hid (∀ q' w', LeftQ B w w' q q' ((l.take i).reverse ++ L) → Off (some ⟨g, o, none⟩) q'.turns → KeysAt w' (some ⟨g, o, none⟩) l → Calls Try.prog 69 #[.pointer (some ⟨q.qb, 0, none⟩), .slice (some ⟨g, o, none⟩) i cap] w' fun E w2 => E = .returned (.tuple #[]) ∧ LeftQ B w w2 q q' L) := fun q' w' l' o' k' => by
          have hq := l'.queue.perm (L' := l.take i ++ L) ((List.reverse_perm _).append_right _)
          have := takeBack_any hq (some ⟨g, o, none⟩) cap (k'.take i) o' (by rw [List.length_take]; omega)
          rw [List.length_take, Nat.min_eq_left (by omega), l'.here.1] at this
          refine this.mono ?_
          rintro E w2 ⟨rfl, l2⟩
          exact ⟨rfl, l'.trans l2⟩
        have he : putsR L l = putR ((l.take i).reverse ++ L) (l.getD i (0, 0)) := by
          rw [hs]
          show (if putR _ _ = 0 then _ else _) = _
          rw [if_neg hp]
        have hne : putsR L l ≠ 0 := by rw [he]; exact hp
        simp only [hp, if_false] at CP
        rw [← he, ER.out.1] at CP
        have EL : Hid (M = L) := ER.out.2.symm.trans (if_neg hne)
        rw [ER.out.1] at hne
        have t1 : (r != 0) = true := by simpa using hne
        have t2 : (r == 0) = false := by simpa using hne
        have hic : i ≤ cap := by omega
        have hic' : (i : Int) ≤ (cap : Int) := by omega
        clear hc hx hR HR H1 hs e1 hl hl3 ha2 hlen HL hp he hne
        generalize l.getD i (0, 0) = x at *
        obtain ⟨id, t⟩ := x
        simp only [] at *
        go_wp2_with fail
        refine (CP.out _ ((Grew.refl W2).alloc _)).mono ?_
        rintro E W4 ⟨rfl, q', l4, o4, k4⟩
        have C4 := Lib.hid (CT.out q' W4 l4 o4 k4)
        clear l4 CT o4 k4
        go_wp2_with fail
        refine C4.out.mono ?_
        rintro E W5 ⟨rfl, l5⟩
        have L5 := Lib.hid l5
        clear l5
        go_wp2
        go_ret
        exact ⟨rfl, q', EL.out.symm ▸ L5.out⟩
    · obtain rfl : i = n := by omega
      have hi' : decide ((i : Int) < (i : Int)) = false := decide_eq_false (by omega)
      go_wp2
      go_ret
      obtain ⟨q1, hR, hs⟩ := HR.out
      have e : l.drop i = [] := List.drop_of_length_le (by rw [HN.out]; exact Nat.le_refl _)
      have e2 : l.take i = l := List.take_of_length_le (by rw [HN.out]; exact Nat.le_refl _)
      rw [e] at hs
      have hs : putsR L l = 0 := hs
      rw [e2] at hR
      have e0 : r = 0 := ER.out.1.symm.trans hs
      have e3 : M = l.reverse ++ L := ER.out.2.symm.trans (if_pos hs)
      refine ⟨by rw [e0]; rfl, q1, ?_⟩
      rw [e3]
      exact hR
theorem qput_any {B : Nat} {w : World} {q : QB} {L l : List Ent} (h : Qs B w q L) (hB : B ≤ w.heap.size) (a : Option Addr) (cap : Nat) (hl : KeysAt w a l) (ha : Off a q.turns) (hcap : l.length ≤ cap) (hr : L.length + l.length < 1099511627776) :
    Calls Try.prog 44 #[.pointer (some ⟨q.qb, 0, none⟩), .slice a l.length cap] w fun E w' => E = .returned (.int .i64 (putsR L l)) ∧ ∃ q', LeftQ B w w' q q' (putsL L l) := qput_gen h hB a cap hl (fun _ => ha) hcap hr
end Go.Proofs.Ytcipilggddpnpaa

/-
  ready.Queue: Move.
-/
namespace Go.Proofs.Ytcipilggddpnpaa
open Go.RowKit Go.Sort Go.Shelf Go.Maps
set_option linter.unusedVariables false
set_option linter.unusedSimpArgs false

set_option maxHeartbeats 2000000 in
set_option maxRecDepth 20000 in
theorem move_none {B : Nat} {w : World} {q : QB} {L : List Ent} (h : Qs B w q L) (a id : Int) (hid : Is64 id) (hn : ∀ x ∈ L, x.1 ≠ id) :
    Calls Try.prog 31 #[.pointer (some ⟨q.qb, 0, none⟩), .agg #[.int .i64 a, .int .i64 id]] w fun E w' => E = .returned (.int .i64 14) ∧ Grew w w' := by
  obtain ⟨W, hW⟩ : ∃ W, w.alloc (.cells #[.int .i64 a, .int .i64 id] 37) = W := ⟨_, rfl⟩
  have hG : Grew w W := by rw [← hW]; exact (Grew.refl w).alloc _
  have C1 := Lib.hid (qget_none (h.grew hG) id hid hn)
  obtain ⟨k0, k1⟩ := boxed hW (Kept.refl (fun _ => False) W) (fun x => x)
  have HG := Lib.hid hG
  clear h hG hn hid
  go_enter Try.func31, Try.ntmps31
  go_wp2_with (go_at_call 30; (try rw [hW]); (with_reducible refine C1.out.mono ?_); rintro E w2 ⟨rfl, g2⟩; have G2 := Lib.hid g2; clear g2)
  go_ret
  exact ⟨rfl, (HG.out.trans G2.out).alloc _⟩

set_option maxHeartbeats 2000000 in
set_option maxRecDepth 20000 in
theorem move_time {B : Nat} {w : World} {q : QB} {L : List Ent} (h : Qs B w q L) (a : Int) (m : Ent) (hm : m ∈ L) (e : Int) (he : timeE a = e) (hne : e ≠ 0) :
    Calls Try.prog 31 #[.pointer (some ⟨q.qb, 0, none⟩), .agg #[.int .i64 a, .int .i64 m.1]] w fun E w' => E = .returned (.int .i64 e) ∧ Grew w w' := by
  obtain ⟨W, hW⟩ : ∃ W, w.alloc (.cells #[.int .i64 a, .int .i64 m.1] 37) = W := ⟨_, rfl⟩
  have hG : Grew w W := by rw [← hW]; exact (Grew.refl w).alloc _
  have C1 := Lib.hid (qget_there (h.grew hG) m hm)
  have h1 : (e != 0) = true := by simpa using hne
  have h2 : (e == 0) = false := by simpa using hne
  have C2 : ∀ W, Hid (Calls Try.prog 58 #[.int .i64 a] W fun E w' => E = .returned (.int .i64 e) ∧ W = w') := fun W => by
    have := time_any a W
    rw [he] at this
    exact this
  have hlt : w.heap.size < W.heap.size := by rw [← hW]; simp
  have BX : Hid (∀ W', Grew W W' → w.heap.size < W'.heap.size ∧ W'.cell? ⟨w.heap.size, 0, none⟩ = some (.int .i64 a) ∧ W'.cell? ⟨w.heap.size, 1, none⟩ = some (.int .i64 m.1)) := fun W' g => ⟨Nat.lt_of_lt_of_le hlt g.size, boxed hW (g.kept (fun _ => False)) (fun x => x)⟩
  obtain ⟨k0, k1⟩ := boxed hW (Kept.refl (fun _ => False) W) (fun x => x)
  have HG := Lib.hid hG
  generalize m.1 = id at *
  clear h hG hm he hne hlt
  go_enter Try.func31, Try.ntmps31
  go_wp2_with (first | (go_at_call 30; (try rw [hW]); (with_reducible refine C1.out.mono ?_); rintro E w2 ⟨rfl, g2⟩; obtain ⟨x0, x1, x2⟩ := BX.out w2 g2; have x5 := Nat.ne_of_lt x0; have x6 := Nat.ne_of_gt x0; have G2 := Lib.hid g2; clear g2) | (go_at_call 58; refine (C2 _).out.mono ?_; rintro E w3 ⟨rfl, hw3⟩; subst hw3))
  go_ret
  exact ⟨rfl, (HG.out.trans G2.out).alloc _⟩

theorem change_kN {L : List Ent} {m : Ent} (hm : m ∈ L) (a : Int) : (((kN m).1, (a, m.1)) :: (L.map kN).erase (kN m)).Perm ((((m.1, a) : Ent) :: L.erase m).map kN) := (erase_kN hm).cons _

set_option maxHeartbeats 2000000 in
set_option maxRecDepth 20000 in
theorem move_ok {B : Nat} {w : World} {q : QB} {L : List Ent} (h : Qs B w q L) (a : Int) (m : Ent) (hm : m ∈ L) (hi : Is64 m.1) (ha : Is64 a) (ht : timeE a = 0) :
    Calls Try.prog 31 #[.pointer (some ⟨q.qb, 0, none⟩), .agg #[.int .i64 a, .int .i64 m.1]] w fun E w' => E = .returned (.int .i64 0) ∧ LeftQ B w w' q q ((m.1, a) :: L.erase m) := by
  obtain ⟨W, hW⟩ : ∃ W, w.alloc (.cells #[.int .i64 a, .int .i64 m.1] 37) = W := ⟨_, rfl⟩
  have hG : Grew w W := by rw [← hW]; exact (Grew.refl w).alloc _
  have C1 := Lib.hid (qget_there (h.grew hG) m hm)
  have CT : ∀ W, Hid (Calls Try.prog 58 #[.int .i64 a] W fun E w' => E = .returned (.int .i64 0) ∧ W = w') := fun W => by
    have := time_any a W
    rw [ht] at this
    exact this
  have hlt : w.heap.size < W.heap.size := by rw [← hW]; simp
  have BX : Hid (∀ W', Grew W W' → w.heap.size < W'.heap.size ∧ W'.cell? ⟨w.heap.size, 0, none⟩ = some (.int .i64 a) ∧ W'.cell? ⟨w.heap.size, 1, none⟩ = some (.int .i64 m.1) ∧ W'.cell? ⟨q.qb, 0, none⟩ = some (.pointer (some ⟨q.hu, 0, none⟩))) := fun W' g => by
    obtain ⟨x1, x2⟩ := boxed hW (g.kept (fun _ => False)) (fun x => x)
    exact ⟨Nat.lt_of_lt_of_le hlt g.size, x1, x2, (h.grew (hG.trans g)).c0⟩
  have C2 : Hid (∀ W', Grew W W' → Calls Try.prog 59 #[.pointer (some ⟨q.hu, 0, none⟩), .int .i64 m.1, .agg #[.int .i64 a, .int .i64 m.1]] W' fun e w' => e = .returned (.int .i64 0) ∧ K.Left K.upV K.ltK B W' w' q.hu q.mu q.ru q.ru (((m.1, a) :: L.erase m).map kN)) := fun W' g => by
    refine (K.hs_change (h.grew (hG.trans g)).up (kN m) (List.mem_map_of_mem hm) (a, m.1) ⟨ha, hi⟩).mono ?_
    rintro e w' ⟨rfl, l⟩
    exact ⟨rfl, l.perm (change_kN hm a)⟩
  have C3 : Hid (∀ W' w2, Grew W W' → K.Left K.upV K.ltK B W' w2 q.hu q.mu q.ru q.ru (((m.1, a) :: L.erase m).map kN) → ∀ n, Calls Try.prog 59 #[.pointer (some ⟨q.hd, 0, none⟩), .int .i64 m.1, .agg #[.int .i64 a, .int .i64 m.1]] (w2.drewN n) fun e w' => e = .returned (.int .i64 0) ∧ LeftQ B w w' q q ((m.1, a) :: L.erase m)) := fun W' w2 g l1 n => by
    refine (K.hs_change (h.downAfter (hG.trans g) l1 (grewN w2 n)) (kN m) (List.mem_map_of_mem hm) (a, m.1) ⟨ha, hi⟩).mono ?_
    rintro e w' ⟨rfl, l⟩
    exact ⟨rfl, h.both (hG.trans g) l1 (grewN w2 n) (l.perm (change_kN hm a))⟩
  have C4 : Hid (∀ W' w2, Grew W W' → K.Left K.upV K.ltK B W' w2 q.hu q.mu q.ru q.ru (((m.1, a) :: L.erase m).map kN) → w2.cell? ⟨q.qb, 1, none⟩ = some (.pointer (some ⟨q.hd, 0, none⟩)) ∧ w2.cell? ⟨w.heap.size, 0, none⟩ = some (.int .i64 a) ∧ w2.cell? ⟨w.heap.size, 1, none⟩ = some (.int .i64 m.1)) := fun W' w2 g l1 => by
    have hk : Kept (Mine q.hu q.mu q.ru) W w2 := (g.kept _).trans l1.kept
    refine ⟨?_, boxed hW hk (fun hm => ?_)⟩
    · rw [hk.cell (by exact Nat.lt_of_lt_of_le (h.lt q.qb (.inr (.inl rfl))) hG.size) (fun hm => h.qApart (.inl hm))]
      exact (h.grew hG).c1
    · exact Nat.lt_irrefl _ (h.up.inside _ hm)
  obtain ⟨k0, k1⟩ := boxed hW (Kept.refl (fun _ => False) W) (fun x => x)
  have HG := Lib.hid hG
  generalize (m.1, a) :: L.erase m = L2 at *
  generalize m.1 = id at *
  generalize m.2 = t0 at *
  clear h hG hm hi ha ht hlt
  go_enter Try.func31, Try.ntmps31
  go_wp2_with (first | (go_at_call 30; (try rw [hW]); (with_reducible refine C1.out.mono ?_); rintro E w2 ⟨rfl, g2⟩; obtain ⟨x0, x1, x2, _⟩ := BX.out w2 g2; have x5 := Nat.ne_of_lt x0; have x6 := Nat.ne_of_gt x0; have G2 := Lib.hid g2; clear g2) | (go_at_call 58; refine (CT _).out.mono ?_; rintro E w3 ⟨rfl, hw3⟩; subst hw3))
  obtain ⟨W2, hW2⟩ : ∃ W2, w2.alloc (.cells #[.int .i64 t0, .int .i64 id] 37) = W2 := ⟨_, rfl⟩
  rw [hW2]
  have G3 : Hid (Grew W W2) := by rw [← hW2]; exact G2.out.alloc _
  obtain ⟨_, y1, y2, y3⟩ := BX.out W2 G3.out
  clear x0 x1 x2 x5 x6 hW2 G2 C1
  refine plain_last 7 _ (Drawing W2) rfl rfl (by kernel_rfl) mixedP (drawing_drew W2) ?_
  simp only [List.take_succ_cons, List.take_zero]
  repeat (go_big_quiet_step (fail))
  refine wpQuiet_nil ?_
  rintro _ ⟨nq, rfl⟩
  gi_wp2_with fail
  refine ⟨trivial, (callsIn_wide.2 (C2.out _ (G3.out.trans (grewN W2 nq)))).mono ?_⟩
  rintro e W3 ⟨rfl, l1⟩
  obtain ⟨d1, d2, d3⟩ := C4.out _ W3 (G3.out.trans (grewN W2 nq)) l1
  have C5 := Lib.hid (C3.out _ W3 (G3.out.trans (grewN W2 nq)) l1)
  clear l1 y1 y2 y3
  gi_wp2
  go_wp2_with fail
  refine plain_last2 7 _ _ (Drawing W3) rfl rfl rfl (by kernel_rfl) mixedP (drawing_drew W3) ?_
  simp only [List.take_succ_cons, List.take_zero]
  repeat (go_big_quiet_step (fail))
  refine wpQuiet_nil ?_
  rintro _ ⟨mq, rfl⟩
  gi_wp2_with fail
  refine ⟨trivial, (callsIn_wide.2 (C5.out mq)).mono ?_⟩
  rintro e W4 ⟨rfl, l2⟩
  gi_wp2
  go_wp2
  go_ret
  exact ⟨rfl, l2⟩
end Go.Proofs.Ytcipilggddpnpaa

/-
  ready.New; Move as one contract; the keys of two lists.
-/
namespace Go.Proofs.Ytcipilggddpnpaa
open Go.RowKit Go.Sort Go.Shelf Go.Maps
set_option linter.unusedVariables false
set_option linter.unusedSimpArgs false

set_option maxHeartbeats 400000 in
theorem turnedF_any (w : World) :
    Calls Try.prog 43 #[K.upV] w fun E w' => E = .returned (K.downV w.heap.size) ∧ K.FBox w' w.heap.size ∧ Grew w w' := by
  have e1 := heap_alloc_new w (.cells #[K.upV] 85)
  go_enter Try.func43, Try.ntmps43
  go_wp2
  go_ret
  exact ⟨rfl, e1, (Grew.refl w).alloc _⟩

set_option maxHeartbeats 1000000 in
set_option maxRecDepth 20000 in
theorem qnew_any (B : Nat) (w : World) (hB : B ≤ w.heap.size) :
    Calls Try.prog 16 #[] w fun E w' => ∃ q : QB, E = .returned (.pointer (some ⟨q.qb, 0, none⟩)) ∧ Qs B w' q [] ∧ Grew w w' ∧ ∀ k, q.own k → w.heap.size ≤ k := by
  have C1 := Lib.hid (K.hs_new_up B w hB)
  have C2 : ∀ W, Hid (Calls Try.prog 43 #[K.upV] W fun E w' => E = .returned (K.downV W.heap.size) ∧ K.FBox w' W.heap.size ∧ Grew W w') := fun W => turnedF_any W
  have C3 : ∀ W fb, B ≤ W.heap.size → K.FBox W fb → Hid (Calls Try.prog 42 #[K.downV fb] W fun e w' => ∃ hb mb, e = .returned (.tuple #[.pointer (some ⟨hb, 0, none⟩), .int .i64 0]) ∧ K.Hs (K.downV fb) K.ltD B w' hb mb none [] ∧ Grew W w' ∧ W.heap.size ≤ hb ∧ W.heap.size ≤ mb) := fun W fb h1 h2 => K.hs_new_down B W h1 fb h2
  have HB := Lib.hid hB
  clear hB
  go_enter Try.func16, Try.ntmps16
  go_wp2_with fail
  refine C1.out.mono ?_
  rintro E w1 ⟨hu, mu, rfl, h1, g1, b1, b2⟩
  have H1 : Hid (K.Hs K.upV K.ltK B w1 hu mu none [] ∧ Grew w w1 ∧ w.heap.size ≤ hu ∧ w.heap.size ≤ mu) := ⟨h1, g1, b1, b2⟩
  clear h1 g1 b1 b2
  go_wp2_with fail
  refine (C2 _).out.mono ?_
  rintro E w2 ⟨rfl, h2, g2⟩
  have H2 : Hid (K.FBox w2 w1.heap.size ∧ Grew w1 w2) := ⟨h2, g2⟩
  clear h2 g2
  go_wp2_with fail
  refine (C3 w2 w1.heap.size (Nat.le_trans HB.out (Nat.le_trans H1.out.2.1.size H2.out.2.size)) H2.out.1).out.mono ?_
  rintro E w3 ⟨hd, md, rfl, h3, g3, b3, b4⟩
  have H3 : Hid (K.Hs (K.downV w1.heap.size) K.ltD B w3 hd md none [] ∧ Grew w2 w3 ∧ w2.heap.size ≤ hd ∧ w2.heap.size ≤ md) := ⟨h3, g3, b3, b4⟩
  clear h3 g3 b3 b4
  have e1 := heap_alloc_new w3 (.cells #[.pointer (some ⟨hu, 0, none⟩), .pointer (some ⟨hd, 0, none⟩)] 88)
  have E1 := Lib.hid e1
  clear e1
  go_wp2
  go_ret
  obtain ⟨h1, g1, b1, b2⟩ := H1.out
  obtain ⟨h2, g2⟩ := H2.out
  obtain ⟨h3, g3, b3, b4⟩ := H3.out
  have hB := HB.out
  have s1 := g1.size
  have s2 := g2.size
  have s3 := g3.size
  have g4 : Grew w3 (w3.alloc (.cells #[.pointer (some ⟨hu, 0, none⟩), .pointer (some ⟨hd, 0, none⟩)] 88)) := (Grew.refl w3).alloc _
  refine ⟨⟨w3.heap.size, hu, mu, none, hd, md, none, w1.heap.size⟩, rfl, ⟨E1.out, ((h1.grew g2).grew g3).grew g4, h3.grew g4, ((g3.trans g4).block h2.lt).trans h2, ?_, ?_⟩, ((g1.trans g2).trans g3).trans g4, ?_⟩
  · intro k hk hk2
    have := h1.inside k hk
    rcases hk2 with e | e | e
    · have e : k = hd := e
      omega
    · have e : k = md := e
      omega
    · cases e
  · exact ⟨by show B ≤ w3.heap.size; omega, by show B ≤ w1.heap.size; omega⟩
  · rintro k (((e | e | e) | (e | e | e)) | e | e)
    · have e : k = hu := e
      omega
    · have e : k = mu := e
      omega
    · cases e
    · have e : k = hd := e
      omega
    · have e : k = md := e
      omega
    · cases e
    · have e : k = w3.heap.size := e
      omega
    · have e : k = w1.heap.size := e
      omega

/-- What Move answers. -/
def moveR (L : List Ent) (x : Ent) : Int := if L.any (fun y => y.1 == x.1) then timeE x.2 else 14
/-- .. and leaves. -/
def moveL (L : List Ent) (x : Ent) : List Ent := if moveR L x = 0 then x :: L.filter (fun y => y.1 != x.1) else L
theorem erase_filter {L : List Ent} (hd : L.Pairwise (fun x y => x.1 ≠ y.1)) {m : Ent} (hm : m ∈ L) : (L.erase m).Perm (L.filter (fun y => y.1 != m.1)) := by
  induction L with
  | nil => cases hm
  | cons x r ih =>
    obtain ⟨h1, h2⟩ := List.pairwise_cons.1 hd
    by_cases e : x = m
    · subst e
      rw [List.erase_cons_head, List.filter_cons, if_neg (by simp), List.filter_eq_self.2 (fun y hy => by simpa using fun e => h1 y hy e.symm)]
    · have hm' : m ∈ r := by
        rcases List.mem_cons.1 hm with e' | e'
        · exact absurd e'.symm e
        · exact e'
      rw [List.erase_cons_tail (by simpa using e), List.filter_cons, if_pos (by simpa using h1 m hm')]
      exact (ih h2 hm').cons _
theorem qmove_any {B : Nat} {w : World} {q : QB} {L : List Ent} (h : Qs B w q L) (hd : L.Pairwise (fun x y => x.1 ≠ y.1)) (x : Ent) (hx : Is64 x.1 ∧ Is64 x.2) :
    Calls Try.prog 31 #[.pointer (some ⟨q.qb, 0, none⟩), .agg #[.int .i64 x.2, .int .i64 x.1]] w fun E w' => E = .returned (.int .i64 (moveR L x)) ∧ LeftQ B w w' q q (moveL L x) := by
  by_cases h1 : L.any (fun y => y.1 == x.1) = true
  · obtain ⟨m, hm, e⟩ := List.any_eq_true.1 h1
    have e : m.1 = x.1 := by simpa using e
    have hr : moveR L x = timeE x.2 := if_pos h1
    by_cases h2 : timeE x.2 = 0
    · unfold moveL
      rw [hr, h2, if_pos rfl, ← e]
      refine (move_ok h x.2 m hm (by rw [e]; exact hx.1) hx.2 h2).mono ?_
      rintro E w' ⟨rfl, l⟩
      refine ⟨rfl, l.perm ?_⟩
      have : ((m.1, x.2) : Ent) = x := by rw [e]
      rw [this]
      exact (erase_filter hd hm).cons _
    · unfold moveL
      rw [hr, if_neg h2, ← e]
      refine (move_time h x.2 m hm _ rfl h2).mono ?_
      rintro E w' ⟨rfl, g⟩
      exact ⟨rfl, LeftQ.grew h g⟩
  · have hr : moveR L x = 14 := if_neg h1
    unfold moveL
    rw [hr, if_neg (by decide)]
    refine (move_none h x.2 x.1 hx.1 (fun y hy e => h1 (List.any_eq_true.2 ⟨y, hy, by simpa using e⟩))).mono ?_
    rintro E w' ⟨rfl, g⟩
    exact ⟨rfl, LeftQ.grew h g⟩
end Go.Proofs.Ytcipilggddpnpaa

/-
  The law's keys: are two lists the same?
-/
namespace Go.Proofs.Ytcipilggddpnpaa
open Go.RowKit Go.Sort Go.Shelf Go.Maps
set_option linter.unusedVariables false
set_option linter.unusedSimpArgs false

theorem same_from {l m : List Ent} (hl : l.length = m.length) (h : ∀ i, i < l.length → l.getD i (0, 0) = m.getD i (0, 0)) : l = m := by
  refine List.ext_getElem hl fun i h1 h2 => ?_
  have := h i h1
  rwa [List.getD_eq_getElem?_getD, List.getD_eq_getElem?_getD, List.getElem?_eq_getElem h1, List.getElem?_eq_getElem h2] at this

set_option maxHeartbeats 2000000 in
set_option maxRecDepth 20000 in
theorem keys_any (w : World) (a b : Option Addr) (l m : List Ent) (ca cb : Nat) (ha : KeysAt w a l) (hb : KeysAt w b m) (hl : l.length < 1099511627776) (hm : m.length < 1099511627776) :
    Calls Try.prog 23 #[.slice a l.length ca, .slice b m.length cb] w fun E w' => E = .returned (.bool (decide (l = m))) ∧ Grew w w' := by
  by_cases hlm : l.length = m.length
  · obtain ⟨r, er⟩ : ∃ r, decide (l = m) = r := ⟨_, rfl⟩
    rw [er, ← hlm]
    have ER := Lib.hid er
    have HA : Hid (KeysAt w a l ∧ KeysAt w b m ∧ l.length = m.length) := ⟨ha, hb, hlm⟩
    clear er ha hb hlm
    obtain ⟨n, hn0⟩ : ∃ n, l.length = n := ⟨_, rfl⟩
    have HN := Lib.hid hn0
    rw [hn0] at hl ⊢
    clear hn0 hm
    go_enter Try.func23, Try.ntmps23
    go_wp2
    go_loopg [5] n (fun gk s wr => ∃ i : Nat, s = .int .i64 i ∧ i ≤ n ∧ n - i ≤ gk ∧ Hid (Grew w wr ∧ ∀ j, j < i → l.getD j (0, 0) = m.getD j (0, 0)))
    case atStart => exact ⟨0, rfl, Nat.zero_le _, Nat.le_refl _, Grew.refl w, fun j hj => absurd hj (Nat.not_lt_zero _)⟩
    case round =>
      rename World => W2
      obtain ⟨i, rfl, hin, hgk, HR⟩ := hrel
      by_cases hi : i < n
      · have hi' : decide ((i : Int) < (n : Int)) = true := decide_eq_true (by omega)
        have hiz : (i : Int) < (n : Int) := by omega
        have q4 : IntKind.i64.wrap ((i : Int) + 1) = (i : Int) + 1 := by rw [IntKind.wrap_i64]; omega
        have hi2 : i < l.length := by rw [HN.out]; exact hi
        have hR := HR.out
        rcases HA.out.1.kept (hR.1.kept (fun _ => False)) (fun _ _ x => x) with h | ⟨g, o, rfl, hg, hc⟩
        · rw [HN.out] at h; omega
        rcases HA.out.2.1.kept (hR.1.kept (fun _ => False)) (fun _ _ x => x) with h | ⟨g2, o2, rfl, hg2, hc2⟩
        · rw [← HA.out.2.2, HN.out] at h; omega
        obtain ⟨⟨c1, c2⟩, _⟩ := hc i hi2
        obtain ⟨⟨d1, d2⟩, _⟩ := hc2 i (by rw [← HA.out.2.2]; exact hi2)
        by_cases hx : l.getD i (0, 0) = m.getD i (0, 0)
        · have H4 : Hid (∀ W3, Grew W2 W3 → Grew w W3 ∧ ∀ j, j < i + 1 → l.getD j (0, 0) = m.getD j (0, 0)) := fun W3 g3 => ⟨hR.1.trans g3, fun j hj => by
            by_cases e : j = i
            · subst e; exact hx
            · exact hR.2 j (by omega)⟩
          rw [← hx] at d1 d2
          clear hc hc2 hR HR hx
          generalize (l.getD i (0, 0)).1 = id at *
          generalize (l.getD i (0, 0)).2 = t at *
          go_wp2_with fail
          go_quiet (fail)
          go_wp2
          go_roundg (n - (i + 1))
          case measure => omega
          case rel => exact ⟨i + 1, by go_num, by omega, Nat.le_refl _, (show Hid _ from H4.out _ (by first | exact (Grew.refl W2).drew | exact grewN W2 _))⟩
        · have e0 : Hid (r = false) := ER.out.symm.trans (decide_eq_false (fun e => hx (by rw [e])))
          have H4 := Lib.hid hR.1
          have hne : ¬ ((l.getD i (0, 0)).2 = (m.getD i (0, 0)).2 ∧ (l.getD i (0, 0)).1 = (m.getD i (0, 0)).1) := fun e => hx (Prod.ext e.2 e.1)
          clear hc hc2 hR HR hx
          generalize (l.getD i (0, 0)).1 = id at *
          generalize (l.getD i (0, 0)).2 = t at *
          generalize (m.getD i (0, 0)).1 = id2 at *
          generalize (m.getD i (0, 0)).2 = t2 at *
          by_cases ht : t = t2
          · subst ht
            have hne : ¬ id = id2 := fun e => hne ⟨rfl, e⟩
            have h2 : (id == id2) = false := by simpa using hne
            go_wp2_with fail
            go_quiet (fail)
            go_wp2
            go_ret
            exact ⟨by rw [e0.out]; rfl, H4.out.trans (by first | exact (Grew.refl W2).drew | exact grewN W2 _)⟩
          · have h2 : (t == t2) = false := by simpa using ht
            go_wp2_with fail
            go_quiet (fail)
            go_wp2
            go_ret
            exact ⟨by rw [e0.out]; rfl, H4.out.trans (by first | exact (Grew.refl W2).drew | exact grewN W2 _)⟩
      · obtain rfl : i = n := by omega
        have hi' : decide ((i : Int) < (i : Int)) = false := decide_eq_false (by omega)
        go_wp2
        go_ret
        have e0 : r = true := ER.out.symm.trans (decide_eq_true (same_from HA.out.2.2 (fun j hj => HR.out.2 j (by rw [← HN.out]; exact hj))))
        exact ⟨by rw [e0]; rfl, HR.out.1⟩
  · rw [decide_eq_false (fun e => hlm (by rw [e]))]
    have h1 : ((l.length : Int) != (m.length : Int)) = true := by simpa using fun e : (l.length : Int) = (m.length : Int) => hlm (by omega)
    have h2 : ((l.length : Int) == (m.length : Int)) = false := by simpa using fun e : (l.length : Int) = (m.length : Int) => hlm (by omega)
    clear ha hb hlm
    generalize l.length = n at *
    generalize m.length = n2 at *
    go_enter Try.func23, Try.ntmps23
    go_wp2
    go_ret
    exact ⟨rfl, Grew.refl w⟩
end Go.Proofs.Ytcipilggddpnpaa

/-
  ready.Queue: Least.
-/
namespace Go.Proofs.Ytcipilggddpnpaa
open Go.RowKit Go.Sort Go.Shelf Go.Maps
set_option linter.unusedVariables false
set_option linter.unusedSimpArgs false
attribute [local go_sem] Oper.semAt_some

/-- Between two rounds: the first k lie in the row that block lb tells; all else is as it was. -/
def LstI (W1 : World) (lb N : Nat) (T : List Ent) (k : Nat) (W : World) : Prop :=
  k ≤ N ∧ ∃ a cap, W.heap[lb]? = some (.cells #[.slice a k cap] 46 (0, 0)) ∧ W.ownsRow W1.heap.size 37 2 (.slice a k cap) k (flatR (T.take k)) ∧ Kept (fun i => i = lb) W1 W
theorem lstI_own {W1 : World} {lb N : Nat} {T : List Ent} (hl : lb < W1.heap.size) : OwnFrom W1.heap.size (LstI W1 lb N T) := fun k A B' row hs hg hr => by
  obtain ⟨h0, a, cap, h1, h2, h3⟩ := hs
  refine ⟨h0, a, cap, (hg.block lb (Array.getElem?_eq_some_iff.1 h1).1 (fun e => by have := (hr lb e.symm).1; omega)).trans h1, ?_, h3.grown hg (fun i e => .inr (hr i e).1)⟩
  refine own_kept h2 (fun g e => hg.block g (own_lt h2 g e) (fun e2 => ?_))
  obtain ⟨_, o, ho, hc⟩ := hr g e2.symm
  rcases h2.2 with ⟨x, _⟩ | ⟨g', cap', cur, x, hg', h3', _⟩
  · rw [x] at e; cases e
  · rw [x] at e
    cases e
    rw [h3'] at ho
    cases ho
    cases hc
theorem LstI.grew {W1 W W' : World} {lb N k : Nat} {T : List Ent} (hl : lb < W1.heap.size) (h : LstI W1 lb N T k W) (g : Grew W W') : LstI W1 lb N T k W' := by
  obtain ⟨h0, a, cap, h1, h2, h3⟩ := h
  exact ⟨h0, a, cap, (g.block (Array.getElem?_eq_some_iff.1 h1).1).trans h1, own_kept h2 (fun b e => g.block (own_lt h2 b e)), h3.trans (g.kept _)⟩

/-- A block of cells stays through what a range's own books turn. -/
theorem cells_own {B : Nat} {kb : Nat} {o : Obj} (ho : o.isCells = true) : OwnFrom B (fun (_ : Nat) (W : World) => W.heap[kb]? = some o) := fun k A B' row hs hg hr =>
  (hg.block kb (Array.getElem?_eq_some_iff.1 hs).1 (fun e => by
    obtain ⟨_, o', h1, h2⟩ := hr kb e.symm
    rw [hs] at h1
    cases h1
    rw [ho] at h2
    cases h2)).trans hs
theorem LstI.next {W1 Wb w2 : World} {lb N k : Nat} {T : List Ent} {a : Option Addr} {cap : Nat} {v2 : Value} (hl : lb < W1.heap.size) (hk : k < T.length) (hN : k + 1 ≤ N)
    (h1 : Wb.heap[lb]? = some (.cells #[.slice a k cap] 46 (0, 0))) (h2 : Wb.ownsRow W1.heap.size 37 2 (.slice a k cap) k (flatR (T.take k))) (h3 : Kept (fun i => i = lb) W1 Wb) (o : Obj)
    (ho : w2.ownsRow W1.heap.size 37 2 v2 (k + 1) (flatR (T.take k) ++ [.int .i64 (T.getD k (0, 0)).2, .int .i64 (T.getD k (0, 0)).1])) (hg : (Wb.alloc o).grownBy w2 (Value.slice a k cap).ownBlock) :
    LstI W1 lb N T (k + 1) (w2.setCell ⟨lb, 0, none⟩ v2) ∧ w2.cell? ⟨lb, 0, none⟩ = some (.slice a k cap) ∧ w2.frozen? ⟨lb, 0, none⟩ = false := by
  have hne : some lb ≠ (Value.slice a k cap).ownBlock := fun e => by have := own_block h2 lb e.symm; omega
  have hlb : lb < Wb.heap.size := (Array.getElem?_eq_some_iff.1 h1).1
  have e1 : w2.heap[lb]? = some (.cells #[.slice a k cap] 46 (0, 0)) := (hg.block lb (by simp; omega) hne).trans ((Below.heap_alloc _ _ _ hlb).trans h1)
  obtain ⟨a2, cap2, rfl⟩ := own_form ho
  refine ⟨⟨hN, a2, cap2, ?_, ?_, ?_⟩, by simp [World.cell?, e1], by simp [World.frozen?, e1]⟩
  · simp [World.setCell, Array.getElem?_modify, e1]
  · have e : flatR (T.take k) ++ [Value.int .i64 (T.getD k (0, 0)).2, Value.int .i64 (T.getD k (0, 0)).1] = flatR (T.take (k + 1)) := by
      have : T.take (k + 1) = T.take k ++ [T.getD k (0, 0)] := by
        rw [List.take_add_one, List.getD_eq_getElem?_getD, List.getElem?_eq_getElem hk]; rfl
      rw [this, flatR_append]
      rfl
    rw [← e]
    exact own_kept ho (fun g eg => Below.heap_setCell _ _ _ _ (by have := own_block ho g eg; show g ≠ lb; omega))
  · exact (((h3.alloc o).grown hg (fun i e => .inr (own_block h2 i e)))).setCell (.inl rfl) _

theorem own_cellsAt {w : World} {B : Nat} {e : TypeId} {size : Nat} {v : Value} {n : Nat} {xs : List Value} (h : w.ownsRow B e size v n xs) {g : Nat} (hg : v.ownBlock = some g) : ∃ o, w.heap[g]? = some o ∧ o.isCells = true := by
  rcases h.2 with ⟨x, _⟩ | ⟨g', cap', cur, x, hg', h3', _⟩
  · rw [x] at hg; cases hg
  · rw [x] at hg
    cases hg
    exact ⟨_, h3', rfl⟩
theorem LstI.keeps {W1 Wb w2 : World} {lb k : Nat} {T : List Ent} {a : Option Addr} {cap : Nat} {v2 : Value} (hl : lb < W1.heap.size)
    (h2 : Wb.ownsRow W1.heap.size 37 2 (.slice a k cap) k (flatR (T.take k))) (h3 : Kept (fun i => i = lb) W1 Wb) (o : Obj) (hg : (Wb.alloc o).grownBy w2 (Value.slice a k cap).ownBlock) :
    KeepsFrom W1.heap.size Wb (w2.setCell ⟨lb, 0, none⟩ v2) ∧ ∀ i, lb < i → i < W1.heap.size → (w2.setCell ⟨lb, 0, none⟩ v2).heap[i]? = Wb.heap[i]? := by
  have hz := hg.size
  have hz2 : (Wb.alloc o).heap.size = Wb.heap.size + 1 := by simp
  have h3s := h3.size
  refine ⟨⟨by rw [World.size_setCell]; omega, fun i o' hi ho hno => ?_⟩, fun i h1 h4 => ?_⟩
  · have hlt : i < Wb.heap.size := (Array.getElem?_eq_some_iff.1 ho).1
    rw [Below.heap_setCell _ _ _ _ (by show i ≠ lb; omega), hg.block i (by omega) (fun e => ?_), Below.heap_alloc _ _ _ hlt]
    · exact ho
    · obtain ⟨o2, e1, e2⟩ := own_cellsAt h2 e.symm
      rw [ho] at e1
      cases e1
      rw [hno] at e2
      cases e2
  · rw [Below.heap_setCell _ _ _ _ (by show i ≠ lb; omega), hg.block i (by omega) (fun e => by have := own_block h2 i e.symm; omega), Below.heap_alloc _ _ _ (by omega)]
theorem LstI.leave {w W1 W : World} {lb N k D : Nat} {T : List Ent} {a : Option Addr} {cap : Nat} (hk : k = min N T.length) (h2 : W.ownsRow W1.heap.size 37 2 (.slice a k cap) k (flatR (T.take k))) (h3 : Kept (fun i => i = lb) W1 W) (K1 : Kept (fun _ => False) w W1) (hD : W1.heap.size ≤ D) (hdef : W.heap[D]? = some (.deferred (some []))) (hle : w.heap.size ≤ lb) :
    (W.putObj D (.deferred none)).ownsRow w.heap.size 37 2 (.slice a (min N T.length) cap) (min N T.length) (flatR (T.take N)) ∧ Kept (fun _ => False) w (W.putObj D (.deferred none)) := by
  have hs := K1.size
  have hkp : Kept (fun i => i = D) W (W.putObj D (.deferred none)) := (Kept.refl _ W).grown (grownBy_putObj' W D _) (fun k e => by cases e; exact .inl rfl)
  have e1 : T.take N = T.take k := by
    rw [hk]
    by_cases h : N ≤ T.length
    · rw [Nat.min_eq_left h]
    · rw [Nat.min_eq_right (by omega), List.take_of_length_le (by omega), List.take_of_length_le (Nat.le_refl _)]
  refine ⟨?_, (K1.andThen h3 (fun i e => .inr (by omega))).andThen hkp (fun i e => .inr (by omega))⟩
  rw [e1, ← hk]
  have h4 : (W.putObj D (.deferred none)).ownsRow W1.heap.size 37 2 (.slice a k cap) k (flatR (T.take k)) := own_kept h2 (fun g e => hkp.block g (own_lt h2 g e) (fun x => by
    obtain ⟨o2, e1, e2⟩ := own_cellsAt h2 e
    have x : g = D := x
    rw [x, hdef] at e1
    cases e1
    cases e2))
  refine ⟨h4.1, ?_⟩
  rcases h4.2 with x | ⟨g', cap', cur, x, hg', r⟩
  · exact .inl x
  · exact .inr ⟨g', cap', cur, x, by omega, r⟩

set_option maxHeartbeats 2000000 in
set_option maxRecDepth 100000 in
theorem qleast_any {B : Nat} {w : World} {q : QB} {L T : List Ent} (h : Qs B w q L) (hT : T.Perm L) (hs : Sorted T) (hd : T.Pairwise (fun x y => x.1 ≠ y.1)) (hl : T.length < 1099511627776) (n : Int) :
    Calls Try.prog 24 #[.pointer (some ⟨q.qb, 0, none⟩), .int .i64 n] w fun E w' => ∃ a cap, E = .returned (.slice a (min n.toNat T.length) cap) ∧ w'.ownsRow w.heap.size 37 2 (.slice a (min n.toNat T.length) cap) (min n.toNat T.length) (flatR (T.take n.toNat)) ∧ Kept (fun _ => False) w w' := by
  obtain ⟨i0, hi0, hz0, hz1, hz2⟩ := info_parts (P := Try.prog) (e := 37) (z := .agg #[.int .i64 0, .int .i64 0]) (size := 2) (bytes := 16) (by kernel_rfl)
  have HI : Hid (Try.prog.info? 37 = some i0 ∧ i0.zero = some (.agg #[.int .i64 0, .int .i64 0]) ∧ i0.size = 2 ∧ i0.bytes = 16) := ⟨hi0, hz0, hz1, hz2⟩
  obtain ⟨W0, hW0⟩ : ∃ W0, (w.alloc (.cells #[.int .i64 n] 3)).alloc (.cells #[.slice none 0 0] 46) = W0 := ⟨_, rfl⟩
  have g0 : Grew w W0 := by rw [← hW0]; exact ((Grew.refl w).alloc _).alloc _
  have z0 : W0.heap.size = w.heap.size + 2 := by rw [← hW0]; simp
  have b1 : W0.heap[w.heap.size]? = some (.cells #[.int .i64 n] 3 (0, 0)) := by
    rw [← hW0, Below.heap_alloc _ _ _ (by simp)]
    exact heap_alloc_new _ _
  have b2 : W0.heap[w.heap.size + 1]? = some (.cells #[.slice none 0 0] 46 (0, 0)) := by
    rw [← hW0]
    have := heap_alloc_new (w.alloc (.cells #[.int .i64 n] 3)) (.cells #[.slice none 0 0] 46)
    simpa using this
  have C1 := Lib.hid (fromFirst_any (h.grew g0))
  have C2 := Lib.hid (up_all ((h.grew g0).perm hT.symm).up hd hs)
  have B12 : Hid (W0.heap[w.heap.size]? = some (.cells #[.int .i64 n] 3 (0, 0)) ∧ W0.heap[w.heap.size + 1]? = some (.cells #[.slice none 0 0] 46 (0, 0)) ∧ Grew w W0 ∧ W0.heap.size = w.heap.size + 2) := ⟨b1, b2, g0, z0⟩
  have HW := Lib.hid hW0
  clear h hT hs hd g0 z0 b1 b2 hW0 hi0 hz0 hz1 hz2
  refine calls_marks Try.func24 rfl ?_
  simp only [Try.ntmps24, List.size_toArray, List.length_cons, List.length_nil, Nat.reduceAdd, Nat.reduceSub, Array.replicate_succ, Array.replicate_zero, List.push_toArray, List.append_toArray, List.nil_append, List.cons_append]
  go_wp2_with fail
  rw [HW.out]
  refine C1.out.mono ?_
  rintro e W1' ⟨rfl, rfl⟩
  go_wp2_with fail
  refine C2.out.mono ?_
  rintro e W1 ⟨rfl, hseq, hk⟩
  obtain ⟨rb, r1, r2, r3, hnth⟩ := K.all_nth _ _ (T.map kN) (by rw [List.length_map]; omega) W1 hseq
  obtain ⟨b1, b2, g0, z0⟩ := B12.out
  have zk := hk.size
  have d1 : W1.heap[w.heap.size]? = some (.cells #[.int .i64 n] 3 (0, 0)) := (hk.block _ (by omega) (fun x => x)).trans b1
  have d2 : W1.heap[w.heap.size + 1]? = some (.cells #[.slice none 0 0] 46 (0, 0)) := (hk.block _ (by omega) (fun x => x)).trans b2
  have hk1 : Kept (fun _ => False) w W1 := (g0.kept _).trans hk
  obtain ⟨cb, hcb⟩ : ∃ cb, W0.heap.size = cb := ⟨_, rfl⟩
  have zz : w.heap.size + 1 < cb := by omega
  have zc : cb ≤ W1.heap.size := by omega
  rw [hcb] at r1 r3 hnth ⊢
  have H0 : LstI W1 (w.heap.size + 1) n.toNat T 0 W1 := ⟨Nat.zero_le _, none, 0, d2, ⟨rfl, .inl ⟨rfl, rfl⟩⟩, Kept.refl _ _⟩
  have hoI := lstI_own (N := n.toNat) (T := T) (show w.heap.size + 1 < W1.heap.size by omega)
  have K1 := Lib.hid hk1
  have D1 := Lib.hid d1
  clear hseq hk C1 C2 z0 zk hcb b1 b2 g0 B12 HW hk1 d1 d2
  go_wp2_with fail
  refine wp_rangeNth (gf := 77) (lb := #[.pointer (some ⟨cb, 0, none⟩)]) (encs := K.enN (T.map kN)) (Kp := K.Pair2 cb rb) (N := (T.map kN).length) (w0 := W1) ?hg ?eg hnth ?kt ?kb (Below.refl _ _) ?ps (LstI W1 (w.heap.size + 1) n.toNat T) (fun c k W => c = .exit 0 ∧ LstI W1 (w.heap.size + 1) n.toNat T k W ∧ k = n.toNat) hoI ?hix H0 ?round ?done ?stop
  case hg => rfl
  case eg => exact enters_of Try.func77 (by kernel_rfl) rfl
  case kt => exact fun h k => h.trans k
  case kb => exact fun W l o o' h1 h2 h3 => K.Pair2.put r3 r2 W l o o' h1 h2 h3
  case ps => exact fun _ => rfl
  case hix => exact fun c s A B row hs hg hr => ⟨hs.1, hoI s A B row hs.2.1 hg hr, hs.2.2⟩
  case round =>
    intro l k Wk hks hi
    have e1 : K.rid (T.map kN) k = (T.getD k (0, 0)).1 := by unfold K.rid; rw [getD_kN]; rfl
    have e2 : K.rky (T.map kN) k = ((T.getD k (0, 0)).2, (T.getD k (0, 0)).1) := by unfold K.rky; rw [getD_kN]; rfl
    have hsz := hi.2.choose_spec.choose_spec.2.2.size
    have hkl : k < T.length := by simpa using hks
    obtain ⟨x, hx⟩ : ∃ x, T.getD k (0, 0) = x := ⟨_, rfl⟩
    unfold K.enN
    rw [e1, e2, hx]
    have HX := Lib.hid hx
    clear e1 e2 hx
    obtain ⟨id, tm⟩ := x
    simp only []
    gi_wp2
    obtain ⟨W2, hW2⟩ : ∃ W2, Wk.alloc (.cells #[.int .i64 tm, .int .i64 id] 37) = W2 := ⟨_, rfl⟩
    have g2 : Grew Wk W2 := by rw [← hW2]; exact (Grew.refl Wk).alloc _
    have hi2 := LstI.grew (show w.heap.size + 1 < W1.heap.size by omega) hi g2
    have kb2 : W2.heap[Wk.heap.size]? = some (.cells #[.int .i64 tm, .int .i64 id] 37 (0, 0)) := by rw [← hW2]; exact heap_alloc_new _ _
    rw [hW2]
    refine ⟨(g2.kept (fun _ => False)).from _ (fun _ x => x.elim), ⟨g2.block (by omega), g2.block (by omega)⟩, fun Wb hbz => ?_⟩
    have hi3 := hbz.own hoI hi2
    have kb3 : Wb.heap[Wk.heap.size]? = some (.cells #[.int .i64 tm, .int .i64 id] 37 (0, 0)) := hbz.own (s := 0) (cells_own rfl) kb2
    obtain ⟨h0, a, cap, h1, h2, h3⟩ := hi3
    have c1 : Wb.cell? ⟨w.heap.size + 1, 0, none⟩ = some (.slice a k cap) := by simp [World.cell?, h1]
    have c2 : Wb.cell? ⟨w.heap.size, 0, none⟩ = some (.int .i64 n) := by
      have e := (h3.block w.heap.size (by omega) (by omega)).trans D1.out
      simp [World.cell?, e]
    have c3 : Wb.cell? ⟨Wk.heap.size, 0, none⟩ = some (.int .i64 tm) := by simp [World.cell?, kb3]
    have c4 : Wb.cell? ⟨Wk.heap.size, 1, none⟩ = some (.int .i64 id) := by simp [World.cell?, kb3]
    have H3 : Hid (Wb.heap[w.heap.size + 1]? = some (.cells #[.slice a k cap] 46 (0, 0)) ∧ Wb.ownsRow W1.heap.size 37 2 (.slice a k cap) k (flatR (T.take k)) ∧ Kept (fun i => i = w.heap.size + 1) W1 Wb ∧ k ≤ n.toNat) := ⟨h1, h2, h3, h0⟩
    have zb := h3.size
    obtain ⟨kb, hkb⟩ : ∃ kb, Wk.heap.size = kb := ⟨_, rfl⟩
    rw [hkb] at c3 c4 ⊢
    clear h1 h2 h3 h0 hi2 kb2 kb3 hi g2 hbz hW2 hnth H0
    by_cases hbr : n ≤ (k : Int)
    · have t1 : decide ((k : Int) ≥ n) = true := decide_eq_true hbr
      gi_wp2
      refine ⟨KeepsFrom.refl _ _, rfl, ⟨H3.out.2.2.2, a, cap, H3.out.1, H3.out.2.1, H3.out.2.2.1⟩, ?_⟩
      have := H3.out.2.2.2
      omega
    · have t1 : decide ((k : Int) ≥ n) = false := decide_eq_false (by omega)
      have hN : k + 1 ≤ n.toNat := by omega
      gi_wp2_with (gi_at_builtin; refine wpListIn_append_own _ rfl _ _ 46 rfl W1.heap.size 37 i0 (.agg #[.int .i64 0, .int .i64 0]) 2 16 Try.underlying46 HI.out.1 HI.out.2.1 HI.out.2.2.1 HI.out.2.2.2 rfl (by decide) _ _ _ rfl (own_kept H3.out.2.1 (fun g e => Below.heap_alloc _ _ _ (own_lt H3.out.2.1 g e))) ⟨Wb.heap.size, 0, none⟩ 1 1 [.int .i64 tm, .int .i64 id] rfl rfl (fun j u hj => two_cells _ _ _ hj) (by simp [Value.oneCell']) (by unfold maxLen; omega) (by omega) (by simp; omega) ?_; intro v2 w2 ho2 hg2 _; obtain ⟨a2, cap2, rfl⟩ := own_form ho2; have HN2 := Lib.hid (LstI.next (show w.heap.size + 1 < W1.heap.size by omega) hkl hN H3.out.1 H3.out.2.1 H3.out.2.2.1 _ (by rw [HX.out]; exact ho2) hg2); obtain ⟨_, d1, d2⟩ := HN2.out; have HK2 := Lib.hid (LstI.keeps (v2 := .slice a2 (k + 1) cap2) (show w.heap.size + 1 < W1.heap.size by omega) H3.out.2.1 H3.out.2.2.1 _ hg2); clear ho2 hg2)
      refine ⟨HK2.out.1, ⟨HK2.out.2 cb (by omega) r3, HK2.out.2 rb (by omega) r2⟩, HN2.out.1⟩
  case done =>
    intro D W5 hD hi hdef
    obtain ⟨h0, a, cap, h1, h2, h3⟩ := hi
    rw [List.length_map] at h0 h1 h2
    have c1 : W5.cell? ⟨w.heap.size + 1, 0, none⟩ = some (.slice a T.length cap) := by simp [World.cell?, h1]
    have em : T.length = min n.toNat T.length := by omega
    have HF := Lib.hid (LstI.leave em h2 h3 K1.out hD hdef (by omega))
    clear h1 h2 h3 h0 hnth H0 hoI
    rw [← em] at HF
    have EM := Lib.hid em
    clear em
    go_wp2_with fail
    refine leave_one hdef ⟨.slice a T.length cap, by simp [results, Try.f24, go_sem], a, cap, by rw [← EM.out], by rw [← EM.out]; exact HF.out.1, HF.out.2⟩
  case stop =>
    intro D c k W5 hD hks hx hdef
    obtain ⟨rfl, hi, rfl⟩ := hx
    obtain ⟨h0, a, cap, h1, h2, h3⟩ := hi
    rw [List.length_map] at hks
    have c1 : W5.cell? ⟨w.heap.size + 1, 0, none⟩ = some (.slice a n.toNat cap) := by simp [World.cell?, h1]
    have em : n.toNat = min n.toNat T.length := by omega
    have HF := Lib.hid (LstI.leave em h2 h3 K1.out hD hdef (by omega))
    clear h1 h2 h3 h0 hnth H0 hoI
    rw [← em] at HF
    have EM := Lib.hid em
    clear em
    go_wp2_with fail
    refine leave_one hdef ⟨.slice a n.toNat cap, by simp [results, Try.f24, go_sem], a, cap, by rw [← EM.out], by rw [← EM.out]; exact HF.out.1, HF.out.2⟩
end Go.Proofs.Ytcipilggddpnpaa

/-
  Layer 4's example: awake.
-/
namespace Go.Proofs.Ytcipilggddpnpaa
open Go.RowKit Go.Sort Go.Shelf Go.Maps
set_option linter.unusedVariables false
set_option linter.unusedSimpArgs false

/-- A row of keys, as keys. -/
theorem own_keys {w : World} {B : Nat} {a : Option Addr} {cap n : Nat} {T : List Ent} (h : w.ownsRow B 37 2 (.slice a n cap) n (flatR T)) (hT : ∀ x ∈ T, Is64 x.1 ∧ Is64 x.2) : KeysAt w a T ∧ n = T.length ∧ n ≤ cap ∧ (∀ x, a = some x → B ≤ x.block) := by
  have hn : n = T.length := by have := h.1; rw [len_flatR] at this; omega
  rcases h.2 with ⟨x, e0⟩ | ⟨g, cap', cur, x, hg, hc, h1, _⟩
  · simp only [Value.slice.injEq] at x
    obtain ⟨rfl, _, rfl⟩ := x
    exact ⟨.inl (by omega), hn, by omega, fun x e => by cases e⟩
  · have h2 := h
    simp only [Value.slice.injEq] at x
    obtain ⟨rfl, _, rfl⟩ := x
    refine ⟨.inr ⟨g, 0, rfl, (Array.getElem?_eq_some_iff.1 hc).1, fun i hi => ?_⟩, hn, h1, fun x e => by cases e; exact hg⟩
    obtain ⟨f1, f2⟩ := flatR_get T i hi
    have c1 := h2.cells rfl _ _ f1
    have c2 := h2.cells rfl _ _ f2
    have e1 : ∀ i, (⟨g, 0, none⟩ : Addr).add i = ⟨g, 0 + i, none⟩ := fun i => by
      unfold Addr.add
      split
      · subst_vars; rfl
      · rfl
    rw [e1] at c1 c2
    exact ⟨⟨c1, by rw [← Nat.add_assoc] at c2; exact c2⟩, hT _ (by rw [List.getD_eq_getElem?_getD, List.getElem?_eq_getElem hi]; exact List.getElem_mem hi)⟩

def exL : List Ent := [(1, 5), (2, 3), (0, 5)]
def exT : List Ent := [(2, 3), (0, 5), (1, 5)]
theorem ex_puts : putsR [] exL = 0 := by decide
theorem ex_keys (W : World) : KeysAt (W.alloc (.cells #[.int .i64 5, .int .i64 1, .int .i64 3, .int .i64 2, .int .i64 5, .int .i64 0] 37)) (some ⟨W.heap.size, 0, none⟩) exL := by
  refine .inr ⟨_, 0, rfl, by simp, fun i hi => ?_⟩
  have hi : i < 3 := hi
  rcases i with _ | _ | _ | i
  · exact ⟨⟨by simp [go_sem, exL], by simp [go_sem, exL]⟩, by unfold Is64; decide, by unfold Is64; decide⟩
  · exact ⟨⟨by simp [go_sem, exL], by simp [go_sem, exL]⟩, by unfold Is64; decide, by unfold Is64; decide⟩
  · exact ⟨⟨by simp [go_sem, exL], by simp [go_sem, exL]⟩, by unfold Is64; decide, by unfold Is64; decide⟩
  · omega
theorem ex_two (W : World) : KeysAt (W.alloc (.cells #[.int .i64 3, .int .i64 2, .int .i64 5, .int .i64 0] 37)) (some ⟨W.heap.size, 0, none⟩) (exT.take 2) := by
  refine .inr ⟨_, 0, rfl, by simp, fun i hi => ?_⟩
  have hi : i < 2 := hi
  rcases i with _ | _ | i
  · exact ⟨⟨by simp [go_sem, exT], by simp [go_sem, exT]⟩, by unfold Is64; decide, by unfold Is64; decide⟩
  · exact ⟨⟨by simp [go_sem, exT], by simp [go_sem, exT]⟩, by unfold Is64; decide, by unfold Is64; decide⟩
  · omega
theorem ex_perm : exT.Perm (exL.reverse ++ []) := by decide
theorem ex_sorted : Sorted exT := by unfold Sorted exT; decide
theorem ex_diff : exT.Pairwise (fun x y => x.1 ≠ y.1) := by unfold exT; decide
theorem ex_first : IsFirst (exL.reverse ++ []) (2, 3) := ⟨by decide, by decide⟩
theorem ex_last : IsLast (exL.reverse ++ []) (1, 5) := ⟨by decide, by decide⟩
theorem ex_64 : ∀ x ∈ exT.take 2, Is64 x.1 ∧ Is64 x.2 := by unfold Is64; decide

set_option maxHeartbeats 4000000 in
set_option maxRecDepth 100000 in
theorem awake4 (w : World) : Calls Try.prog 18 #[] w fun E w' => E = .returned (.bool true) ∧ Below w.heap.size w w' := by
  have C0 := Lib.hid (qnew_any w.heap.size w (Nat.le_refl _))
  go_enter Try.func18, Try.ntmps18
  go_wp2_with fail
  refine C0.out.mono ?_
  rintro E w1 ⟨q, rfl, h1, g1, o1⟩
  obtain ⟨W2, hW2⟩ : ∃ W2, w1.alloc (.cells #[.int .i64 5, .int .i64 1, .int .i64 3, .int .i64 2, .int .i64 5, .int .i64 0] 37) = W2 := ⟨_, rfl⟩
  have g2 : Grew w1 W2 := by rw [← hW2]; exact (Grew.refl w1).alloc _
  have s2 := (g1.trans g2).size
  have CP : Hid (Calls Try.prog 44 #[.pointer (some ⟨q.qb, 0, none⟩), .slice (some ⟨w1.heap.size, 0, none⟩) 3 3] W2 fun E w' => E = .returned (.int .i64 0) ∧ ∃ q', LeftQ w.heap.size W2 w' q q' (exL.reverse ++ [])) := by
    have := qput_any (h1.grew g2) s2 (some ⟨w1.heap.size, 0, none⟩) 3 (l := exL) (by rw [← hW2]; exact ex_keys w1) (fun x e hx => by
      cases e
      exact Nat.lt_irrefl _ (h1.lt _ (.inl hx))) (by decide) (by decide)
    rw [ex_puts] at this
    have e : putsL [] exL = exL.reverse ++ [] := if_pos ex_puts
    rw [e] at this
    exact this
  have HB : Hid (Qs w.heap.size w1 q [] ∧ Below w.heap.size w W2 ∧ w.heap.size ≤ W2.heap.size ∧ Qs w.heap.size W2 q []) := ⟨h1, (g1.trans g2).below, s2, h1.grew g2⟩
  clear h1 g1 o1 g2 s2 C0
  go_wp2_with (go_at_call 44; (try rw [hW2]); (with_reducible refine CP.out.mono ?_); rintro E w3 ⟨rfl, q', l3⟩; have L3 := Lib.hid l3; clear l3)
  have C1 : Hid (Calls Try.prog 28 #[.pointer (some ⟨q.qb, 0, none⟩)] w3 fun E w' => E = .returned (.tuple #[.agg #[.int .i64 3, .int .i64 2], .int .i64 0]) ∧ Grew w3 w') := by
    have := qfirst_any L3.out.queue (2, 3) ex_first
    rw [L3.out.here.1] at this
    exact this
  have C2 : Hid (∀ W, Grew w3 W → Calls Try.prog 29 #[.pointer (some ⟨q.qb, 0, none⟩)] W fun E w' => E = .returned (.tuple #[.agg #[.int .i64 5, .int .i64 1], .int .i64 0]) ∧ Grew W w') := fun W g => by
    have := qlast_any (L3.out.queue.grew g) (1, 5) ex_last
    rw [L3.out.here.1] at this
    exact this
  have C3 : Hid (∀ W, Grew w3 W → Calls Try.prog 24 #[.pointer (some ⟨q.qb, 0, none⟩), .int .i64 2] W fun E w' => ∃ a cap, E = .returned (.slice a 2 cap) ∧ w'.ownsRow W.heap.size 37 2 (.slice a 2 cap) 2 (flatR (exT.take 2)) ∧ Kept (fun _ => False) W w') := fun W g => by
    have := qleast_any (L3.out.queue.grew g) ex_perm ex_sorted ex_diff (by decide) 2
    rw [L3.out.here.1] at this
    exact this
  refine C1.out.mono ?_
  rintro E w4 ⟨rfl, g4⟩
  have G4 := Lib.hid g4
  clear g4 CP C1
  go_wp2_with fail
  obtain ⟨W5, hW5⟩ : ∃ W5, w4.alloc (.cells #[.int .i64 3, .int .i64 2] 37) = W5 := ⟨_, rfl⟩
  rw [hW5]
  have G5 : Hid (Grew w3 W5) := by rw [← hW5]; exact G4.out.alloc _
  have F5 : Hid (∀ W, Grew W5 W → w4.heap.size < W.heap.size ∧ W.cell? ⟨w4.heap.size, 0, none⟩ = some (.int .i64 3) ∧ W.cell? ⟨w4.heap.size, 1, none⟩ = some (.int .i64 2)) := fun W g => by
    have hlt : w4.heap.size < W5.heap.size := by rw [← hW5]; simp
    exact ⟨Nat.lt_of_lt_of_le hlt g.size, boxed hW5 (g.kept (fun _ => False)) (fun x => x)⟩
  clear hW5
  refine (C2.out W5 G5.out).mono ?_
  rintro E w6 ⟨rfl, g6⟩
  obtain ⟨W7, hW7⟩ : ∃ W7, w6.alloc (.cells #[.int .i64 5, .int .i64 1] 37) = W7 := ⟨_, rfl⟩
  have G7 : Hid (Grew w3 W7) := by rw [← hW7]; exact (G5.out.trans g6).alloc _
  obtain ⟨y0, y1, y2⟩ := F5.out W7 (by rw [← hW7]; exact g6.alloc _)
  obtain ⟨y3, y4⟩ := boxed hW7 (Kept.refl (fun _ => False) W7) (fun x => x)
  have CL := Lib.hid (C3.out W7 G7.out)
  clear g6 F5 C2 C3
  go_wp2_with (go_at_call 24; (try rw [hW7]); (with_reducible refine CL.out.mono ?_); rintro E w8 ⟨a, cap, rfl, h8, k8⟩; have H8 := Lib.hid (And.intro h8 k8); clear h8 k8)
  have CK : Hid (Calls Try.prog 23 #[.slice a 2 cap, .slice (some ⟨w8.heap.size, 0, none⟩) 2 2] (w8.alloc (.cells #[.int .i64 3, .int .i64 2, .int .i64 5, .int .i64 0] 37)) fun E w' => E = .returned (.bool true) ∧ Grew (w8.alloc (.cells #[.int .i64 3, .int .i64 2, .int .i64 5, .int .i64 0] 37)) w') := by
    have hk := (own_keys H8.out.1 ex_64).1
    exact keys_any _ a (some ⟨w8.heap.size, 0, none⟩) (exT.take 2) (exT.take 2) cap 2 (hk.kept (((Grew.refl w8).alloc _).kept (fun _ => False)) (fun _ _ x => x)) (ex_two w8) (by decide) (by decide)
  refine CK.out.mono ?_
  rintro E w9 ⟨rfl, g9⟩
  have G9 := Lib.hid g9
  clear g9
  go_wp2
  go_ret
  refine ⟨rfl, ?_⟩
  have b3 : Below w.heap.size W2 w3 := L3.out.below HB.out.2.2.2 HB.out.2.2.1
  have s3 := b3.size
  have k8 : Kept (fun _ => False) w3 w8 := (G7.out.kept _).trans H8.out.2
  have k9 : Kept (fun _ => False) w3 w9 := (k8.alloc _).trans (G9.out.kept _)
  exact (HB.out.2.1.trans b3).trans (k9.below (Nat.le_trans HB.out.2.2.1 s3) (fun _ x => x.elim))
end Go.Proofs.Ytcipilggddpnpaa

/-
  Put, whatever the order and the parts: without the walk.
-/
namespace Go.Proofs.Ytcipilggddpnpaa
open Go.RowKit Go.Sort Go.Shelf Go.Maps
set_option linter.unusedVariables false

theorem putR_zero {L : List Ent} {x : Ent} : putR L x = 0 ↔ (¬ x.1 < 0 ∧ timeE x.2 = 0) ∧ ∀ y ∈ L, y.1 ≠ x.1 := by
  unfold putR
  by_cases h1 : x.1 < 0
  · rw [if_pos h1]; exact ⟨fun h => by omega, fun h => absurd h1 h.1.1⟩
  rw [if_neg h1]
  by_cases h2 : timeE x.2 = 0
  · rw [if_neg (fun h => h h2)]
    by_cases h3 : L.any (fun y => y.1 == x.1) = true
    · rw [if_pos h3]
      obtain ⟨y, hy, e⟩ := List.any_eq_true.1 h3
      exact ⟨fun h => by omega, fun h => absurd (by simpa using e) (h.2 y hy)⟩
    · rw [if_neg h3]
      exact ⟨fun _ => ⟨⟨h1, h2⟩, fun y hy e => h3 (List.any_eq_true.2 ⟨y, hy, by simpa using e⟩)⟩, fun _ => rfl⟩
  · rw [if_pos h2]
    exact ⟨fun h => absurd h h2, fun h => absurd h.1.2 h2⟩

/-- All of l may be put. -/
def Good (l : List Ent) : Prop := (∀ x ∈ l, ¬ x.1 < 0 ∧ timeE x.2 = 0) ∧ l.Pairwise (fun x y => x.1 ≠ y.1)
theorem putsR_zero : ∀ (l L : List Ent), putsR L l = 0 ↔ Good l ∧ ∀ x ∈ l, ∀ y ∈ L, y.1 ≠ x.1
  | [], L => ⟨fun _ => ⟨⟨fun x hx => (by cases hx), List.Pairwise.nil⟩, fun x hx => (by cases hx)⟩, fun _ => rfl⟩
  | x :: r, L => by
    show (if putR L x = 0 then putsR (x :: L) r else putR L x) = 0 ↔ _
    by_cases h : putR L x = 0
    · rw [if_pos h, putsR_zero r (x :: L)]
      obtain ⟨h1, h2⟩ := putR_zero.1 h
      constructor
      · rintro ⟨⟨g1, g2⟩, g3⟩
        refine ⟨⟨fun y hy => ?_, List.pairwise_cons.2 ⟨fun y hy => g3 y hy x (List.mem_cons_self ..), g2⟩⟩, fun y hy z hz => ?_⟩
        · rcases List.mem_cons.1 hy with rfl | hy
          · exact h1
          · exact g1 y hy
        · rcases List.mem_cons.1 hy with rfl | hy
          · exact h2 z hz
          · exact g3 y hy z (List.mem_cons_of_mem _ hz)
      · rintro ⟨⟨g1, g2⟩, g3⟩
        obtain ⟨p1, p2⟩ := List.pairwise_cons.1 g2
        refine ⟨⟨fun y hy => g1 y (List.mem_cons_of_mem _ hy), p2⟩, fun y hy z hz => ?_⟩
        rcases List.mem_cons.1 hz with rfl | hz
        · exact p1 y hy
        · exact g3 y (List.mem_cons_of_mem _ hy) z hz
    · rw [if_neg h]
      refine ⟨fun e => absurd e h, fun e => absurd (putR_zero.2 ⟨e.1.1 x (List.mem_cons_self ..), fun y hy => e.2 x (List.mem_cons_self ..) y hy⟩) h⟩
theorem Good.perm {l m : List Ent} (hp : l.Perm m) (h : Good l) : Good m :=
  ⟨fun x hx => h.1 x (hp.mem_iff.2 hx), (List.Perm.pairwise_iff (R := fun x y : Ent => x.1 ≠ y.1) (fun h => h.symm) hp).1 h.2⟩
theorem good_puts {l : List Ent} : putsR [] l = 0 ↔ Good l := (putsR_zero l []).trans ⟨fun h => h.1, fun h => ⟨h, fun x _ y hy => (by cases hy)⟩⟩
theorem good_back {l : List Ent} : putsR [] l.reverse = 0 ↔ putsR [] l = 0 := good_puts.trans ((Iff.intro (fun h => h.perm (List.reverse_perm l)) (fun h => h.perm (List.reverse_perm l).symm)).trans good_puts.symm)
theorem good_parts {l : List Ent} (n : Nat) (h : putsR [] l = 0) : putsR [] (l.take n) = 0 ∧ putsR ((l.take n).reverse ++ []) (l.drop n) = 0 := by
  obtain ⟨h1, h2⟩ := good_puts.1 h
  have e : l.take n ++ l.drop n = l := List.take_append_drop n l
  rw [← e] at h2
  obtain ⟨p1, p2, p3⟩ := List.pairwise_append.1 h2
  refine ⟨good_puts.2 ⟨fun x hx => h1 x (List.mem_of_mem_take hx), p1⟩, (putsR_zero _ _).2 ⟨⟨fun x hx => h1 x (List.mem_of_mem_drop hx), p2⟩, fun x hx y hy => ?_⟩⟩
  rw [List.append_nil, List.mem_reverse] at hy
  exact p3 y hy x hx
/-- What is left, behind a drop. -/
theorem sorted_filter {T : List Ent} (h : Sorted T) (p : Ent → Bool) : Sorted (T.filter p) := List.Pairwise.filter p h
theorem len_filter {T : List Ent} (hd : T.Pairwise (fun x y => x.1 ≠ y.1)) {m : Ent} (hm : m ∈ T) : (T.filter (fun y => y.1 != m.1)).length + 1 = T.length := by
  rw [← (erase_filter hd hm).length_eq, List.length_erase_of_mem hm]
  have := List.length_pos_of_mem hm
  omega
end Go.Proofs.Ytcipilggddpnpaa

/-
  ReadyJoins: several queues side by side; where nothing is asked.
-/
namespace Go.Proofs.Ytcipilggddpnpaa
open Go.RowKit Go.Sort Go.Shelf Go.Maps
set_option linter.unusedVariables false
set_option linter.unusedSimpArgs false

/-- Two queues have no block in common. -/
def Aside (q r : QB) : Prop := ∀ k, q.own k → r.own k → False
theorem Aside.symm {q r : QB} (h : Aside q r) : Aside r q := fun k a b => h k b a
theorem LeftQ.owns {B : Nat} {W W' : World} {q q' : QB} {L : List Ent} (h : LeftQ B W W' q q' L) : ∀ k, q'.own k → q.own k ∨ W.heap.size ≤ k := by
  rintro k (hk | hk | hk)
  · rcases h.moved k hk with e | e
    · exact .inl (.inl e)
    · exact .inr e
  · exact .inl (.inr (.inl (hk.trans h.here.1)))
  · exact .inl (.inr (.inr (hk.trans h.here.2)))
theorem Aside.left {B B' : Nat} {W W' : World} {q q' r : QB} {L M : List Ent} (h : Aside q r) (l : LeftQ B W W' q q' L) (hr : Qs B' W r M) : Aside q' r := fun k a b => by
  rcases l.owns k a with e | e
  · exact h k e b
  · have := hr.lt k b
    omega
/-- A queue stays what it is while another one is turned. -/
theorem Qs.beside {B B' : Nat} {W W' : World} {q q' r : QB} {L M : List Ent} (hr : Qs B' W r M) (l : LeftQ B W W' q q' L) (h : Aside q r) : Qs B' W' r M := hr.kept l.kept (fun b hb ht => h b (.inl ht) hb)
/-- A new one is apart from those that there are. -/
theorem apart_new {B : Nat} {W : World} {q r : QB} {M : List Ent} (hr : Qs B W r M) (h : ∀ k, q.own k → W.heap.size ≤ k) : Aside r q := fun k a b => by
  have := hr.lt k a
  have := h k b
  omega
/-- A slice that lay ahead of the queue's blocks. -/
theorem off_old {B : Nat} {W : World} {q : QB} {L : List Ent} (h : Qs B W q L) {a : Option Addr} (ha : ∀ x, a = some x → x.block < B) : Off a q.turns := fun x e ht => by
  have := h.from _ (.inl ht)
  have := ha x e
  omega

/-- As keys come in. -/
def IsKeys (w : World) (a : Option Addr) (len cap : Nat) (l : List Ent) : Prop := len = l.length ∧ len ≤ cap ∧ len ≤ 9223372036854775807 ∧ KeysAt w a l ∧ (∀ x, a = some x → x.block < w.heap.size) ∧ (a = none → len = 0 ∧ cap = 0)

end Go.Proofs.Ytcipilggddpnpaa

/-
  ReadyJoins: its walk.
-/
namespace Go.Proofs.Ytcipilggddpnpaa
open Go.RowKit Go.Sort Go.Shelf Go.Maps
set_option linter.unusedVariables false
set_option linter.unusedSimpArgs false

/-- The row v holds the first j of l; all else as it was in W0. -/
def RowTo (W0 : World) (l : List Ent) (v : Value) (j : Nat) (W : World) : Prop := W.ownsRow W0.heap.size 37 2 v j (flatR (l.take j)) ∧ Kept (fun _ => False) W0 W
theorem RowTo.next {W0 W w2 : World} {l : List Ent} {v v2 : Value} {j : Nat} (h : RowTo W0 l v j W) (hj : j < l.length) (o : Obj)
    (ho : w2.ownsRow W0.heap.size 37 2 v2 (j + 1) (flatR (l.take j) ++ [.int .i64 (l.getD j (0, 0)).2, .int .i64 (l.getD j (0, 0)).1])) (hg : (W.alloc o).grownBy w2 v.ownBlock) : RowTo W0 l v2 (j + 1) w2 := by
  refine ⟨?_, (h.2.alloc o).grown hg (fun i e => .inr (own_block h.1 i e))⟩
  have : l.take (j + 1) = l.take j ++ [l.getD j (0, 0)] := by
    rw [List.take_add_one, List.getD_eq_getElem?_getD, List.getElem?_eq_getElem hj]; rfl
  rw [this, flatR_append]
  exact ho
theorem rev_getD {l : List Ent} {j : Nat} (hj : j < l.length) : l.reverse.getD j (0, 0) = l.getD (l.length - 1 - j) (0, 0) := by
  rw [List.getD_eq_getElem?_getD, List.getD_eq_getElem?_getD, List.getElem?_reverse hj]

/-- Three queues side by side. -/
structure Tri (B : Nat) (W : World) (qa qb qc : QB) (La Lb Lc : List Ent) : Prop where
  a : Qs B W qa La
  b : Qs B W qb Lb
  c : Qs B W qc Lc
  ab : Aside qa qb
  ac : Aside qa qc
  bc : Aside qb qc
theorem Tri.kept {B : Nat} {W W' : World} {qa qb qc : QB} {La Lb Lc : List Ent} (h : Tri B W qa qb qc La Lb Lc) (k : Kept (fun _ => False) W W') : Tri B W' qa qb qc La Lb Lc :=
  ⟨h.a.kept k (fun _ _ x => x), h.b.kept k (fun _ _ x => x), h.c.kept k (fun _ _ x => x), h.ab, h.ac, h.bc⟩
theorem Tri.turnA {B : Nat} {W W' : World} {qa qa' qb qc : QB} {La La' Lb Lc : List Ent} (h : Tri B W qa qb qc La Lb Lc) (l : LeftQ B W W' qa qa' La') : Tri B W' qa' qb qc La' Lb Lc :=
  ⟨l.queue, h.b.beside l h.ab, h.c.beside l h.ac, h.ab.left l h.b, h.ac.left l h.c, h.bc⟩
theorem Tri.turnB {B : Nat} {W W' : World} {qa qb qb' qc : QB} {La Lb Lb' Lc : List Ent} (h : Tri B W qa qb qc La Lb Lc) (l : LeftQ B W W' qb qb' Lb') : Tri B W' qa qb' qc La Lb' Lc :=
  ⟨h.a.beside l h.ab.symm, l.queue, h.c.beside l h.bc, (h.ab.symm.left l h.a).symm, h.ac, h.bc.left l h.c⟩
theorem Tri.turnC {B : Nat} {W W' : World} {qa qb qc qc' : QB} {La Lb Lc Lc' : List Ent} (h : Tri B W qa qb qc La Lb Lc) (l : LeftQ B W W' qc qc' Lc') : Tri B W' qa qb qc' La Lb Lc' :=
  ⟨h.a.beside l h.ac.symm, h.b.beside l h.bc.symm, l.queue, h.ab, (h.ac.symm.left l h.a).symm, (h.bc.symm.left l h.b).symm⟩

end Go.Proofs.Ytcipilggddpnpaa

/-
  A range over a function, round by round, for an iterator that goes through another one: what it keeps of its caller abides what it writes into blocks that are its own.
-/
namespace Go.Proofs.Ytcipilggddpnpaa
open Go.RowKit
set_option linter.unusedVariables false

/-- The cells in the blocks F, and in the c blocks from b on, lie as they lay. -/
def KeepB (F : Nat → Prop) (c b : Nat) (A B : World) : Prop := ∀ k o, (F k ∨ (b ≤ k ∧ k < b + c)) → A.heap[k]? = some o → o.isCells = true → B.heap[k]? = some o
theorem KeepB.refl (F : Nat → Prop) (c b : Nat) (A : World) : KeepB F c b A A := fun _ _ _ h _ => h
theorem KeepB.trans {F : Nat → Prop} {c b : Nat} {A B C : World} (h : KeepB F c b A B) (k : KeepB F c b B C) : KeepB F c b A C := fun i o hi ho hc => k i o hi (h i o hi ho hc) hc
theorem KeepB.put {F : Nat → Prop} {c b : Nat} (W : World) (l : Nat) (o o' : Obj) (hl : W.heap[l]? = some o) (ho : o.isCells = false) : KeepB F c b W (W.putObj l o') := fun k o2 _ h hc => by
  by_cases e : k = l
  · subst e
    rw [hl] at h
    cases h
    rw [ho] at hc
    cases hc
  · exact (World.putObj_heap_other e).trans h
theorem KeepB.mono {F F' : Nat → Prop} {c c' b b' : Nat} {A B : World} (h : KeepB F c b A B) (hs : ∀ k, (F' k ∨ (b' ≤ k ∧ k < b' + c')) → (F k ∨ (b ≤ k ∧ k < b + c))) : KeepB F' c' b' A B := fun k o hk => h k o (hs k hk)

/-- An iterator that hands out encs 0, .., encs (N - 1), in this order, to whatever body keeps F and the c blocks that it makes for itself; it may have loops of its own. -/
def SeqOwn (P : Program) (gf : Nat) (lb : Array Value) (encs : Nat → Array Value) (F : Nat → Prop) (c : Nat) (N : Nat) (w : World) : Prop :=
  ∀ (l : Nat) (J Jx : Nat → World → Prop) (W : World), Below w.heap.size w W → OwnFrom W.heap.size J → OwnFrom W.heap.size Jx →
    (∀ k W1, k < N → J k W1 → W.heap.size + c ≤ W1.heap.size → YieldAt Fence.wide 8 P l (encs k) W1 fun e W' => KeepsFrom W.heap.size W1 W' ∧ ((e = .returned (.bool true) ∧ J (k + 1) W' ∧ KeepB F c W.heap.size W1 W') ∨ (e = .returned (.bool false) ∧ Jx k W'))) →
    J 0 W → CallsIn Fence.wide 9 P gf (#[.func (.yield l) #[] #[]] ++ lb) W fun e W' => (∃ v, e = .returned v) ∧ (J N W' ∨ ∃ k, k < N ∧ Jx k W')
theorem ownFrom_abides {β : Type} {B : Nat} {J : β → World → Prop} (h : OwnFrom B J) : AbidesFrom B J := fun s W W' row hs hg hr =>
  h s W W' row hs hg (fun r e => by obtain ⟨h1, o, h2, h3⟩ := hr r e; exact ⟨h1, o, h2, Obj.not_cells_of_walk h3⟩)
theorem ownFrom_mono {β : Type} {B B' : Nat} {J : β → World → Prop} (h : OwnFrom B J) (hB : B ≤ B') : OwnFrom B' J := fun s W W' row hs hg hr =>
  h s W W' row hs hg (fun r e => by obtain ⟨h1, h2⟩ := hr r e; exact ⟨Nat.le_trans hB h1, h2⟩)
theorem RoundIn.any {n m : Nat} {P : Program} {l l2 : Nat} {f : FuncId} {tmps : Array Value} {assign body : Code} {w : World} {R : Ending → World → Prop} (h : RoundIn Fence.wide n P l f tmps assign body w R) : RoundIn (Fence.wide.inRound l2) m P l f tmps assign body w R :=
  ⟨h.1, fun c cs _ => h.2 c cs (room_wide _)⟩
theorem keeps_mono {B B' : Nat} {W W' : World} (h : KeepsFrom B W W') (hB : B ≤ B') : KeepsFrom B' W W' := ⟨h.size, fun k o hk => h.same k o (Nat.le_trans hB hk)⟩
theorem keepsFrom_put {B l : Nat} (W : World) (o : Obj) (hl : l < B) : KeepsFrom B W (W.putObj l o) :=
  ⟨by simp [World.putObj], fun k o' hk h _ => (World.putObj_heap_other (by omega)).trans h⟩

theorem wp_rangeOwn {P : Program} {g : Operand} {ps : Array Tmp} {assign body : Code} {Q : Exit → Act → World → Prop} {a : Act} {w : World} {gf : Nat} {lb : Array Value}
    (hg : a.eval g = .func (.func gf) #[] lb) (eg : ∀ args w, (callFunc gf args).run P w = .ok (.enter gf args) w)
    {encs : Nat → Array Value} {F : Nat → Prop} {c : Nat} {N : Nat} {w0 : World} (hseq : SeqOwn P gf lb encs F c N w0)
    (hb0 : Below w0.heap.size w0 w) (hps : ∀ k, (encs k).size = ps.size)
    (I : Nat → World → Prop) (Ix : Code → Nat → World → Prop) (hI : OwnFrom w.heap.size I) (hIx : ∀ c, OwnFrom w.heap.size (Ix c)) (h0 : I 0 w)
    (hround : ∀ (l k : Nat) (W : World), k < N → I k W → w.heap.size + 2 + c ≤ W.heap.size →
      assign.wpIn (Fence.wide.inRound l) 8 P (Exit.then (fun a' W' => KeepsFrom w.heap.size W W' ∧ KeepB F c (w.heap.size + 2) W W' ∧ ∀ W'', Busy w.heap.size W' W'' → body.wpIn (Fence.wide.inRound l) 8 P (postNth w.heap.size (KeepB F c (w.heap.size + 2)) I Ix k W'') a' W'') (fun _ _ _ => False)) { tmps := (ps.zip (encs k)).foldl (fun t (p, v) => t.setIfInBounds p v) a.tmps, defers := [] } W)
    (hdone : ∀ (D : Nat) (W : World), w.heap.size ≤ D → I N W → W.heap[D]? = some (.deferred (some [])) → Q .normal { a with defers := { target := .collected D, args := #[] } :: a.defers } W)
    (hstop : ∀ (D : Nat) (c : Code) (k : Nat) (W : World), w.heap.size ≤ D → k < N → Ix c k W → W.heap[D]? = some (.deferred (some [])) → c.wp P Q { a with defers := { target := .collected D, args := #[] } :: a.defers } W) :
    (Code.rangeFunc g ps assign body).wp P Q a w := by
  refine (wpIn_wide (n := 10)).1 (wpIn_rangeFunc fun fn hfn => ?_)
  show ∃ (l : Nat) (mark : List Deferred) (w₁ : World) (d : Deferred) (w₁' : World) (f : FuncId) (args : Array Value) (w₂ : World), (Instr.enterLoop fn a.tmps ps assign body none).run P w = .ok (l, mark) w₁ ∧ _
  rw [run_enterLoop_outer]
  obtain ⟨r0, hr0⟩ : ∃ r : Loop, r = { state := .ready, pending := none, fn, tmps := a.tmps, params := ps, assign, body, defers := w.heap.size } := ⟨_, rfl⟩
  rw [← hr0]
  obtain ⟨W1, hW1⟩ : ∃ W1, (w.alloc (.deferred (some []))).alloc (.loop r0) = W1 := ⟨_, rfl⟩
  rw [hW1]
  have z1 : W1.heap.size = w.heap.size + 2 := by rw [← hW1]; simp
  have bk1 : Book (w.heap.size + 1) w.heap.size r0 W1 := by
    rw [← hW1]
    refine ⟨?_, (Below.heap_alloc _ _ _ (by simp)).trans (World.alloc_heap_new w _)⟩
    have := World.alloc_heap_new (w.alloc (.deferred (some []))) (.loop r0)
    rwa [World.size_alloc] at this
  have hI1 : I 0 W1 := by rw [← hW1]; exact hI.alloc _ (hI.alloc _ h0)
  have hB1 : Below w0.heap.size w0 W1 := by
    rw [← hW1]
    exact hb0.trans ((((Below.refl _ w).alloc (Nat.le_refl _) _).alloc (by simp) _).mono hb0.size)
  refine ⟨_, _, _, { target := .fn (.func gf) lb, args := #[.func (.yield (w.heap.size + 1)) #[] #[]] }, W1, gf, #[.func (.yield (w.heap.size + 1)) #[] #[]] ++ lb, W1, rfl, ?_, ?_, ?_, fun _ => by omega, ?_⟩
  · simp only [resolve, hg]
    simp [go_sem]
  · intro f' hf'
    trivial
  · simp [invoke, go_sem, eg]
  have far : ∀ {A : World} {row : Option Nat}, (∀ r, row = some r → W1.heap.size ≤ r ∧ ∃ o : Obj, A.heap[r]? = some o ∧ o.isCells = false) → ∀ r, row = some r → w.heap.size ≤ r ∧ ∃ o : Obj, A.heap[r]? = some o ∧ o.isCells = false := fun hr r e => by
    obtain ⟨h1, o, h2, h3⟩ := hr r e
    exact ⟨by omega, o, h2, h3⟩
  have farB : ∀ {A B : World} {row : Option Nat} {r : Loop}, Book (w.heap.size + 1) w.heap.size r A → A.grownBy B row → (∀ r, row = some r → W1.heap.size ≤ r ∧ ∃ o : Obj, A.heap[r]? = some o ∧ o.isCells = false) → Book (w.heap.size + 1) w.heap.size r B := fun hbk hg' hr =>
    ⟨(hg'.block _ (Array.getElem?_eq_some_iff.1 hbk.1).1 (fun e => by have := (hr _ e.symm).1; omega)).trans hbk.1, (hg'.block _ (Array.getElem?_eq_some_iff.1 hbk.2).1 (fun e => by have := (hr _ e.symm).1; omega)).trans hbk.2⟩
  refine (hseq (w.heap.size + 1) (fun k W => I k W ∧ Book (w.heap.size + 1) w.heap.size r0 W) (fun k W => ∃ c, Ix c k W ∧ Book (w.heap.size + 1) w.heap.size { r0 with state := .done, pending := some c } W) W1 hB1 ?_ ?_ ?_ ⟨hI1, bk1⟩).mono ?_
  · rintro s A B row ⟨h1, h2⟩ hg' hr
    exact ⟨hI s A B row h1 hg' (far hr), farB h2 hg' hr⟩
  · rintro s A B row ⟨c, h1, h2⟩ hg' hr
    exact ⟨c, hIx c s A B row h1 hg' (far hr), farB h2 hg' hr⟩
  · rintro k W hk ⟨hi, bk⟩ hz
    have hy := run_yield (P := P) (args := encs k) bk.1 (by rw [hr0]; exact hps k)
    rw [hr0] at hy
    refine ⟨fn, _, assign, body, hy, roundIn_of_wpIn hfn (wpIn_mono (hround _ k W hk hi (by rw [z1] at hz; exact hz)) ?_)⟩
    intro e a' Wa hp
    cases e with
    | normal =>
      obtain ⟨kf, kp, hax⟩ := hp
      have bka := bk.from kf (by omega) (Nat.le_refl _)
      refine ⟨_, run_beginRound bka.1 (by rw [hr0]), ?_⟩
      have bkb := bka.put (by omega) { r0 with state := .busy }
      have kpb := KeepB.put (F := F) (c := c) (b := w.heap.size + 2) _ _ _ (.loop { r0 with state := .busy }) bka.1 rfl
      have axb := hax _ ⟨_, _, _, (by omega : w.heap.size ≤ w.heap.size + 1), bka.1, rfl, (rfl : _ = Wa.putObj (w.heap.size + 1) (.loop { r0 with state := .busy }))⟩
      have KK : KeepsFrom W1.heap.size W (Wa.putObj (w.heap.size + 1) (.loop { r0 with state := .busy })) := (keeps_mono kf (by omega)).trans (keepsFrom_put _ _ (by omega))
      generalize Wa.putObj (w.heap.size + 1) (.loop { r0 with state := .busy }) = Wb at *
      refine wpIn_mono axb ?_
      intro e2 a2 W2 hp2
      cases e2 with
      | normal =>
        obtain ⟨kf2, kp2, i2⟩ := hp2
        have b2 := bkb.from kf2 (by omega) (Nat.le_refl _)
        refine ⟨_, _, run_endRound none b2.1, KK.trans ((keeps_mono kf2 (by omega)).trans (keepsFrom_put _ _ (by omega))), .inl ⟨rfl, ⟨hI.putObj _ i2 (by omega) b2.1 rfl, ?_⟩, by rw [z1]; exact kp.trans (kpb.trans (kp2.trans (KeepB.put _ _ _ _ b2.1 rfl)))⟩⟩
        have b3 := b2.put (by omega) { r0 with state := .ready, pending := none }
        rw [hr0] at b3 ⊢
        exact b3
      | ret =>
        obtain ⟨kf2, i2⟩ := hp2
        have b2 := bkb.from kf2 (by omega) (Nat.le_refl _)
        exact ⟨_, _, run_endRound (some .ret) b2.1, KK.trans ((keeps_mono kf2 (by omega)).trans (keepsFrom_put _ _ (by omega))), .inr ⟨rfl, _, (hIx _).putObj _ i2 (by omega) b2.1 rfl, b2.put (by omega) _⟩⟩
      | exit id =>
        obtain ⟨kf2, i2⟩ := hp2
        have b2 := bkb.from kf2 (by omega) (Nat.le_refl _)
        exact ⟨_, _, run_endRound (some (.exit id)) b2.1, KK.trans ((keeps_mono kf2 (by omega)).trans (keepsFrom_put _ _ (by omega))), .inr ⟨rfl, _, (hIx _).putObj _ i2 (by omega) b2.1 rfl, b2.put (by omega) _⟩⟩
      | goto t =>
        obtain ⟨kf2, i2⟩ := hp2
        have b2 := bkb.from kf2 (by omega) (Nat.le_refl _)
        exact ⟨_, _, run_endRound (some (.goto t)) b2.1, KK.trans ((keeps_mono kf2 (by omega)).trans (keepsFrom_put _ _ (by omega))), .inr ⟨rfl, _, (hIx _).putObj _ i2 (by omega) b2.1 rfl, b2.put (by omega) _⟩⟩
      | panic ch => exact hp2.elim
      | outgrown => exact hp2.elim
    | ret => exact hp.elim
    | exit id => exact hp.elim
    | goto t => exact hp.elim
    | panic ch => exact hp.elim
    | outgrown => exact hp.elim
  · rintro e W2 ⟨⟨v, rfl⟩, ⟨hi, bk⟩ | ⟨k, hk, c, hi, bk⟩⟩
    · refine ⟨none, _, ?_, hdone _ _ (Nat.le_refl _) (hI.putObj (.loop { r0 with state := .exhausted }) hi (by omega) bk.1 rfl) (bk.put (by omega) _).2⟩
      have := run_endLoop (P := P) bk.1 (by rw [hr0]; simp)
      rw [this, hr0]
    · refine ⟨some c, _, ?_, wpIn_wide.2 (hstop _ c k _ (Nat.le_refl _) hk ((hIx c).putObj (.loop { r0 with state := .exhausted, pending := some c }) hi (by omega) bk.1 rfl) (bk.put (by omega) _).2)⟩
      exact run_endLoop (P := P) bk.1 (by simp)
end Go.Proofs.Ytcipilggddpnpaa

/-
  ready.Queue: the iterator of Until: those up to a time, in order, for a range over it.
-/
namespace Go.Proofs.Ytcipilggddpnpaa
open Go.RowKit Go.Sort Go.Shelf Go.Maps
set_option linter.unusedVariables false
set_option linter.unusedSimpArgs false
attribute [local go_sem] Oper.semAt_some

/-- How many of them are no later than t. -/
def untilN (t : Int) : List Ent → Nat
  | [] => 0
  | x :: r => if x.2 ≤ t then untilN t r + 1 else 0
theorem untilN_le (t : Int) : ∀ T : List Ent, untilN t T ≤ T.length
  | [] => Nat.le_refl _
  | x :: r => by
    unfold untilN
    have := untilN_le t r
    split <;> simp <;> omega
theorem untilN_lt (t : Int) : ∀ (T : List Ent) (k : Nat), k < untilN t T → (T.getD k (0, 0)).2 ≤ t
  | [], k, h => absurd h (Nat.not_lt_zero _)
  | x :: r, k, h => by
    unfold untilN at h
    split at h
    · rename_i hx
      cases k with
      | zero => exact hx
      | succ k => exact untilN_lt t r k (by omega)
    · omega
theorem untilN_at (t : Int) : ∀ (T : List Ent), untilN t T < T.length → t < (T.getD (untilN t T) (0, 0)).2
  | [], h => absurd h (Nat.not_lt_zero _)
  | x :: r, h => by
    unfold untilN at h ⊢
    split at h
    · rename_i hx
      rw [if_pos hx]
      exact untilN_at t r (by simpa using h)
    · rename_i hx
      rw [if_neg hx]
      show t < x.2
      omega

/-- All's iterator, whatever else its caller has. -/
theorem all_own (B c : Nat) (S : List K.Ent) (hlen : S.length ≤ 1099511627776) (w : World) (h : K.SeqAt B c S w) :
    ∃ rb, B ≤ rb ∧ rb < w.heap.size ∧ c < w.heap.size ∧ SeqOwn Try.prog 77 #[.pointer (some ⟨c, 0, none⟩)] (K.enN S) (fun k => k = c ∨ k = rb) 0 S.length w := by
  obtain ⟨hB, rv, hcell, hrv⟩ := h
  have hc : c < w.heap.size := (Array.getElem?_eq_some_iff.1 hcell).1
  rcases hrv with ⟨rfl, rfl⟩ | ⟨rb, cap, hBr, hne, rfl, hrow⟩
  · refine ⟨c, hB, hc, hc, fun l J Jx W hW hJ hJx hY h0 => ?_⟩
    have hcW := (hW.block c hc).trans hcell
    exact (K.all1_nth_nil l c J W (by simp [World.cell?, hcW]) h0).mono fun e W' ⟨he, hj⟩ => ⟨he, .inl hj⟩
  · refine ⟨rb, hBr, hrow.lt, hc, fun l J Jx W hW hJ hJx hY h0 => ?_⟩
    have hcW := (hW.block c hc).trans hcell
    have hrW := hrow.kept (hW.block rb hrow.lt)
    obtain ⟨⟨cur, hcur, _⟩, _⟩ := hrW
    have kept : ∀ {A A' : World} {row : Option Nat} (j : Nat) (o : Obj), A.heap[j]? = some o → j < W.heap.size → A.grownBy A' row → (∀ r, row = some r → W.heap.size ≤ r ∧ ∃ o : Obj, A.heap[r]? = some o ∧ o.isWalk = true) → A'.heap[j]? = some o := fun j o h1 h2 hg hr =>
      (hg.block j (Array.getElem?_eq_some_iff.1 h1).1 (fun e => by have := (hr _ e.symm).1; omega)).trans h1
    have hcl : c < W.heap.size := (Array.getElem?_eq_some_iff.1 hcW).1
    have hrl : rb < W.heap.size := (Array.getElem?_eq_some_iff.1 hcur).1
    refine (K.all1_nth c rb cap S hlen l (fun k V => J k V ∧ W.heap.size ≤ V.heap.size ∧ V.heap[c]? = some (.cells #[.slice (some ⟨rb, 0, none⟩) S.length cap] 104 (0, 0)) ∧ V.heap[rb]? = W.heap[rb]?) Jx W hcl hrl ?_ ?_ hcW (hrow.kept (hW.block rb hrow.lt)) ⟨h0, Nat.le_refl _, hcW, rfl⟩).mono ?_
    · rintro s A A' row ⟨h1, h2, h3, h4⟩ hg hr
      exact ⟨ownFrom_abides hJ s A A' row h1 hg hr, Nat.le_trans h2 hg.size, kept c _ h3 hcl hg hr, (kept rb _ (h4.trans hcur) hrl hg hr).trans hcur.symm⟩
    · rintro k W1 hk ⟨h1, h2, h3, h4⟩
      obtain ⟨fn, tmps, assign, body, hy, hR⟩ := hY k W1 hk h1 h2
      refine ⟨fn, tmps, assign, body, hy, hR.mono ?_⟩
      rintro e W' ⟨kf, ⟨rfl, hj, hkb⟩ | ⟨rfl, hx⟩⟩
      · have e3 := hkb c _ (.inl (.inl rfl)) h3 rfl
        have e4 := hkb rb _ (.inl (.inr rfl)) (h4.trans hcur) rfl
        exact .inl ⟨rfl, ⟨hj, Nat.le_trans h2 kf.size, e3, e4.trans hcur.symm⟩, e3.trans h3.symm, e4.trans (h4.trans hcur).symm⟩
      · exact .inr ⟨rfl, hx⟩
    · rintro e W' ⟨he, ⟨hj, _⟩ | hx⟩
      · exact ⟨he, .inl hj⟩
      · exact ⟨he, .inr hx⟩

/-- What Until's yield is handed in round k. -/
def enU (T : List Ent) (k : Nat) : Array Value := #[.agg #[.int .i64 (T.getD k (0, 0)).2, .int .i64 (T.getD k (0, 0)).1]]

set_option maxHeartbeats 2000000 in
set_option maxRecDepth 100000 in
theorem until_own {T : List Ent} {t : Int} (hlen : T.length ≤ 1099511627776) {w : World} {B cb cu ct : Nat} (hseq : K.SeqAt B cb (T.map kN) w) (hcu : cu < w.heap.size)
    (hu : w.cell? ⟨cu, 0, none⟩ = some (.func (.func 77) #[] #[.pointer (some ⟨cb, 0, none⟩)])) (hct : w.heap[ct]? = some (.cells #[.int .i64 t] 3 (0, 0))) :
    ∃ rb, B ≤ rb ∧ rb < w.heap.size ∧ SeqOwn Try.prog 52 #[.pointer (some ⟨cu, 0, none⟩), .pointer (some ⟨ct, 0, none⟩)] (enU T) (fun k => k = cb ∨ k = rb ∨ k = ct) 1 (untilN t T) w := by
  obtain ⟨rb, r1, r2, r3, hall⟩ := all_own B cb (T.map kN) (by rw [List.length_map]; exact hlen) w hseq
  refine ⟨rb, r1, r2, fun l J Jx W hW hJ hJx hY h0 => ?_⟩
  have hctl : ct < w.heap.size := (Array.getElem?_eq_some_iff.1 hct).1
  obtain ⟨W1, hW1⟩ : ∃ W1, W.alloc (.cells #[.func (.yield l) #[] #[]] 38) = W1 := ⟨_, rfl⟩
  have gW : Grew W W1 := by rw [← hW1]; exact (Grew.refl W).alloc _
  have y1 : W1.heap[W.heap.size]? = some (.cells #[.func (.yield l) #[] #[]] 38 (0, 0)) := by rw [← hW1]; exact heap_alloc_new _ _
  have j1 : J 0 W1 := by rw [← hW1]; exact hJ.alloc _ h0
  have z1 : W1.heap.size = W.heap.size + 1 := by rw [← hW1]; simp
  have b1 : Below w.heap.size w W1 := hW.trans (gW.below.mono hW.size)
  have u1 : W1.cell? ⟨cu, 0, none⟩ = some (.func (.func 77) #[] #[.pointer (some ⟨cb, 0, none⟩)]) := (b1.cell (p := ⟨cu, 0, none⟩) hcu).trans hu
  have t1 : W1.heap[ct]? = some (.cells #[.int .i64 t] 3 (0, 0)) := (b1.block ct hctl).trans hct
  have hctW : ct < W.heap.size := Nat.lt_of_lt_of_le hctl hW.size
  obtain ⟨sb, hsb⟩ : ∃ sb, W.heap.size = sb := ⟨_, rfl⟩
  rw [hsb] at y1 z1 hctW hY
  have hoI : OwnFrom W1.heap.size (fun (k : Nat) V => k ≤ untilN t T ∧ J k V ∧ V.heap[sb]? = some (.cells #[.func (.yield l) #[] #[]] 38 (0, 0)) ∧ V.heap[ct]? = some (.cells #[.int .i64 t] 3 (0, 0)) ∧ W1.heap.size ≤ V.heap.size) := by
    rintro s A A' row ⟨h1, h2, h3, h4, h5⟩ hg hr
    have keep : ∀ (j : Nat) (o : Obj), A.heap[j]? = some o → j < W1.heap.size → A'.heap[j]? = some o := fun j o q1 q2 => (hg.block j (Array.getElem?_eq_some_iff.1 q1).1 (fun e => by have := (hr _ e.symm).1; omega)).trans q1
    exact ⟨h1, (ownFrom_mono hJ (by omega)) s A A' row h2 hg hr, keep _ _ h3 (by omega), keep _ _ h4 (by omega), Nat.le_trans h5 hg.size⟩
  have H0 : 0 ≤ untilN t T ∧ J 0 W1 ∧ W1.heap[sb]? = some (.cells #[.func (.yield l) #[] #[]] 38 (0, 0)) ∧ W1.heap[ct]? = some (.cells #[.int .i64 t] 3 (0, 0)) ∧ W1.heap.size ≤ W1.heap.size := ⟨Nat.zero_le _, j1, y1, t1, Nat.le_refl _⟩
  have HJ : Hid (OwnFrom W.heap.size J ∧ OwnFrom W.heap.size Jx ∧ W1.heap.size = W.heap.size + 1) := ⟨hJ, hJx, by omega⟩
  have HW := Lib.hid hW1
  have HY := Lib.hid hY
  clear hW1 gW y1 j1 t1 hct hu hseq h0 hJ hJx hY hW
  refine callsIn_wide.2 ?_
  show Calls Try.prog 52 #[.func (.yield l) #[] #[], .pointer (some ⟨cu, 0, none⟩), .pointer (some ⟨ct, 0, none⟩)] W _
  refine calls_marks Try.func52 rfl ?_
  simp only [Try.ntmps52, List.size_toArray, List.length_cons, List.length_nil, Nat.reduceAdd, Nat.reduceSub, Array.replicate_succ, Array.replicate_zero, List.push_toArray, List.append_toArray, List.nil_append, List.cons_append]
  go_upto_region 1 with (fail)
  rw [HW.out]
  try rw [hsb]
  go_wp2_with fail
  refine wp_rangeOwn (gf := 77) (lb := #[.pointer (some ⟨cb, 0, none⟩)]) (encs := K.enN (T.map kN)) (F := fun k => k = cb ∨ k = rb) (c := 0) (N := (T.map kN).length) (w0 := w) ?hg ?eg hall b1 ?ps (fun (k : Nat) V => k ≤ untilN t T ∧ J k V ∧ V.heap[sb]? = some (.cells #[.func (.yield l) #[] #[]] 38 (0, 0)) ∧ V.heap[ct]? = some (.cells #[.int .i64 t] 3 (0, 0)) ∧ W1.heap.size ≤ V.heap.size) (fun c k V => c = .ret ∧ ((k = untilN t T ∧ J k V) ∨ (k < untilN t T ∧ Jx k V))) hoI ?hix H0 ?round ?done ?stop
  case hg => rfl
  case eg => exact enters_of Try.func77 (by kernel_rfl) rfl
  case ps => exact fun _ => rfl
  case hix =>
    rintro c s A A' row ⟨h1, h2 | h2⟩ hg hr
    · exact ⟨h1, .inl ⟨h2.1, (ownFrom_mono HJ.out.1 (by have := HJ.out.2.2; omega)) s A A' row h2.2 hg hr⟩⟩
    · exact ⟨h1, .inr ⟨h2.1, (ownFrom_mono HJ.out.2.1 (by have := HJ.out.2.2; omega)) s A A' row h2.2 hg hr⟩⟩
  case round =>
    intro l2 k Wk hks hi hz
    have e1 : K.rid (T.map kN) k = (T.getD k (0, 0)).1 := by unfold K.rid; rw [getD_kN]; rfl
    have e2 : K.rky (T.map kN) k = ((T.getD k (0, 0)).2, (T.getD k (0, 0)).1) := by unfold K.rky; rw [getD_kN]; rfl
    have hkl : k < T.length := by simpa using hks
    have hsz := hi.2.2.2.2
    have YY := HY.out k
    unfold enU at YY
    have LT := untilN_lt t T k
    have AT := fun h : k = untilN t T => untilN_at t T (h ▸ hkl)
    unfold K.enN
    rw [e1, e2]
    clear e1 e2
    by_cases hN : k < untilN t T
    · have htm := LT hN
      clear AT LT
      generalize T.getD k (0, 0) = x at *
      obtain ⟨id, tm⟩ := x
      simp only [] at htm YY ⊢
      gi_wp2
      obtain ⟨W2, hW2⟩ : ∃ W2, Wk.alloc (.cells #[.int .i64 tm, .int .i64 id] 37) = W2 := ⟨_, rfl⟩
      have g2 : Grew Wk W2 := by rw [← hW2]; exact (Grew.refl Wk).alloc _
      have hi2 := hoI.alloc (.cells #[.int .i64 tm, .int .i64 id] 37) hi
      rw [hW2] at hi2
      have kb2 : W2.heap[Wk.heap.size]? = some (.cells #[.int .i64 tm, .int .i64 id] 37 (0, 0)) := by rw [← hW2]; exact heap_alloc_new _ _
      rw [hW2]
      refine ⟨(g2.kept (fun _ => False)).from _ (fun _ x => x.elim), fun j o _ h _ => (g2.block (Array.getElem?_eq_some_iff.1 h).1).trans h, fun Wb hbz => ?_⟩
      have hi3 := hbz.own hoI hi2
      have kb3 : Wb.heap[Wk.heap.size]? = some (.cells #[.int .i64 tm, .int .i64 id] 37 (0, 0)) := hbz.own (s := 0) (cells_own rfl) kb2
      obtain ⟨h0, h1, h2, h3, h4⟩ := hi3
      have c1 : Wb.cell? ⟨sb, 0, none⟩ = some (.func (.yield l) #[] #[]) := by simp [World.cell?, h2]
      have c2 : Wb.cell? ⟨ct, 0, none⟩ = some (.int .i64 t) := by simp [World.cell?, h3]
      have c3 : Wb.cell? ⟨Wk.heap.size, 0, none⟩ = some (.int .i64 tm) := by simp [World.cell?, kb3]
      have c4 : Wb.cell? ⟨Wk.heap.size, 1, none⟩ = some (.int .i64 id) := by simp [World.cell?, kb3]
      have t1 : decide (tm > t) = false := decide_eq_false (by omega)
      have t2 : decide (t < tm) = false := decide_eq_false (by omega)
      obtain ⟨fn, tmps, assign, body, hy, hR⟩ := YY Wb hN h1 (by omega)
      have HH : Hid (Wb.heap[sb]? = some (.cells #[.func (.yield l) #[] #[]] 38 (0, 0)) ∧ Wb.heap[ct]? = some (.cells #[.int .i64 t] 3 (0, 0)) ∧ W1.heap.size ≤ Wb.heap.size) := ⟨h2, h3, h4⟩
      obtain ⟨kb, hkb⟩ : ∃ kb, Wk.heap.size = kb := ⟨_, rfl⟩
      rw [hkb] at c3 c4 ⊢
      clear h0 h1 h2 h3 h4 hi2 kb2 kb3 hi g2 hbz hW2 H0 YY hoI
      gi_wp2
      refine (RoundIn.any hR).mono ?_
      rintro e W3 ⟨kf, (⟨rfl, hJ3, hk3⟩ | ⟨rfl, hJx3⟩)⟩
      · have HF : Hid (KeepsFrom W1.heap.size Wb W3 ∧ KeepB (fun k => k = cb ∨ k = rb) 0 (W1.heap.size + 2) Wb W3 ∧ k + 1 ≤ untilN t T ∧ J (k + 1) W3 ∧ W3.heap[sb]? = some (.cells #[.func (.yield l) #[] #[]] 38 (0, 0)) ∧ W3.heap[ct]? = some (.cells #[.int .i64 t] 3 (0, 0)) ∧ W1.heap.size ≤ W3.heap.size) := by
          refine ⟨keeps_mono kf (by omega), hk3.mono (fun j hj => ?_), by omega, hJ3, hk3 sb _ (.inr (by omega)) HH.out.1 rfl, hk3 ct _ (.inl (.inr (.inr rfl))) HH.out.2.1 rfl, Nat.le_trans HH.out.2.2 kf.size⟩
          rcases hj with (e | e) | e
          · exact .inl (.inl e)
          · exact .inl (.inr (.inl e))
          · omega
        clear kf hJ3 hk3 HH hR hy
        gi_wp2
        exact HF.out
      · have HF : Hid (KeepsFrom W1.heap.size Wb W3 ∧ Jx k W3) := ⟨keeps_mono kf (by omega), hJx3⟩
        clear kf hJx3 HH hR hy
        gi_wp2
        exact ⟨HF.out.1, rfl, .inr ⟨hN, HF.out.2⟩⟩
    · have hkN : k = untilN t T := by have := hi.1; omega
      have htm := AT hkN
      rw [← hkN] at htm
      clear AT LT YY
      generalize T.getD k (0, 0) = x at *
      obtain ⟨id, tm⟩ := x
      simp only [] at htm ⊢
      gi_wp2
      obtain ⟨W2, hW2⟩ : ∃ W2, Wk.alloc (.cells #[.int .i64 tm, .int .i64 id] 37) = W2 := ⟨_, rfl⟩
      have g2 : Grew Wk W2 := by rw [← hW2]; exact (Grew.refl Wk).alloc _
      have hi2 := hoI.alloc (.cells #[.int .i64 tm, .int .i64 id] 37) hi
      rw [hW2] at hi2
      have kb2 : W2.heap[Wk.heap.size]? = some (.cells #[.int .i64 tm, .int .i64 id] 37 (0, 0)) := by rw [← hW2]; exact heap_alloc_new _ _
      rw [hW2]
      refine ⟨(g2.kept (fun _ => False)).from _ (fun _ x => x.elim), fun j o _ h _ => (g2.block (Array.getElem?_eq_some_iff.1 h).1).trans h, fun Wb hbz => ?_⟩
      have hi3 := hbz.own hoI hi2
      have kb3 : Wb.heap[Wk.heap.size]? = some (.cells #[.int .i64 tm, .int .i64 id] 37 (0, 0)) := hbz.own (s := 0) (cells_own rfl) kb2
      obtain ⟨h0, h1, h2, h3, h4⟩ := hi3
      have c2 : Wb.cell? ⟨ct, 0, none⟩ = some (.int .i64 t) := by simp [World.cell?, h3]
      have c3 : Wb.cell? ⟨Wk.heap.size, 0, none⟩ = some (.int .i64 tm) := by simp [World.cell?, kb3]
      have t1 : decide (tm > t) = true := decide_eq_true (by omega)
      have t2 : decide (t < tm) = true := decide_eq_true (by omega)
      have HF : Hid (J k Wb) := h1
      clear h0 h1 h2 h3 h4 hi2 kb2 kb3 hi g2 hbz hW2 H0 hoI
      gi_wp2
      refine ⟨(fun f hf => by cases hf), ?_⟩
      gi_wp2
      exact ⟨KeepsFrom.refl _ _, rfl, .inl ⟨hkN, HF.out⟩⟩
  case done =>
    intro D W5 hD hi hdef
    have hN : untilN t T = (T.map kN).length := by
      have h1 := hi.1
      have h2 := untilN_le t T
      rw [List.length_map] at h1 ⊢
      omega
    have hj : J (untilN t T) (W5.putObj D (.deferred none)) := by
      rw [hN]
      exact HJ.out.1.putObj _ hi.2.1 (by have := HJ.out.2.2; omega) hdef rfl
    have HF := Lib.hid hj
    clear hi hj hoI H0 HY
    go_wp2_with fail
    refine leave_one hdef ⟨.tuple #[], by simp [results, Try.f52, go_sem], ⟨_, rfl⟩, .inl HF.out⟩
  case stop =>
    intro D c k W5 hD hks hx hdef
    obtain ⟨rfl, hx⟩ := hx
    have hj : J (untilN t T) (W5.putObj D (.deferred none)) ∨ ∃ k, k < untilN t T ∧ Jx k (W5.putObj D (.deferred none)) := by
      rcases hx with ⟨h1, h2⟩ | ⟨h1, h2⟩
      · rw [← h1]
        exact .inl (HJ.out.1.putObj _ h2 (by have := HJ.out.2.2; omega) hdef rfl)
      · exact .inr ⟨k, h1, HJ.out.2.1.putObj _ h2 (by have := HJ.out.2.2; omega) hdef rfl⟩
    have HF := Lib.hid hj
    clear hx hj hoI H0 HY
    go_wp2_with fail
    refine leave_one hdef ⟨.tuple #[], by simp [results, Try.f52, go_sem], ⟨_, rfl⟩, HF.out⟩
end Go.Proofs.Ytcipilggddpnpaa

/-
  (*Heap[api.Key]).Copy, whatever its order: a heap of its own that holds the same.
-/
namespace Go.Proofs.Ytcipilggddpnpaa.K
open Go.RowKit Go.Sort Go.Shelf Go.Maps
set_option linter.unusedVariables false
set_option linter.unusedSimpArgs false
attribute [local go_sem] Oper.semAt_some

theorem Hs.lower {fv : Value} {lt : Ky → Ky → Bool} {B B' : Nat} {w : World} {hb mb : Nat} {ro : Option Nat} {C : List Ent} (h : Hs fv lt B w hb mb ro C) (hB : B' ≤ B) : Hs fv lt B' w hb mb ro C :=
  ⟨h.rows, fun k hk => Nat.le_trans hB (h.base k hk), h.ord⟩
/-- The numbers are all different. -/
def Dif (S : List Ent) : Prop := S.Pairwise (fun x y => x.1 ≠ y.1)

/-- Between two rounds: the first k entries of S are in the copy; all else is as it was. -/
def CpyI (fv : Value) (lt : Ky → Ky → Bool) (B : Nat) (W1 : World) (hc mc : Nat) (S : List Ent) (k : Nat) (W : World) : Prop :=
  ∃ ro, Hs fv lt B W hc mc ro (S.take k) ∧ (∀ b, ro = some b → W1.heap.size ≤ b) ∧ Kept (fun i => i = hc ∨ i = mc) W1 W

theorem cpyI_own {fv : Value} {lt : Ky → Ky → Bool} {B : Nat} {W1 : World} {hc mc : Nat} {S : List Ent} (h1 : hc < W1.heap.size) (h2 : mc < W1.heap.size) : OwnFrom W1.heap.size (CpyI fv lt B W1 hc mc S) := fun k A B' row hs hg hr => by
  obtain ⟨ro, p1, p2, p3⟩ := hs
  have kk : Kept (fun i => row = some i) A B' := ⟨hg.os, hg.tape, hg.output, hg.size, fun i hi hn => hg.block i hi (fun e => hn e.symm)⟩
  refine ⟨ro, p1.kept kk (fun b hm e => ?_) (fun b o e ho => ?_), p2, p3.grown hg (fun i e => .inr (hr i e).1)⟩
  rotate_left
  · obtain ⟨_, o', ho', hc'⟩ := hr b e
    rw [ho] at ho'
    cases ho'
    cases o <;> first | (intro h; cases h; done) | (cases hc'; done)
  obtain ⟨hge, o, ho, hcell⟩ := hr b e
  rcases hm with rfl | rfl | e2
  · omega
  · omega
  · obtain ⟨⟨R, _, _, hP⟩, _, _⟩ := p1
    rcases hP with ⟨rfl, _⟩ | ⟨rb, cap, rfl, hh⟩
    · cases e2
    · cases e2
      obtain ⟨⟨cur, hcur, _⟩, _⟩ := hh.row
      rw [hcur] at ho
      cases ho
      cases hcell

theorem take_perm {S : List Ent} {k : Nat} (hk : k < S.length) : ((rid S k, rky S k) :: S.take k).Perm (S.take (k + 1)) := by
  have : S.take (k + 1) = S.take k ++ [S.getD k (0, 0, 0)] := by
    rw [List.take_add_one, List.getD_eq_getElem?_getD, List.getElem?_eq_getElem hk]; rfl
  rw [this]
  exact (List.perm_append_comm (l₁ := [S.getD k (0, 0, 0)])) 

theorem take_other {S : List Ent} (hd : Dif S) {k : Nat} (hk : k < S.length) : ∀ x ∈ S.take k, x.1 ≠ rid S k := fun x hx => by
  obtain ⟨i, hi, e⟩ := List.getElem_of_mem hx
  have hik : i < k := by have := List.length_take_le k S; simp at hi; omega
  have hil : i < S.length := by omega
  have : x = S.getD i (0, 0, 0) := by
    rw [← e, List.getElem_take, List.getD_eq_getElem?_getD, List.getElem?_eq_getElem hil]; rfl
  rw [this]
  exact List.pairwise_iff_getElem.1 hd i k hil hk hik |> fun h => by simpa [rid, List.getD_eq_getElem?_getD, List.getElem?_eq_getElem hil, List.getElem?_eq_getElem hk] using h

set_option maxHeartbeats 2000000 in
set_option maxRecDepth 100000 in
theorem copy_any (fv : Value) (lt : Ky → Ky → Bool) (B : Nat) (w : World) (hb mb : Nat) (ro : Option Nat) (C : List Ent) (h : Hs fv lt B w hb mb ro C) (hd : Dif C) (hok : ∀ x ∈ C, (0 ≤ x.1 ∧ Is64 x.1) ∧ Is64 x.2.1 ∧ Is64 x.2.2) (hl : C.length < 1099511627776) :
    Calls Try.prog 53 #[.pointer (some ⟨hb, 0, none⟩)] w fun e w' => ∃ hc mc rc, e = .returned (.pointer (some ⟨hc, 0, none⟩)) ∧ Hs fv lt w.heap.size w' hc mc rc C ∧ Kept (fun _ => False) w w' := by
  obtain ⟨fg, fcb, e0, _⟩ := h.less
  subst e0
  have mixed : Try.prog.follows .mixedOrders = true := by kernel_rfl
  have hmm := @run_makeMap Try.prog
  obtain ⟨W0, hW0⟩ : ∃ W0, ((w.alloc (.map #[] 0)).alloc (.cells #[(.func (.func fg) #[] fcb), .slice none 0 0, .map (some w.heap.size)] 106)).alloc (.cells #[.pointer (some ⟨w.heap.size + 1, 0, none⟩)] 82) = W0 := ⟨_, rfl⟩
  have g0 : Grew w W0 := by rw [← hW0]; exact (((Grew.refl w).alloc _).alloc _).alloc _
  have z0 : W0.heap.size = w.heap.size + 3 := by rw [← hW0]; simp
  have b1 : W0.heap[w.heap.size + 1]? = some (.cells #[(.func (.func fg) #[] fcb), .slice none 0 0, .map (some w.heap.size)] 106 (0, 0)) := by
    rw [← hW0, Below.heap_alloc _ _ _ (by simp)]
    have := heap_alloc_new (w.alloc (.map #[] 0)) (.cells #[(.func (.func fg) #[] fcb), .slice none 0 0, .map (some w.heap.size)] 106)
    simpa using this
  have b2 : W0.heap[w.heap.size + 1 + 1]? = some (.cells #[.pointer (some ⟨w.heap.size + 1, 0, none⟩)] 82 (0, 0)) := by
    rw [← hW0]
    have := heap_alloc_new ((w.alloc (.map #[] 0)).alloc (.cells #[(.func (.func fg) #[] fcb), .slice none 0 0, .map (some w.heap.size)] 106)) (.cells #[.pointer (some ⟨w.heap.size + 1, 0, none⟩)] 82)
    simpa using this
  have hH : Hs (.func (.func fg) #[] fcb) lt w.heap.size W0 (w.heap.size + 1) w.heap.size none [] := by
    refine ⟨⟨[], List.Perm.refl _, fun i _ hi => absurd hi (Nat.not_lt_zero _), .inl ⟨rfl, rfl, ⟨b1⟩, ?_⟩⟩, ?_, (h.ord.kept (g0.kept (fun _ => False)) (fun _ _ x => x.elim))⟩
    · rw [← hW0]
      exact ((World.ownsMap_made w _ _ _).alloc _).alloc _
    · rintro k (rfl | rfl | e)
      · omega
      · exact Nat.le_refl _
      · cases e
  have c0 : w.cell? ⟨hb, 0, none⟩ = some (.func (.func fg) #[] fcb) := by
    obtain ⟨⟨R, _, _, hP⟩, _, _⟩ := h
    rcases hP with ⟨_, _, hO, _⟩ | ⟨rb, cap, _, hh⟩
    · exact hO.c0
    · exact hh.obj.c0
  have C1 := Lib.hid (hs_all (h.grew g0))
  have HH := Lib.hid hH
  have HB := Lib.hid b2
  have G0 := Lib.hid g0
  have Z0 := Lib.hid z0
  have HW := Lib.hid hW0
  have HC : Hid (Dif C ∧ (∀ x ∈ C, (0 ≤ x.1 ∧ Is64 x.1) ∧ Is64 x.2.1 ∧ Is64 x.2.2) ∧ C.length < 1099511627776) := ⟨hd, hok, hl⟩
  clear hH b1 b2 g0 z0 hW0 h hd hok hl
  refine calls_marks Try.func53 rfl ?_
  simp only [Try.ntmps53, List.size_toArray, List.length_cons, List.length_nil, Nat.reduceAdd, Nat.reduceSub, Array.replicate_succ, Array.replicate_zero, List.push_toArray, List.append_toArray, List.nil_append, List.cons_append]
  go_wp2_with fail
  rw [HW.out]
  refine C1.out.mono ?_
  rintro e W1 ⟨S, rfl, hp, hsr, hseq, hk⟩
  have hSl : S.length < 1099511627776 := by rw [hp.length_eq]; exact HC.out.2.2
  have hSd : Dif S := (List.Perm.pairwise_iff (R := fun x y : Ent => x.1 ≠ y.1) (fun h => h.symm) hp).2 HC.out.1
  have hSo : ∀ x ∈ S, (0 ≤ x.1 ∧ Is64 x.1) ∧ Is64 x.2.1 ∧ Is64 x.2.2 := fun x hx => HC.out.2.1 x (hp.mem_iff.1 hx)
  obtain ⟨rb, r1, r2, r3, hnth⟩ := all_nth _ _ S (by omega) W1 hseq
  have z0 := Z0.out
  have zk := hk.size
  obtain ⟨cb, hcb⟩ : ∃ cb, W0.heap.size = cb := ⟨_, rfl⟩
  have zz : w.heap.size + 1 + 1 < cb := by omega
  have zc : cb ≤ W1.heap.size := by omega
  rw [hcb] at r1 r3 hnth ⊢
  have ptr : ∀ W, Kept (fun i => i = w.heap.size + 1 ∨ i = w.heap.size) W1 W → W.cell? ⟨w.heap.size + 1 + 1, 0, none⟩ = some (.pointer (some ⟨w.heap.size + 1, 0, none⟩)) := fun W k => by
    have e := (k.block (w.heap.size + 1 + 1) (by omega) (by omega)).trans ((hk.block _ (by omega) (fun x => x)).trans HB.out)
    simp [World.cell?, e]
  have H0 : CpyI (.func (.func fg) #[] fcb) lt w.heap.size W1 (w.heap.size + 1) w.heap.size S 0 W1 := ⟨none, HH.out.kept hk (fun _ _ x => x) (fun _ _ x => x.elim), (fun b e => by cases e), Kept.refl _ _⟩
  have hoI := cpyI_own (fv := (.func (.func fg) #[] fcb)) (lt := lt) (B := w.heap.size) (S := S) (show w.heap.size + 1 < W1.heap.size by omega) (show w.heap.size < W1.heap.size by omega)
  have PP := Lib.hid ptr
  have HP := Lib.hid hp
  have HS : Hid (Dif S ∧ ∀ x ∈ S, (0 ≤ x.1 ∧ Is64 x.1) ∧ Is64 x.2.1 ∧ Is64 x.2.2) := ⟨hSd, hSo⟩
  have K1 : Hid (Kept (fun _ => False) w W1) := (G0.out.kept _).trans hk
  clear hp hsr hseq hk C1 ptr hSd hSo z0 zk hcb HH HB
  go_wp2_with fail
  refine wp_rangeNth (gf := 77) (lb := #[.pointer (some ⟨cb, 0, none⟩)]) (encs := enN S) (Kp := Pair2 cb rb) (N := S.length) (w0 := W1) ?hg ?eg hnth ?kt ?kb (Below.refl _ _) ?ps (CpyI (.func (.func fg) #[] fcb) lt w.heap.size W1 (w.heap.size + 1) w.heap.size S) (fun _ _ _ => False) hoI ?hix H0 ?round ?done ?stop
  case hg => rfl
  case eg => exact enters_of Try.func77 (by kernel_rfl) rfl
  case kt => exact fun h k => h.trans k
  case kb => exact fun W l o o' h1 h2 h3 => Pair2.put r3 r2 W l o o' h1 h2 h3
  case ps => exact fun _ => rfl
  case hix => exact fun c s A B row hs _ _ => hs
  case stop => intro D c k W5 _ _ hx; exact hx.elim
  case round =>
    intro l k Wk hks hi
    unfold enN
    gi_wp2
    obtain ⟨W2, hW2⟩ : ∃ W2, Wk.alloc (.cells #[.int .i64 (rky S k).1, .int .i64 (rky S k).2] 37) = W2 := ⟨_, rfl⟩
    have g2 : Grew Wk W2 := by rw [← hW2]; exact (Grew.refl Wk).alloc _
    have hi2 := hoI.alloc (.cells #[.int .i64 (rky S k).1, .int .i64 (rky S k).2] 37) hi
    rw [hW2] at hi2
    have kb2 : W2.heap[Wk.heap.size]? = some (.cells #[.int .i64 (rky S k).1, .int .i64 (rky S k).2] 37 (0, 0)) := by rw [← hW2]; exact heap_alloc_new _ _
    have hszk : W1.heap.size ≤ Wk.heap.size := by obtain ⟨_, _, _, p3⟩ := hi; exact p3.size
    rw [hW2]
    refine ⟨(g2.kept (fun _ => False)).from _ (fun _ x => x.elim), ⟨g2.block (by omega), g2.block (by omega)⟩, fun Wb hbz => ?_⟩
    have kb3 : Wb.heap[Wk.heap.size]? = some (.cells #[.int .i64 (rky S k).1, .int .i64 (rky S k).2] 37 (0, 0)) := hbz.own (s := 0) (cells_own rfl) kb2
    have d3 : Wb.cell? ⟨Wk.heap.size, 0, none⟩ = some (.int .i64 (rky S k).1) := by simp [World.cell?, kb3]
    have d4 : Wb.cell? ⟨Wk.heap.size, 1, none⟩ = some (.int .i64 (rky S k).2) := by simp [World.cell?, kb3]
    obtain ⟨rc, p1, p2, p3⟩ := hbz.own hoI hi2
    clear kb2 kb3 hi2 g2 hW2 hbz
    have c1 := PP.out Wb p3
    have hx := HS.out.2 _ (mem_getD hks)
    have hsz := p3.size
    have CP := Lib.hid (hs_put p1 (by omega) (rid S k) (rky S k) hx.1 hx.2 (take_other HS.out.1 hks) (by rw [List.length_take]; omega))
    have HP3 : Hid (Hs (.func (.func fg) #[] fcb) lt w.heap.size Wb (w.heap.size + 1) w.heap.size rc (S.take k) ∧ (∀ b, rc = some b → W1.heap.size ≤ b) ∧ Kept (fun i => i = w.heap.size + 1 ∨ i = w.heap.size) W1 Wb) := ⟨p1, p2, p3⟩
    have HT := Lib.hid (take_perm hks)
    clear hi p1 p2 p3 hx
    simp only [kv] at CP
    generalize rky S k = ky at *
    obtain ⟨ky1, ky2⟩ := ky
    simp only [] at d3 d4 CP
    generalize rid S k = ki at *
    gi_wp2_with fail
    refine ⟨trivial, (CallsIn.inRound l (callsIn_wide.2 CP.out)).mono ?_⟩
    rintro e W2 ⟨rfl, rc', l2⟩
    have HL2 := Lib.hid l2
    clear l2 CP
    gi_wp2
    obtain ⟨p1, p2, p3⟩ := HP3.out
    have l2 := HL2.out
    have hmine : ∀ b, Mine (w.heap.size + 1) w.heap.size rc b → (b = w.heap.size + 1 ∨ b = w.heap.size) ∨ W1.heap.size ≤ b := fun b hm => by
      rcases hm with e | e | e
      · exact .inl (.inl e)
      · exact .inl (.inr e)
      · exact .inr (p2 b e)
    have hn1 : ¬ Mine (w.heap.size + 1) w.heap.size rc cb := fun hm => by rcases hmine _ hm with (e | e) | e <;> omega
    have hn2 : ¬ Mine (w.heap.size + 1) w.heap.size rc rb := fun hm => by rcases hmine _ hm with (e | e) | e <;> omega
    refine ⟨⟨l2.kept.size, fun i o hi ho hno => ?_⟩, ⟨l2.kept.block cb (by omega) hn1, l2.kept.block rb (by omega) hn2⟩, ?_⟩
    · refine (l2.kept.block i (Array.getElem?_eq_some_iff.1 ho).1 (fun hm => ?_)).trans ho
      rcases hm with e | e | e
      · omega
      · omega
      · obtain ⟨⟨R, _, _, hP⟩, _, _⟩ := p1
        rcases hP with ⟨rfl, _⟩ | ⟨rb2, cap2, rfl, hh⟩
        · cases e
        · cases e
          obtain ⟨⟨cur, hcur, _⟩, _⟩ := hh.row
          rw [hcur] at ho
          cases ho
          cases hno
    · refine ⟨rc', l2.heap.perm (HT.out), fun b e => ?_, ?_⟩
      · rcases l2.moved b e with e | e
        · exact p2 b e
        · omega
      · exact p3.andThen l2.kept hmine
  case done =>
    intro D W5 hD hi hdef
    obtain ⟨rc, p1, p2, p3⟩ := hi
    have c1 := PP.out W5 p3
    have HR : Hid (∃ rc, Hs (.func (.func fg) #[] fcb) lt w.heap.size W5 (w.heap.size + 1) w.heap.size rc C ∧ Kept (fun _ => False) w W5) := by
      refine ⟨rc, ?_, K1.out.andThen p3 (fun i e => .inr (by omega))⟩
      rw [List.take_length] at p1
      exact p1.perm HP.out
    clear p1 p2 p3
    go_wp2_with fail
    refine leave_one hdef ⟨.pointer (some ⟨w.heap.size + 1, 0, none⟩), by simp [results, Try.f53, go_sem], w.heap.size + 1, w.heap.size, ?_⟩
    obtain ⟨rc, q1, q2⟩ := HR.out
    have hk : Kept (fun i => i = D) W5 (W5.putObj D (.deferred none)) := (Kept.refl _ W5).grown (grownBy_putObj' W5 D _) (fun k e => by cases e; exact .inl rfl)
    refine ⟨rc, rfl, q1.kept hk (fun b hm e => ?_) (fun b o e ho => by subst e; rw [hdef] at ho; cases ho; intro h; cases h), q2.andThen hk (fun i e => .inr (by omega))⟩
    subst e
    obtain ⟨o, ho, ht⟩ := q1.kinds b hm
    rw [hdef] at ho
    cases ho
    rcases hm with e | e | e
    · omega
    · omega
    · obtain ⟨⟨R, _, _, hP⟩, _, _⟩ := q1
      rcases hP with ⟨rfl, _⟩ | ⟨rb2, cap2, rfl, hh⟩
      · cases e
      · cases e
        obtain ⟨⟨cur, hcur, _⟩, _⟩ := hh.row
        rw [hcur] at hdef
        cases hdef
end Go.Proofs.Ytcipilggddpnpaa.K
