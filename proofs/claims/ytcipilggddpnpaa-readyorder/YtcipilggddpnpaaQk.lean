/-
  ReadyJoins: several queues side by side; where nothing is asked.
-/
import Derived.Test.YtcipilggddpnpaaQj
namespace Go.Proofs.Ytcipilggddpnpaa
open Go.RowKit Go.Sort Go.Shelf Go.Maps
set_option linter.unusedVariables false
set_option linter.unusedSimpArgs false

/-- Two queues have no block in common. -/
def Aside (q r : QB) : Prop := ∀ k, q.own k → r.own k → False
theorem Aside.symm {q r : QB} (h : Aside q r) : Aside r q := fun k a b => h k b a
theorem LeftQ.owns {B : Nat} {W W' : World} {q q' : QB} {L : List Ent} (h : LeftQ B W W' q q' L) : ∀ k, q'.own k → q.own k ∨ W.heap.size ≤ k := by
  rintro k (hk | hk | hk)
  · rcases h.moved k hk with e | e
    · exact .inl (.inl e)
    · exact .inr e
  · exact .inl (.inr (.inl (hk.trans h.here.1)))
  · exact .inl (.inr (.inr (hk.trans h.here.2)))
theorem Aside.left {B B' : Nat} {W W' : World} {q q' r : QB} {L M : List Ent} (h : Aside q r) (l : LeftQ B W W' q q' L) (hr : Qs B' W r M) : Aside q' r := fun k a b => by
  rcases l.owns k a with e | e
  · exact h k e b
  · have := hr.lt k b
    omega
/-- A queue stays what it is while another one is turned. -/
theorem Qs.beside {B B' : Nat} {W W' : World} {q q' r : QB} {L M : List Ent} (hr : Qs B' W r M) (l : LeftQ B W W' q q' L) (h : Aside q r) : Qs B' W' r M := hr.kept l.kept (fun b hb ht => h b (.inl ht) hb)
/-- A new one is apart from those that there are. -/
theorem apart_new {B : Nat} {W : World} {q r : QB} {M : List Ent} (hr : Qs B W r M) (h : ∀ k, q.own k → W.heap.size ≤ k) : Aside r q := fun k a b => by
  have := hr.lt k a
  have := h k b
  omega
/-- A slice that lay ahead of the queue's blocks. -/
theorem off_old {B : Nat} {W : World} {q : QB} {L : List Ent} (h : Qs B W q L) {a : Option Addr} (ha : ∀ x, a = some x → x.block < B) : Off a q.turns := fun x e ht => by
  have := h.from _ (.inl ht)
  have := ha x e
  omega

/-- As keys come in. -/
def IsKeys (w : World) (a : Option Addr) (len cap : Nat) (l : List Ent) : Prop := len = l.length ∧ len ≤ cap ∧ len ≤ 9223372036854775807 ∧ KeysAt w a l ∧ (∀ x, a = some x → x.block < w.heap.size) ∧ (a = none → len = 0 ∧ cap = 0)

end Go.Proofs.Ytcipilggddpnpaa
