package ready_test

import (
	"cmp"
	"math"
	"slices"
	"testing"

	"metronome/api"
	"metronome/ready"
)

const horizon = 1099511627776 // the document's number, not the package's

// key is written as the document does: the deadline, then the server.
func key(at, id int) api.Key { return api.Key{At: at, ID: id} }

func made(t *testing.T, l ...api.Key) *ready.Queue {
	t.Helper()
	q := ready.New()
	if q == nil {
		t.Fatal("New = nil")
	}
	if e := q.Put(l...); e != api.OK {
		t.Fatalf("Put(%v) = %v", l, e)
	}
	return q
}

// sorted is the order of the document, by a sort of its own.
func sorted(there map[int]int) []api.Key {
	var out []api.Key
	for id, at := range there {
		out = append(out, key(at, id))
	}
	slices.SortFunc(out, func(a, b api.Key) int {
		return cmp.Or(cmp.Compare(a.At, b.At), cmp.Compare(a.ID, b.ID))
	})
	return out
}

// upTo is those of a list in order with a deadline that is no later.
func upTo(l []api.Key, at int) []api.Key {
	return slices.DeleteFunc(slices.Clone(l), func(k api.Key) bool { return k.At > at })
}

// holdsEnds checks First and Last.
func holdsEnds(t *testing.T, q *ready.Queue, want []api.Key) {
	t.Helper()
	first, e := q.First()
	last, f := q.Last()
	if len(want) == 0 {
		if first != (api.Key{}) || last != (api.Key{}) || e != api.ErrNone || f != api.ErrNone {
			t.Fatalf("First = %v, %v; Last = %v, %v; want ErrNone", first, e, last, f)
		}
		return
	}
	if first != want[0] || e != api.OK {
		t.Fatalf("First = %v, %v; want %v", first, e, want[0])
	}
	if last != want[len(want)-1] || f != api.OK {
		t.Fatalf("Last = %v, %v; want %v", last, f, want[len(want)-1])
	}
}

// holds checks all that a queue answers against the keys that it should have, in order; it leaves the queue as it is.
func holds(t *testing.T, q *ready.Queue, want ...api.Key) {
	t.Helper()
	if q.Len() != len(want) {
		t.Fatalf("Len = %d; want %d", q.Len(), len(want))
	}
	holdsEnds(t, q, want)
	for n := -1; n <= len(want)+1; n++ {
		if got := q.Least(n); !slices.Equal(got, want[:min(max(n, 0), len(want))]) {
			t.Fatalf("Least(%d) = %v of %v", n, got, want)
		}
	}
	if got := slices.Collect(q.Until(horizon)); !slices.Equal(got, want) {
		t.Fatalf("Until the end = %v; want %v", got, want)
	}
	for _, k := range want {
		if got, e := q.Get(k.ID); got != k || e != api.OK {
			t.Fatalf("Get(%d) = %v, %v; want %v", k.ID, got, e, k)
		}
		if got, l := slices.Collect(q.Until(k.At)), upTo(want, k.At); !slices.Equal(got, l) {
			t.Fatalf("Until(%d) = %v; want %v", k.At, got, l)
		}
		if got, l := slices.Collect(q.Until(k.At-1)), upTo(want, k.At-1); !slices.Equal(got, l) {
			t.Fatalf("Until(%d) = %v; want %v", k.At-1, got, l)
		}
	}
}

// emptiedFrom drops the ones at an end, again and again, and tells them in the order in which they went.
func emptiedFrom(t *testing.T, q *ready.Queue, end func(*ready.Queue) (api.Key, api.Errno)) []api.Key {
	t.Helper()
	var out []api.Key
	for n := q.Len(); n > 0; n-- {
		k, e := end(q)
		if e != api.OK {
			t.Fatalf("an end of %d = %v", n, e)
		}
		if d, e := q.Drop(k.ID); d != k || e != api.OK || q.Len() != n-1 {
			t.Fatalf("Drop(%d) = %v, %v; then Len %d", k.ID, d, e, q.Len())
		}
		out = append(out, k)
	}
	return out
}

// P4.1

func TestNew(t *testing.T) {
	q := ready.New()
	if q == nil {
		t.Fatal("New = nil")
	}
	holds(t, q)
}

func TestPut(t *testing.T) {
	q := ready.New()
	for _, c := range []struct {
		l    []api.Key
		want []api.Key
	}{
		{nil, nil},
		{[]api.Key{}, nil},
		{[]api.Key{key(50, 4)}, []api.Key{key(50, 4)}},
		{nil, []api.Key{key(50, 4)}},
		{[]api.Key{key(70, 2), key(60, 0)}, []api.Key{key(50, 4), key(60, 0), key(70, 2)}},
		{[]api.Key{key(0, 9)}, []api.Key{key(0, 9), key(50, 4), key(60, 0), key(70, 2)}},
		{[]api.Key{key(horizon-1, 1), key(55, math.MaxInt)},
			[]api.Key{key(0, 9), key(50, 4), key(55, math.MaxInt), key(60, 0), key(70, 2), key(horizon-1, 1)}},
	} {
		if e := q.Put(c.l...); e != api.OK {
			t.Errorf("Put(%v) = %v", c.l, e)
		}
		holds(t, q, c.want...)
	}
}

// TestPutOfAll: one Put of all, and one of each, are the same.
func TestPutOfAll(t *testing.T) {
	l := []api.Key{key(5, 1), key(3, 2), key(5, 0), key(9, 7), key(3, 8)}
	want := []api.Key{key(3, 2), key(3, 8), key(5, 0), key(5, 1), key(9, 7)}
	holds(t, made(t, l...), want...)
	q := ready.New()
	for _, k := range l {
		q.Put(k)
	}
	holds(t, q, want...)
}

// refusal is a key, and the error of a call that is handed it.
type refusal struct {
	k api.Key
	e api.Errno
}

// wrong is keys that may not be put into a queue with the servers 1, at 5, and 7, at 9.
func wrong() []refusal {
	return []refusal{
		{key(4, -1), api.ErrArg},
		{key(4, math.MinInt), api.ErrArg},
		{key(-1, 4), api.ErrRange},
		{key(math.MinInt, 4), api.ErrRange},
		{key(horizon, 4), api.ErrHorizon},
		{key(math.MaxInt, 4), api.ErrHorizon},
		{key(5, 1), api.ErrThere},
		{key(6, 1), api.ErrThere},
		{key(0, 7), api.ErrThere},
		// Several apply: the one that is named first is answered.
		{key(-1, -1), api.ErrArg},
		{key(horizon, -1), api.ErrArg},
		{key(math.MinInt, math.MinInt), api.ErrArg},
		{key(-1, 1), api.ErrRange},
		{key(horizon, 7), api.ErrHorizon},
	}
}

// TestPutWrong: a key that may not be, wherever it comes among others, and nothing of its list is put.
func TestPutWrong(t *testing.T) {
	for _, c := range wrong() {
		for _, l := range [][]api.Key{
			{c.k},
			{key(1, 20), c.k},
			{c.k, key(1, 20)},
			{key(1, 20), key(99, 0), c.k},
			{key(1, 20), c.k, key(99, 0)},
			{key(6, 20), key(0, 21), key(99, 22), c.k, key(7, 23)},
		} {
			q := made(t, key(9, 7), key(5, 1))
			was := slices.Clone(l)
			if e := q.Put(l...); e != c.e {
				t.Errorf("Put(%v) = %v; want %v", l, e, c.e)
			}
			if !slices.Equal(l, was) {
				t.Errorf("Put wrote %v into its list; it was %v", l, was)
			}
			holds(t, q, key(5, 1), key(9, 7))
			if k, e := q.Get(20); k != (api.Key{}) || e != api.ErrNone {
				t.Errorf("behind Put(%v) Get(20) = %v, %v; want ErrNone", l, k, e)
			}
			// What was refused along with it may still come.
			if e := q.Put(key(1, 20), key(99, 0)); e != api.OK {
				t.Errorf("behind Put(%v) nothing can be put: %v", l, e)
			}
			holds(t, q, key(1, 20), key(5, 1), key(9, 7), key(99, 0))
		}
	}
}

// TestPutKeyByKey: the error of the first key that has one is answered, though a later one's is named first.
func TestPutKeyByKey(t *testing.T) {
	for _, first := range wrong() {
		for _, second := range wrong() {
			q := made(t, key(9, 7), key(5, 1))
			if e := q.Put(key(1, 20), first.k, second.k, key(2, 21)); e != first.e {
				t.Errorf("Put of %v ahead of %v = %v; want %v", first.k, second.k, e, first.e)
			}
			holds(t, q, key(5, 1), key(9, 7))
		}
	}
}

func TestPutTwice(t *testing.T) {
	for _, c := range []struct {
		l []api.Key
		e api.Errno
	}{
		{[]api.Key{key(3, 4), key(3, 4)}, api.ErrThere},
		{[]api.Key{key(3, 4), key(8, 4)}, api.ErrThere},
		{[]api.Key{key(8, 4), key(3, 4)}, api.ErrThere},
		{[]api.Key{key(8, 4), key(3, 5), key(2, 6), key(3, 4), key(1, 8)}, api.ErrThere},
		{[]api.Key{key(8, 4), key(3, 4), key(1, -1)}, api.ErrThere},
		{[]api.Key{key(8, 4), key(3, 4), key(-1, 6)}, api.ErrThere},
		{[]api.Key{key(8, 4), key(1, -1), key(3, 4)}, api.ErrArg},
		{[]api.Key{key(8, 4), key(-1, 4)}, api.ErrRange},
		{[]api.Key{key(8, 4), key(horizon, 4)}, api.ErrHorizon},
		{[]api.Key{key(3, 4), key(9, 7), key(9, 4)}, api.ErrThere}, // 7 is there from before
	} {
		q := made(t, key(9, 7), key(5, 1))
		if e := q.Put(c.l...); e != c.e {
			t.Errorf("Put(%v) = %v; want %v", c.l, e, c.e)
		}
		holds(t, q, key(5, 1), key(9, 7))
	}
}

// TestPutLeavesTheList: what is handed in is not kept either.
func TestPutLeavesTheList(t *testing.T) {
	room := []api.Key{key(5, 1), key(3, 2), key(77, 77)}
	l := room[:2]
	q := made(t, l...)
	if !slices.Equal(room, []api.Key{key(5, 1), key(3, 2), key(77, 77)}) {
		t.Errorf("Put wrote into its list: %v", room)
	}
	l[0], l[1] = key(1, 9), key(1, 8)
	holds(t, q, key(3, 2), key(5, 1))
}

func TestPutAgain(t *testing.T) {
	q := made(t, key(5, 1), key(3, 2))
	q.Drop(2)
	if e := q.Put(key(8, 2)); e != api.OK {
		t.Errorf("Put behind Drop = %v", e)
	}
	holds(t, q, key(5, 1), key(8, 2))
}

func TestMove(t *testing.T) {
	there := map[int]int{1: 10, 2: 20, 3: 30, 4: 40, 5: 50, 6: 60, 7: 70}
	for _, c := range []struct {
		name string
		k    api.Key
	}{
		{"the last one to the front", key(5, 7)},
		{"one in the midst to the front", key(5, 4)},
		{"the first one to the end", key(75, 1)},
		{"one in the midst to the end", key(75, 4)},
		{"the first one further ahead", key(0, 1)},
		{"the last one further behind", key(horizon-1, 7)},
		{"one to the deadline that it has", key(40, 4)},
		{"one to a deadline that leaves it where it is", key(41, 4)},
		{"one a little ahead", key(25, 4)},
		{"one a little behind", key(55, 4)},
		{"one to the deadline of a smaller number", key(20, 4)},
		{"one to the deadline of a greater number", key(60, 4)},
		{"one to the deadline of the first", key(10, 4)},
		{"one to the deadline of the last", key(70, 4)},
		{"the last one to the deadline of the first", key(10, 7)},
		{"the first one to the deadline of the last", key(70, 1)},
	} {
		q := made(t, sorted(there)...)
		if e := q.Move(c.k); e != api.OK {
			t.Errorf("%s: Move(%v) = %v", c.name, c.k, e)
		}
		after := map[int]int{}
		for id, at := range there {
			after[id] = at
		}
		after[c.k.ID] = c.k.At
		holds(t, q, sorted(after)...)
	}
}

func TestMoveWrong(t *testing.T) {
	was := []api.Key{key(3, 2), key(5, 1), key(9, 7)}
	q := made(t, was...)
	for _, c := range []refusal{
		{key(4, 3), api.ErrNone},
		{key(4, 0), api.ErrNone},
		{key(4, -1), api.ErrNone},
		{key(4, math.MinInt), api.ErrNone},
		{key(4, math.MaxInt), api.ErrNone},
		{key(-1, 2), api.ErrRange},
		{key(math.MinInt, 7), api.ErrRange},
		{key(horizon, 2), api.ErrHorizon},
		{key(math.MaxInt, 7), api.ErrHorizon},
		// Several apply: that there is none is named first.
		{key(-1, 3), api.ErrNone},
		{key(horizon, 3), api.ErrNone},
		{key(-1, -1), api.ErrNone},
		{key(horizon, -1), api.ErrNone},
	} {
		if e := q.Move(c.k); e != c.e {
			t.Errorf("Move(%v) = %v; want %v", c.k, e, c.e)
		}
		holds(t, q, was...)
	}
	q.Drop(2)
	if e := q.Move(key(4, 2)); e != api.ErrNone {
		t.Errorf("Move behind Drop = %v; want ErrNone", e)
	}
	holds(t, q, key(5, 1), key(9, 7))
}

func TestDrop(t *testing.T) {
	for n := 1; n <= 12; n++ {
		for id := range n {
			there := map[int]int{}
			q := ready.New()
			for i := range n {
				there[i] = i * 7 % n // neither rising nor falling
				q.Put(key(there[i], i))
			}
			want := key(there[id], id)
			delete(there, id)
			if k, e := q.Drop(id); k != want || e != api.OK {
				t.Errorf("of %d: Drop(%d) = %v, %v; want %v", n, id, k, e, want)
			}
			if k, e := q.Drop(id); k != (api.Key{}) || e != api.ErrNone {
				t.Errorf("of %d: Drop(%d) again = %v, %v; want ErrNone", n, id, k, e)
			}
			if k, e := q.Get(id); k != (api.Key{}) || e != api.ErrNone {
				t.Errorf("of %d: Get(%d) behind Drop = %v, %v; want ErrNone", n, id, k, e)
			}
			holds(t, q, sorted(there)...)
		}
	}
}

// TestDropAndGetOfNone: a deadline is no server, and none is below 0.
func TestDropAndGetOfNone(t *testing.T) {
	q := made(t, key(3, 2), key(5, 1), key(9, 7))
	for _, id := range []int{0, 3, 5, 9, -1, -2, math.MinInt, math.MaxInt} {
		if k, e := q.Drop(id); k != (api.Key{}) || e != api.ErrNone {
			t.Errorf("Drop(%d) = %v, %v; want ErrNone", id, k, e)
		}
		if k, e := q.Get(id); k != (api.Key{}) || e != api.ErrNone {
			t.Errorf("Get(%d) = %v, %v; want ErrNone", id, k, e)
		}
		holds(t, q, key(3, 2), key(5, 1), key(9, 7))
	}
}

// TestGet: a server's key is the one that it has now, and asking leaves it there.
func TestGet(t *testing.T) {
	q := made(t, key(3, 2), key(5, 1))
	for range 2 {
		if k, e := q.Get(2); k != key(3, 2) || e != api.OK {
			t.Errorf("Get(2) = %v, %v", k, e)
		}
	}
	q.Move(key(6, 2))
	if k, e := q.Get(2); k != key(6, 2) || e != api.OK {
		t.Errorf("Get(2) behind Move = %v, %v", k, e)
	}
	if k, e := q.Drop(2); k != key(6, 2) || e != api.OK {
		t.Errorf("Drop(2) behind Move = %v, %v", k, e)
	}
}

// P4.2

// TestExample is the document's.
func TestExample(t *testing.T) {
	q := made(t, key(5, 1), key(3, 2), key(5, 0))
	if k, e := q.First(); k != key(3, 2) || e != api.OK {
		t.Errorf("First = %v, %v", k, e)
	}
	if k, e := q.Last(); k != key(5, 1) || e != api.OK {
		t.Errorf("Last = %v, %v", k, e)
	}
	if got := q.Least(2); !slices.Equal(got, []api.Key{key(3, 2), key(5, 0)}) {
		t.Errorf("Least(2) = %v", got)
	}
}

func TestEmpty(t *testing.T) {
	emptied := made(t, key(3, 2), key(5, 1))
	emptied.Drop(1)
	emptied.Drop(2)
	refused := ready.New()
	refused.Put(key(3, 2), key(3, -1))
	for name, q := range map[string]*ready.Queue{"new": ready.New(), "emptied": emptied, "refused": refused} {
		holds(t, q)
		if e := q.Move(key(1, 2)); e != api.ErrNone {
			t.Errorf("%s: Move = %v; want ErrNone", name, e)
		}
		if k, e := q.Drop(2); k != (api.Key{}) || e != api.ErrNone {
			t.Errorf("%s: Drop = %v, %v; want ErrNone", name, k, e)
		}
		if k, e := q.Get(0); k != (api.Key{}) || e != api.ErrNone {
			t.Errorf("%s: Get = %v, %v; want ErrNone", name, k, e)
		}
		for _, n := range []int{math.MinInt, 0, 1, math.MaxInt} {
			if l := q.Least(n); len(l) != 0 {
				t.Errorf("%s: Least(%d) = %v", name, n, l)
			}
			if u := q.Until(n); u == nil || len(slices.Collect(u)) != 0 {
				t.Errorf("%s: Until(%d) is nil, or goes through something", name, n)
			}
		}
		holds(t, q.Copy())
		if e := q.Put(key(4, 2)); e != api.OK {
			t.Errorf("%s: nothing can be put: %v", name, e)
		}
		holds(t, q, key(4, 2))
	}
}

func TestSingle(t *testing.T) {
	q := made(t, key(0, 0))
	holds(t, q, key(0, 0))
	for _, at := range []int{7, 7, 0, horizon - 1} {
		if e := q.Move(key(at, 0)); e != api.OK {
			t.Errorf("Move = %v", e)
		}
		holds(t, q, key(at, 0))
	}
	if k, e := q.Drop(0); k != key(horizon-1, 0) || e != api.OK {
		t.Errorf("Drop = %v, %v", k, e)
	}
	holds(t, q)
}

// TestOneDeadline: of one deadline the smaller number is ahead, at both ends, however they came.
func TestOneDeadline(t *testing.T) {
	want := []api.Key{key(4, 0), key(4, 1), key(4, 2), key(4, 3), key(4, 40)}
	for turn := range want {
		l := slices.Concat(want[turn:], want[:turn])
		holds(t, made(t, l...), want...)
		slices.Reverse(l)
		holds(t, made(t, l...), want...)
	}
	q := made(t, want...)
	q.Put(key(3, 50), key(5, 4))
	holds(t, q, key(3, 50), key(4, 0), key(4, 1), key(4, 2), key(4, 3), key(4, 40), key(5, 4))
}

func TestLeast(t *testing.T) {
	q := made(t, key(9, 7), key(5, 1), key(3, 2), key(5, 0))
	want := []api.Key{key(3, 2), key(5, 0), key(5, 1), key(9, 7)}
	for _, c := range []struct{ n, many int }{
		{math.MinInt, 0}, {-2, 0}, {-1, 0}, {0, 0}, {1, 1}, {2, 2}, {3, 3}, {4, 4}, {5, 4}, {64, 4}, {math.MaxInt, 4},
	} {
		if got := q.Least(c.n); !slices.Equal(got, want[:c.many]) {
			t.Errorf("Least(%d) = %v; want %v", c.n, got, want[:c.many])
		}
	}
	holds(t, q, want...)
}

// TestLeastIsTheCallers: writing into an answer changes neither the queue nor another answer.
func TestLeastIsTheCallers(t *testing.T) {
	q := made(t, key(5, 1), key(3, 2), key(9, 7))
	a, b := q.Least(2), q.Least(2)
	a[0] = key(99, 99)
	_ = append(a, key(98, 98))
	if !slices.Equal(b, []api.Key{key(3, 2), key(5, 1)}) {
		t.Errorf("another answer is %v", b)
	}
	holds(t, q, key(3, 2), key(5, 1), key(9, 7))
	q.Move(key(1, 7))
	if !slices.Equal(b, []api.Key{key(3, 2), key(5, 1)}) {
		t.Errorf("an answer behind Move is %v", b)
	}
}

func TestUntil(t *testing.T) {
	q := made(t, key(9, 7), key(5, 1), key(3, 2), key(5, 0), key(horizon-1, 3))
	want := []api.Key{key(3, 2), key(5, 0), key(5, 1), key(9, 7), key(horizon-1, 3)}
	for _, c := range []struct{ at, many int }{
		{math.MinInt, 0}, {-1, 0}, {0, 0}, {2, 0}, {3, 1}, {4, 1}, {5, 3}, {6, 3}, {8, 3}, {9, 4}, {10, 4},
		{horizon - 2, 4}, {horizon - 1, 5}, {horizon, 5}, {math.MaxInt, 5},
	} {
		if got := slices.Collect(q.Until(c.at)); !slices.Equal(got, want[:c.many]) {
			t.Errorf("Until(%d) = %v; want %v", c.at, got, want[:c.many])
		}
	}
	holds(t, q, want...)
	zero := made(t, key(0, 5), key(0, 2))
	if got := slices.Collect(zero.Until(0)); !slices.Equal(got, []api.Key{key(0, 2), key(0, 5)}) {
		t.Errorf("Until(0) = %v", got)
	}
}

func TestUntilAsItWas(t *testing.T) {
	for name, change := range map[string]func(q *ready.Queue) api.Errno{
		"put ahead":          func(q *ready.Queue) api.Errno { return q.Put(key(0, 9), key(4, 8)) },
		"moved ahead":        func(q *ready.Queue) api.Errno { return q.Move(key(1, 1)) },
		"moved past the end": func(q *ready.Queue) api.Errno { return q.Move(key(50, 2)) },
		"moved in":           func(q *ready.Queue) api.Errno { return q.Move(key(1, 7)) },
		"dropped":            func(q *ready.Queue) api.Errno { _, e := q.Drop(0); return e },
		"dropped the first":  func(q *ready.Queue) api.Errno { _, e := q.Drop(2); return e },
	} {
		q := made(t, key(9, 7), key(5, 1), key(3, 2), key(5, 0))
		until := q.Until(5)
		if e := change(q); e != api.OK {
			t.Errorf("%s: %v", name, e)
		}
		for range 2 { // it may be gone through again
			if got := slices.Collect(until); !slices.Equal(got, []api.Key{key(3, 2), key(5, 0), key(5, 1)}) {
				t.Errorf("%s: Until(5) = %v", name, got)
			}
		}
	}
	none := ready.New()
	until := none.Until(5)
	none.Put(key(1, 1))
	if got := slices.Collect(until); len(got) != 0 {
		t.Errorf("Until of none = %v", got)
	}
}

// TestUntilChangedOnTheWay: a loop through Until may turn the queue under it.
func TestUntilChangedOnTheWay(t *testing.T) {
	q := made(t, key(9, 7), key(5, 1), key(3, 2), key(5, 0))
	var got []api.Key
	for k := range q.Until(5) {
		got = append(got, k)
		q.Drop(k.ID)
		q.Put(key(4, k.ID+10))
		q.Move(key(2, 7))
	}
	if want := []api.Key{key(3, 2), key(5, 0), key(5, 1)}; !slices.Equal(got, want) {
		t.Errorf("Until(5) = %v; want %v", got, want)
	}
	holds(t, q, key(2, 7), key(4, 10), key(4, 11), key(4, 12))
}

func TestUntilLeftEarly(t *testing.T) {
	q := made(t, key(9, 7), key(5, 1), key(3, 2), key(5, 0))
	want := []api.Key{key(3, 2), key(5, 0), key(5, 1)}
	until := q.Until(5)
	for n := 1; n <= len(want); n++ {
		var got []api.Key
		// Called by hand: a range would panic where it goes on though it is told to stop.
		until(func(k api.Key) bool {
			got = append(got, k)
			return len(got) < n
		})
		if !slices.Equal(got, want[:n]) {
			t.Errorf("Until, left behind %d, = %v; want %v", n, got, want[:n])
		}
	}
	holds(t, q, key(3, 2), key(5, 0), key(5, 1), key(9, 7))
}

func TestCopy(t *testing.T) {
	was := []api.Key{key(3, 2), key(5, 0), key(5, 1), key(9, 7)}
	q := made(t, was...)
	c := q.Copy()
	if c == nil || c == q {
		t.Fatal("a copy is nil, or the same queue")
	}
	holds(t, c, was...)
	until := c.Until(9)
	c.Put(key(1, 8))
	c.Move(key(20, 2))
	c.Drop(7)
	turned := []api.Key{key(1, 8), key(5, 0), key(5, 1), key(20, 2)}
	holds(t, c, turned...)
	holds(t, q, was...)
	q.Drop(0)
	q.Put(key(30, 8))
	q.Move(key(2, 7))
	holds(t, q, key(2, 7), key(3, 2), key(5, 1), key(30, 8))
	holds(t, c, turned...)
	if got := slices.Collect(until); !slices.Equal(got, was) {
		t.Errorf("Until of the copy = %v; want %v", got, was)
	}
	if e := c.Put(key(1, 0)); e != api.ErrThere {
		t.Errorf("Put into the copy = %v; want ErrThere", e)
	}
	holds(t, c.Copy(), turned...)
}

func TestNil(t *testing.T) {
	var q *ready.Queue
	// Wrong keys too: ErrNil is ahead of all other errors.
	for _, k := range []api.Key{{}, key(5, 1), key(5, -1), key(-1, 5), key(horizon, 5), key(math.MinInt, math.MinInt)} {
		if e := q.Put(k); e != api.ErrNil {
			t.Errorf("Put(%v) = %v; want ErrNil", k, e)
		}
		if e := q.Put(k, k); e != api.ErrNil {
			t.Errorf("Put(%v) twice = %v; want ErrNil", k, e)
		}
		if e := q.Move(k); e != api.ErrNil {
			t.Errorf("Move(%v) = %v; want ErrNil", k, e)
		}
		if got, e := q.Get(k.ID); got != (api.Key{}) || e != api.ErrNil {
			t.Errorf("Get(%d) = %v, %v; want ErrNil", k.ID, got, e)
		}
		if got, e := q.Drop(k.ID); got != (api.Key{}) || e != api.ErrNil {
			t.Errorf("Drop(%d) = %v, %v; want ErrNil", k.ID, got, e)
		}
		if u := q.Until(k.At); u == nil || len(slices.Collect(u)) != 0 {
			t.Errorf("Until(%d) is nil, or goes through something", k.At)
		}
		if l := q.Least(k.At); len(l) != 0 {
			t.Errorf("Least(%d) = %v", k.At, l)
		}
	}
	if e := q.Put(); e != api.ErrNil {
		t.Errorf("Put of no key = %v; want ErrNil", e)
	}
	if k, e := q.First(); k != (api.Key{}) || e != api.ErrNil {
		t.Errorf("First = %v, %v; want ErrNil", k, e)
	}
	if k, e := q.Last(); k != (api.Key{}) || e != api.ErrNil {
		t.Errorf("Last = %v, %v; want ErrNil", k, e)
	}
	if n := q.Len(); n != 0 {
		t.Errorf("Len = %d", n)
	}
	if c := q.Copy(); c != nil {
		t.Errorf("Copy = %v; want nil", c)
	}
}

// P4.3

// follows checks what the document says to follow, by the queue's own answers alone.
func follows(t *testing.T, q *ready.Queue) {
	t.Helper()
	first, e := q.First()
	if l := q.Least(1); len(l) == 1 && (l[0] != first || e != api.OK) || len(l) == 0 && e != api.ErrNone {
		t.Fatalf("First = %v, %v; Least(1) = %v", first, e, l)
	}
	last, e := q.Last()
	if l := q.Least(q.Len()); len(l) != q.Len() || len(l) == 0 && e != api.ErrNone || len(l) > 0 && (l[len(l)-1] != last || e != api.OK) {
		t.Fatalf("Last = %v, %v; Least(%d) = %v", last, e, q.Len(), l)
	}
	for n := -2; n <= q.Len()+1; n++ {
		l, more := q.Least(n), q.Least(n+1)
		if len(more) < len(l) || !slices.Equal(more[:len(l)], l) {
			t.Fatalf("Least(%d) = %v; Least(%d) = %v", n, l, n+1, more)
		}
	}
}

func TestFollows(t *testing.T) {
	q := ready.New()
	follows(t, q)
	for i := range 12 {
		q.Put(key(i*5%7, i*7%12))
		follows(t, q)
	}
	for i := range 12 {
		q.Move(key(i%4, i))
		follows(t, q)
	}
	for i := range 12 {
		q.Drop(i * 5 % 12)
		follows(t, q)
	}
}

// TestThereAndBack: each server to each place, and back.
func TestThereAndBack(t *testing.T) {
	was := []api.Key{key(10, 3), key(20, 1), key(20, 2), key(20, 6), key(30, 0), key(40, 4), key(40, 5)}
	q := made(t, was...)
	for _, k := range was {
		for at := 0; at <= 50; at += 5 {
			if e, f := q.Move(key(at, k.ID)), q.Move(k); e != api.OK || f != api.OK {
				t.Fatalf("Move(%d, %d) = %v, and back %v", at, k.ID, e, f)
			}
			holds(t, q, was...)
		}
		// A Move that is refused is no way there.
		if e := q.Move(key(-1, k.ID)); e != api.ErrRange {
			t.Fatalf("Move(-1, %d) = %v", k.ID, e)
		}
		holds(t, q, was...)
	}
}

// TestFromBothEnds: the ends, dropped again and again, are all servers in order, each once.
func TestFromBothEnds(t *testing.T) {
	there := map[int]int{}
	q := ready.New()
	for id := range 40 {
		there[id] = id * 17 % 13
		q.Put(key(there[id], id))
	}
	for id := 0; id < 40; id += 3 {
		there[id] = id * 5 % 11
		q.Move(key(there[id], id))
	}
	want := sorted(there)
	if got := emptiedFrom(t, q.Copy(), (*ready.Queue).First); !slices.Equal(got, want) {
		t.Errorf("from the first one: %v; want %v", got, want)
	}
	slices.Reverse(want)
	if got := emptiedFrom(t, q, (*ready.Queue).Last); !slices.Equal(got, want) {
		t.Errorf("from the last one: %v; want %v", got, want)
	}
}

// dice are numbers that look like thrown ones, the same in every run.
func dice() func(n int) int {
	state := uint64(1)
	return func(n int) int {
		state = state*6364136223846793005 + 1442695040888963407
		return int(state>>33) % n
	}
}

// model is a queue as plain as can be, deadlines by servers, to hold the other one against.
type model map[int]int

func timeError(at int) api.Errno {
	switch {
	case at < 0:
		return api.ErrRange
	case at >= horizon:
		return api.ErrHorizon
	}
	return api.OK
}

func (m model) put(l ...api.Key) api.Errno {
	ahead := map[int]int{}
	for _, k := range l {
		if k.ID < 0 {
			return api.ErrArg
		}
		if e := timeError(k.At); e != api.OK {
			return e
		}
		_, there := m[k.ID]
		if _, twice := ahead[k.ID]; there || twice {
			return api.ErrThere
		}
		ahead[k.ID] = k.At
	}
	for id, at := range ahead {
		m[id] = at
	}
	return api.OK
}

func (m model) move(k api.Key) api.Errno {
	if _, there := m[k.ID]; !there {
		return api.ErrNone
	}
	if e := timeError(k.At); e != api.OK {
		return e
	}
	m[k.ID] = k.At
	return api.OK
}

func (m model) drop(id int) (api.Key, api.Errno) {
	at, there := m[id]
	if !there {
		return api.Key{}, api.ErrNone
	}
	delete(m, id)
	return key(at, id), api.OK
}

// thrown is a key, at times one that may not be.
func thrown(throw func(n int) int, servers int) api.Key {
	k := key(throw(30), throw(servers))
	switch throw(40) {
	case 0:
		k.ID = -1 - throw(3)
	case 1:
		k.At = -1 - throw(3)
	case 2:
		k.At = horizon + throw(3)
	}
	return k
}

// step does one thing to both, and tells whether they answered the same.
func step(q *ready.Queue, m model, throw func(n int) int, servers int) bool {
	switch throw(4) {
	case 0:
		var l []api.Key
		for range throw(4) {
			l = append(l, thrown(throw, servers))
		}
		return q.Put(l...) == m.put(l...)
	case 1:
		k := thrown(throw, servers)
		return q.Put(k) == m.put(k)
	case 2:
		k := thrown(throw, servers)
		return q.Move(k) == m.move(k)
	}
	id := thrown(throw, servers).ID
	got, e := q.Drop(id)
	want, wantE := m.drop(id)
	return got == want && e == wantE
}

// TestAgainstModel: long rows of calls, wrong ones among them, with few servers and with many.
func TestAgainstModel(t *testing.T) {
	for _, servers := range []int{3, 20, 64} {
		throw := dice()
		q, m := ready.New(), model{}
		for n := range 3000 {
			if !step(q, m, throw, servers) {
				t.Fatalf("%d servers, call %d is answered otherwise", servers, n)
			}
			want := sorted(m)
			if got := q.Least(q.Len()); !slices.Equal(got, want) {
				t.Fatalf("%d servers, call %d: Least = %v; want %v", servers, n, got, want)
			}
			holdsEnds(t, q, want)
			if n%50 == 0 {
				holds(t, q, want...)
				holds(t, q.Copy(), want...)
				follows(t, q)
			}
		}
	}
}

// TestMany: more servers than threads may be; the queue has no bound of its own.
func TestMany(t *testing.T) {
	const n = 5000
	var l []api.Key
	for id := range n {
		l = append(l, key((n-id)/2, id))
	}
	q := made(t, l...)
	if e := q.Put(append(l, key(0, n))...); e != api.ErrThere || q.Len() != n {
		t.Errorf("Put again = %v; Len %d", e, q.Len())
	}
	there := map[int]int{}
	for _, k := range l {
		there[k.ID] = k.At
	}
	if !slices.Equal(q.Least(n), sorted(there)) {
		t.Error("Least is not in order")
	}
}

// R3

// TestApart: two queues do not know of each other.
func TestApart(t *testing.T) {
	a, b := made(t, key(5, 1)), made(t, key(6, 1))
	a.Put(key(4, 2))
	b.Drop(1)
	holds(t, a, key(4, 2), key(5, 1))
	holds(t, b)
}
