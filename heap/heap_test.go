package heap_test

import (
	"cmp"
	"iter"
	"maps"
	"math"
	"slices"
	"testing"

	"metronome/api"
	"metronome/heap"
)

// pair is a number with its key, as tests write them down.
type pair struct{ id, k int }

func rising(a, b int) bool { return a < b }

// byTens tells keys apart by their tens alone, so that many are less neither way.
func byTens(a, b int) bool { return a/10 < b/10 }

func empty[K any](t *testing.T, less func(a, b K) bool) *heap.Heap[K] {
	t.Helper()
	h, e := heap.New(less)
	if h == nil || e != api.OK {
		t.Fatalf("New = %v, %v", h, e)
	}
	return h
}

func made(t *testing.T, less func(a, b int) bool, l ...pair) *heap.Heap[int] {
	t.Helper()
	h := empty(t, less)
	for _, p := range l {
		if e := h.Put(p.id, p.k); e != api.OK {
			t.Fatalf("Put(%d, %d) = %v", p.id, p.k, e)
		}
	}
	return h
}

func through(l iter.Seq2[int, int]) []pair {
	var out []pair
	for id, k := range l {
		out = append(out, pair{id, k})
	}
	return out
}

// taken takes all numbers.
func taken(t *testing.T, h *heap.Heap[int]) []pair {
	t.Helper()
	var out []pair
	for n := h.Len(); n > 0; n-- {
		id, k, e := h.Take()
		if e != api.OK || h.Len() != n-1 {
			t.Fatalf("Take = %d, %d, %v; then Len %d; want %d", id, k, e, h.Len(), n-1)
		}
		out = append(out, pair{id, k})
	}
	return out
}

// sorted is the order of the document, by a sort of its own.
func sorted(less func(a, b int) bool, there map[int]int) []pair {
	var out []pair
	for id, k := range there {
		out = append(out, pair{id, k})
	}
	slices.SortFunc(out, func(a, b pair) int {
		switch {
		case less(a.k, b.k):
			return -1
		case less(b.k, a.k):
			return 1
		}
		return cmp.Compare(a.id, b.id)
	})
	return out
}

// holds checks all that a heap answers against the pairs that it should have, in order; it leaves the heap as it is.
func holds(t *testing.T, h *heap.Heap[int], want ...pair) {
	t.Helper()
	if h.Len() != len(want) {
		t.Fatalf("Len = %d; want %d", h.Len(), len(want))
	}
	if got := through(h.All()); !slices.Equal(got, want) {
		t.Fatalf("All = %v; want %v", got, want)
	}
	for _, p := range want {
		if k, e := h.Get(p.id); k != p.k || e != api.OK {
			t.Fatalf("Get(%d) = %d, %v; want %d", p.id, k, e, p.k)
		}
	}
	id, k, e := h.Peek()
	if len(want) == 0 {
		if id != 0 || k != 0 || e != api.ErrNone {
			t.Fatalf("Peek = %d, %d, %v; want ErrNone", id, k, e)
		}
	} else if (pair{id, k}) != want[0] || e != api.OK {
		t.Fatalf("Peek = %d, %d, %v; want %v", id, k, e, want[0])
	}
	if got := taken(t, h.Copy()); !slices.Equal(got, want) {
		t.Fatalf("Take of a copy = %v; want %v", got, want)
	}
	if h.Len() != len(want) {
		t.Fatalf("Len = %d behind Take of a copy; want %d", h.Len(), len(want))
	}
}

// permutations goes through all orders of the numbers below n; each list is the loop's own for its turn alone.
func permutations(n int) iter.Seq[[]int] {
	return func(yield func([]int) bool) {
		l := make([]int, n)
		for i := range l {
			l[i] = i
		}
		var from func(i int) bool
		from = func(i int) bool {
			if i == n {
				return yield(l)
			}
			for j := i; j < n; j++ {
				l[i], l[j] = l[j], l[i]
				if !from(i + 1) {
					return false
				}
				l[i], l[j] = l[j], l[i]
			}
			return true
		}
		from(0)
	}
}

// P3.1

func TestNew(t *testing.T) {
	holds(t, empty(t, rising))
	if h, e := heap.New[int](nil); h != nil || e != api.ErrArg {
		t.Errorf("New(nil) = %v, %v; want ErrArg", h, e)
	}
	if h, e := heap.New[api.Key](nil); h != nil || e != api.ErrArg {
		t.Errorf("New(nil) = %v, %v; want ErrArg", h, e)
	}
}

func TestPut(t *testing.T) {
	h := empty(t, rising)
	for _, c := range []struct {
		id, k int
		e     api.Errno
		want  []pair
	}{
		{4, 50, api.OK, []pair{{4, 50}}},
		{2, 70, api.OK, []pair{{4, 50}, {2, 70}}},
		{0, 60, api.OK, []pair{{4, 50}, {0, 60}, {2, 70}}},
		{7, -1, api.OK, []pair{{7, -1}, {4, 50}, {0, 60}, {2, 70}}},
		{math.MaxInt, 55, api.OK, []pair{{7, -1}, {4, 50}, {math.MaxInt, 55}, {0, 60}, {2, 70}}},
		{-1, 55, api.ErrArg, []pair{{7, -1}, {4, 50}, {math.MaxInt, 55}, {0, 60}, {2, 70}}},
		{math.MinInt, 55, api.ErrArg, []pair{{7, -1}, {4, 50}, {math.MaxInt, 55}, {0, 60}, {2, 70}}},
		{0, 60, api.ErrThere, []pair{{7, -1}, {4, 50}, {math.MaxInt, 55}, {0, 60}, {2, 70}}},
		{7, 99, api.ErrThere, []pair{{7, -1}, {4, 50}, {math.MaxInt, 55}, {0, 60}, {2, 70}}}, // its key stays
		{2, -9, api.ErrThere, []pair{{7, -1}, {4, 50}, {math.MaxInt, 55}, {0, 60}, {2, 70}}},
	} {
		if e := h.Put(c.id, c.k); e != c.e {
			t.Errorf("Put(%d, %d) = %v; want %v", c.id, c.k, e, c.e)
		}
		holds(t, h, c.want...)
	}
}

// TestPutAgain: a number that was taken away may come back, with any key.
func TestPutAgain(t *testing.T) {
	h := made(t, rising, pair{1, 10}, pair{2, 20})
	h.Drop(1)
	if e := h.Put(1, 30); e != api.OK {
		t.Errorf("Put behind Drop = %v", e)
	}
	holds(t, h, pair{2, 20}, pair{1, 30})
	h.Take()
	if e := h.Put(2, 40); e != api.OK {
		t.Errorf("Put behind Take = %v", e)
	}
	holds(t, h, pair{1, 30}, pair{2, 40})
}

func TestGet(t *testing.T) {
	h := made(t, rising, pair{3, 5}, pair{0, 9})
	for _, c := range []struct {
		id, k int
		e     api.Errno
	}{
		{3, 5, api.OK},
		{0, 9, api.OK},
		{1, 0, api.ErrNone},
		{5, 0, api.ErrNone}, // a key is no number
		{-1, 0, api.ErrNone},
		{math.MinInt, 0, api.ErrNone},
		{math.MaxInt, 0, api.ErrNone},
	} {
		if k, e := h.Get(c.id); k != c.k || e != c.e {
			t.Errorf("Get(%d) = %d, %v; want %d, %v", c.id, k, e, c.k, c.e)
		}
	}
	holds(t, h, pair{3, 5}, pair{0, 9})
}

func TestChange(t *testing.T) {
	// Of seven, so that a number has others above and below it.
	there := map[int]int{0: 10, 1: 20, 2: 30, 3: 40, 4: 50, 5: 60, 6: 70}
	for _, c := range []struct {
		name  string
		id, k int
	}{
		{"the last one to the front", 6, 5},
		{"one in the midst to the front", 3, 5},
		{"the first one to the end", 0, 75},
		{"one in the midst to the end", 3, 75},
		{"the first one further ahead", 0, 5},
		{"the last one further behind", 6, 75},
		{"one to the key that it has", 3, 40},
		{"one to a key that leaves it where it is", 3, 41},
		{"one a little ahead", 3, 25},
		{"one a little behind", 3, 55},
		{"one to a key of a smaller number", 3, 20},
		{"one to a key of a greater number", 3, 60},
		{"the first one to the key of the next", 0, 20},
		{"the last one to the key of the first", 6, 10},
	} {
		h := made(t, rising, sorted(rising, there)...)
		if e := h.Change(c.id, c.k); e != api.OK {
			t.Errorf("%s: Change(%d, %d) = %v", c.name, c.id, c.k, e)
		}
		want := maps.Clone(there)
		want[c.id] = c.k
		holds(t, h, sorted(rising, want)...)
	}
}

// TestChangeOfAny: each number of a heap, put in many an order, to each key there is between the others.
func TestChangeOfAny(t *testing.T) {
	for l := range permutations(5) {
		for id := range 5 {
			for k := -5; k <= 45; k += 5 {
				h := empty(t, rising)
				there := map[int]int{}
				for _, n := range l {
					h.Put(n, 10*n)
					there[n] = 10 * n
				}
				there[id] = k
				if e := h.Change(id, k); e != api.OK {
					t.Fatalf("put as %v, Change(%d, %d) = %v", l, id, k, e)
				}
				holds(t, h, sorted(rising, there)...)
			}
		}
	}
}

func TestChangeOfNone(t *testing.T) {
	h := made(t, rising, pair{3, 5}, pair{0, 9})
	for _, id := range []int{1, 5, 9, -1, math.MinInt, math.MaxInt} {
		if e := h.Change(id, 1); e != api.ErrNone {
			t.Errorf("Change(%d) = %v; want ErrNone", id, e)
		}
	}
	holds(t, h, pair{3, 5}, pair{0, 9})
	h.Drop(3)
	if e := h.Change(3, 1); e != api.ErrNone {
		t.Errorf("Change behind Drop = %v; want ErrNone", e)
	}
	holds(t, h, pair{0, 9})
}

func TestChangeOfOne(t *testing.T) {
	h := made(t, rising, pair{3, 5})
	for _, k := range []int{9, 9, -9, 0} {
		if e := h.Change(3, k); e != api.OK {
			t.Errorf("Change(3, %d) = %v", k, e)
		}
		holds(t, h, pair{3, k})
	}
}

func TestDrop(t *testing.T) {
	for n := 1; n <= 12; n++ {
		for id := range n {
			h := empty(t, rising)
			there := map[int]int{}
			for i := range n {
				there[i] = i * 7 % n // neither rising nor falling
				h.Put(i, there[i])
			}
			want := there[id]
			delete(there, id)
			if k, e := h.Drop(id); k != want || e != api.OK {
				t.Errorf("of %d: Drop(%d) = %d, %v; want %d", n, id, k, e, want)
			}
			if k, e := h.Get(id); k != 0 || e != api.ErrNone {
				t.Errorf("of %d: Get(%d) behind Drop = %d, %v; want ErrNone", n, id, k, e)
			}
			if k, e := h.Drop(id); k != 0 || e != api.ErrNone {
				t.Errorf("of %d: Drop(%d) again = %d, %v; want ErrNone", n, id, k, e)
			}
			holds(t, h, sorted(rising, there)...)
		}
	}
}

// TestDropThatRises: what comes to the place of the dropped one may be ahead of what is above it.
func TestDropThatRises(t *testing.T) {
	h := made(t, rising, pair{0, 0}, pair{1, 50}, pair{2, 1}, pair{3, 60}, pair{4, 70}, pair{5, 2}, pair{6, 3})
	if k, e := h.Drop(3); k != 60 || e != api.OK {
		t.Errorf("Drop(3) = %d, %v", k, e)
	}
	holds(t, h, pair{0, 0}, pair{2, 1}, pair{5, 2}, pair{6, 3}, pair{1, 50}, pair{4, 70})
}

func TestDropOfNone(t *testing.T) {
	h := made(t, rising, pair{3, 5}, pair{0, 9})
	for _, id := range []int{1, 5, 9, -1, math.MinInt, math.MaxInt} {
		if k, e := h.Drop(id); k != 0 || e != api.ErrNone {
			t.Errorf("Drop(%d) = %d, %v; want ErrNone", id, k, e)
		}
	}
	holds(t, h, pair{3, 5}, pair{0, 9})
}

// P3.2

func TestEmpty(t *testing.T) {
	emptied := made(t, rising, pair{3, 5}, pair{0, 9})
	emptied.Take()
	emptied.Drop(0)
	for name, h := range map[string]*heap.Heap[int]{"new": empty(t, rising), "emptied": emptied} {
		if id, k, e := h.Peek(); id != 0 || k != 0 || e != api.ErrNone {
			t.Errorf("%s: Peek = %d, %d, %v; want ErrNone", name, id, k, e)
		}
		for range 2 {
			if id, k, e := h.Take(); id != 0 || k != 0 || e != api.ErrNone {
				t.Errorf("%s: Take = %d, %d, %v; want ErrNone", name, id, k, e)
			}
		}
		if k, e := h.Get(0); k != 0 || e != api.ErrNone {
			t.Errorf("%s: Get = %d, %v; want ErrNone", name, k, e)
		}
		if k, e := h.Drop(0); k != 0 || e != api.ErrNone {
			t.Errorf("%s: Drop = %d, %v; want ErrNone", name, k, e)
		}
		if e := h.Change(0, 1); e != api.ErrNone {
			t.Errorf("%s: Change = %v; want ErrNone", name, e)
		}
		holds(t, h)
		if h.Put(5, 8) != api.OK {
			t.Errorf("%s: nothing can be put", name)
		}
		holds(t, h, pair{5, 8})
	}
}

func TestSingle(t *testing.T) {
	h := made(t, rising, pair{3, 5})
	holds(t, h, pair{3, 5})
	if id, k, e := h.Take(); id != 3 || k != 5 || e != api.OK {
		t.Errorf("Take = %d, %d, %v", id, k, e)
	}
	holds(t, h)
	h.Put(0, 0)
	if k, e := h.Drop(0); k != 0 || e != api.OK {
		t.Errorf("Drop = %d, %v", k, e)
	}
	holds(t, h)
}

// TestExample is the document's.
func TestExample(t *testing.T) {
	h := made(t, rising, pair{7, 5}, pair{3, 5}, pair{9, 1})
	if got, want := taken(t, h), []pair{{9, 1}, {3, 5}, {7, 5}}; !slices.Equal(got, want) {
		t.Errorf("Take = %v; want %v", got, want)
	}
}

func TestPeekLeaves(t *testing.T) {
	h := made(t, rising, pair{7, 5}, pair{3, 5}, pair{9, 1})
	for range 3 {
		if id, k, e := h.Peek(); id != 9 || k != 1 || e != api.OK {
			t.Errorf("Peek = %d, %d, %v", id, k, e)
		}
	}
	holds(t, h, pair{9, 1}, pair{3, 5}, pair{7, 5})
}

// TestTakeIsDrop: what is taken is there no more, and no more than that is gone.
func TestTakeIsDrop(t *testing.T) {
	h := made(t, rising, pair{7, 5}, pair{3, 5}, pair{9, 1})
	h.Take()
	if k, e := h.Get(9); k != 0 || e != api.ErrNone {
		t.Errorf("Get of what was taken = %d, %v; want ErrNone", k, e)
	}
	holds(t, h, pair{3, 5}, pair{7, 5})
}

// TestSameKeys: of keys that are less neither way the smaller number is ahead, however they came.
func TestSameKeys(t *testing.T) {
	want := []pair{{0, 4}, {1, 4}, {2, 4}, {3, 4}, {4, 4}, {5, 4}}
	for l := range permutations(len(want)) {
		h := empty(t, rising)
		for _, id := range l {
			h.Put(id, 4)
		}
		holds(t, h, want...)
	}
}

// TestKeysLessNeitherWay: keys that differ, but are not told apart, do not count either.
func TestKeysLessNeitherWay(t *testing.T) {
	h := made(t, byTens, pair{8, 12}, pair{5, 19}, pair{6, 10}, pair{9, 3}, pair{1, 25}, pair{2, 7}, pair{0, 20})
	holds(t, h, pair{2, 7}, pair{9, 3}, pair{5, 19}, pair{6, 10}, pair{8, 12}, pair{0, 20}, pair{1, 25})
	h.Change(5, 11) // less neither way than what it was: it stays
	holds(t, h, pair{2, 7}, pair{9, 3}, pair{5, 11}, pair{6, 10}, pair{8, 12}, pair{0, 20}, pair{1, 25})
	h.Change(8, 0)
	holds(t, h, pair{2, 7}, pair{8, 0}, pair{9, 3}, pair{5, 11}, pair{6, 10}, pair{0, 20}, pair{1, 25})
	never := made(t, func(int, int) bool { return false }, pair{3, 1}, pair{1, 3}, pair{2, 2})
	holds(t, never, pair{1, 3}, pair{2, 2}, pair{3, 1})
}

// TestFalling: the order is less's, not that of numbers.
func TestFalling(t *testing.T) {
	h := made(t, func(a, b int) bool { return a > b }, pair{1, 5}, pair{2, 9}, pair{3, 5}, pair{0, -2})
	holds(t, h, pair{2, 9}, pair{1, 5}, pair{3, 5}, pair{0, -2})
}

func TestAllAsItWas(t *testing.T) {
	h := made(t, rising, pair{4, 40}, pair{1, 10}, pair{3, 30}, pair{2, 20})
	was := []pair{{1, 10}, {2, 20}, {3, 30}, {4, 40}}
	all := h.All()
	h.Put(0, 0)
	h.Drop(3)
	h.Change(1, 99)
	h.Take()
	for range 2 { // it may be gone through again
		if got := through(all); !slices.Equal(got, was) {
			t.Errorf("All = %v; want %v", got, was)
		}
	}
	holds(t, h, pair{2, 20}, pair{4, 40}, pair{1, 99})
	none := empty(t, rising)
	all = none.All()
	none.Put(1, 1)
	if got := through(all); len(got) != 0 {
		t.Errorf("All of none = %v", got)
	}
}

// TestAllOrderAsItWas: what keys stand for may turn behind All, the order in which it answers does not.
func TestAllOrderAsItWas(t *testing.T) {
	h := empty(t, func(a, b *int) bool { return *a < *b })
	first, second := new(1), new(2)
	h.Put(1, first)
	h.Put(2, second)
	all := h.All()
	*first = 3
	var ids []int
	for id := range all {
		ids = append(ids, id)
	}
	if !slices.Equal(ids, []int{1, 2}) {
		t.Errorf("All = %v; want 1, 2", ids)
	}
}

// TestChangedOnTheWay: a loop through All may turn the heap under it.
func TestChangedOnTheWay(t *testing.T) {
	h := made(t, rising, pair{4, 40}, pair{1, 10}, pair{3, 30}, pair{2, 20})
	var got []pair
	for id, k := range h.All() {
		got = append(got, pair{id, k})
		h.Drop(id)
		h.Put(id+10, k+1)
	}
	if want := []pair{{1, 10}, {2, 20}, {3, 30}, {4, 40}}; !slices.Equal(got, want) {
		t.Errorf("All = %v; want %v", got, want)
	}
	holds(t, h, pair{11, 11}, pair{12, 21}, pair{13, 31}, pair{14, 41})
}

func TestAllLeftEarly(t *testing.T) {
	h := made(t, rising, pair{4, 40}, pair{1, 10}, pair{3, 30}, pair{2, 20})
	want := []pair{{1, 10}, {2, 20}, {3, 30}, {4, 40}}
	all := h.All()
	for n := 1; n <= len(want); n++ {
		var got []pair
		// Called by hand: a range would hide that it goes on though it is told to stop.
		all(func(id, k int) bool {
			got = append(got, pair{id, k})
			return len(got) < n
		})
		if !slices.Equal(got, want[:n]) {
			t.Errorf("All, left behind %d, = %v; want %v", n, got, want[:n])
		}
	}
	holds(t, h, want...)
}

func TestCopy(t *testing.T) {
	h := made(t, rising, pair{4, 40}, pair{1, 10}, pair{3, 30}, pair{2, 20})
	c := h.Copy()
	if c == h {
		t.Fatal("a copy is the same heap")
	}
	was := []pair{{1, 10}, {2, 20}, {3, 30}, {4, 40}}
	holds(t, c, was...)
	c.Put(0, 25)
	c.Change(4, 5)
	c.Drop(3)
	holds(t, c, pair{4, 5}, pair{1, 10}, pair{2, 20}, pair{0, 25})
	holds(t, h, was...)
	h.Take()
	h.Put(9, 9)
	h.Change(2, 50)
	holds(t, h, pair{9, 9}, pair{3, 30}, pair{4, 40}, pair{2, 50})
	holds(t, c, pair{4, 5}, pair{1, 10}, pair{2, 20}, pair{0, 25})
	if e := c.Put(4, 1); e != api.ErrThere {
		t.Errorf("Put into the copy = %v; want ErrThere", e)
	}
}

// TestCopyKeepsTheOrder: a copy tells keys apart as its origin does.
func TestCopyKeepsTheOrder(t *testing.T) {
	h := made(t, func(a, b int) bool { return a > b }, pair{1, 5})
	c := h.Copy()
	c.Put(2, 9)
	c.Put(0, 5)
	holds(t, c, pair{2, 9}, pair{0, 5}, pair{1, 5})
	none := empty(t, byTens).Copy()
	none.Put(4, 11)
	none.Put(3, 12)
	holds(t, none, pair{3, 12}, pair{4, 11})
}

func TestNil(t *testing.T) {
	var h *heap.Heap[int]
	// Numbers below 0 too: ErrNil is ahead of all other errors.
	for _, id := range []int{-1, 0, 1, math.MinInt, math.MaxInt} {
		if e := h.Put(id, 1); e != api.ErrNil {
			t.Errorf("Put(%d) = %v; want ErrNil", id, e)
		}
		if e := h.Change(id, 1); e != api.ErrNil {
			t.Errorf("Change(%d) = %v; want ErrNil", id, e)
		}
		if k, e := h.Get(id); k != 0 || e != api.ErrNil {
			t.Errorf("Get(%d) = %d, %v; want ErrNil", id, k, e)
		}
		if k, e := h.Drop(id); k != 0 || e != api.ErrNil {
			t.Errorf("Drop(%d) = %d, %v; want ErrNil", id, k, e)
		}
	}
	if id, k, e := h.Peek(); id != 0 || k != 0 || e != api.ErrNil {
		t.Errorf("Peek = %d, %d, %v; want ErrNil", id, k, e)
	}
	if id, k, e := h.Take(); id != 0 || k != 0 || e != api.ErrNil {
		t.Errorf("Take = %d, %d, %v; want ErrNil", id, k, e)
	}
	if n := h.Len(); n != 0 {
		t.Errorf("Len = %d", n)
	}
	if all := h.All(); all == nil || len(through(all)) != 0 {
		t.Error("All of nil is nil, or goes through something")
	}
	if c := h.Copy(); c != nil {
		t.Errorf("Copy = %v; want nil", c)
	}
}

// TestStructures: keys may be structures, told apart by a method.
func TestStructures(t *testing.T) {
	h := empty(t, api.Key.Before)
	keys := []api.Key{{At: 5, ID: 9}, {At: 5, ID: 3}, {At: 2, ID: 7}, {At: 5, ID: 3}, {At: 0, ID: 99}}
	for id, k := range keys {
		if e := h.Put(id, k); e != api.OK {
			t.Fatalf("Put(%d, %v) = %v", id, k, e)
		}
	}
	if e := h.Change(4, api.Key{At: 5, ID: 4}); e != api.OK {
		t.Errorf("Change = %v", e)
	}
	if k, e := h.Get(4); k != (api.Key{At: 5, ID: 4}) || e != api.OK {
		t.Errorf("Get(4) = %v, %v", k, e)
	}
	if k, e := h.Get(5); k != (api.Key{}) || e != api.ErrNone {
		t.Errorf("Get(5) = %v, %v; want ErrNone", k, e)
	}
	for _, want := range []int{2, 1, 3, 4, 0} {
		id, k, e := h.Take()
		key := keys[want]
		if want == 4 {
			key = api.Key{At: 5, ID: 4}
		}
		if id != want || k != key || e != api.OK {
			t.Errorf("Take = %d, %v, %v; want %d, %v", id, k, e, want, key)
		}
	}
	if id, k, e := h.Take(); id != 0 || k != (api.Key{}) || e != api.ErrNone {
		t.Errorf("Take = %d, %v, %v; want ErrNone", id, k, e)
	}
}

func TestOtherKeys(t *testing.T) {
	texts := empty(t, func(a, b string) bool { return a < b })
	texts.Put(1, "pear")
	texts.Put(2, "apple")
	if id, k, e := texts.Peek(); id != 2 || k != "apple" || e != api.OK {
		t.Errorf("Peek = %d, %q, %v", id, k, e)
	}
	// Keys that cannot be held against each other by ==.
	lists := empty(t, func(a, b []int) bool { return slices.Compare(a, b) < 0 })
	lists.Put(1, []int{3, 1})
	lists.Put(2, []int{3})
	lists.Put(3, nil)
	var ids []int
	for id := range lists.Copy().All() {
		ids = append(ids, id)
	}
	if !slices.Equal(ids, []int{3, 2, 1}) {
		t.Errorf("All = %v; want 3, 2, 1", ids)
	}
}

// P3.3

// TestTakeInOrder: six numbers, some with the same keys, put in every order.
func TestTakeInOrder(t *testing.T) {
	keys := []int{3, 1, 2, 1, 3, 0}
	want := []pair{{5, 0}, {1, 1}, {3, 1}, {2, 2}, {0, 3}, {4, 3}}
	for l := range permutations(len(keys)) {
		h := empty(t, rising)
		for _, id := range l {
			h.Put(id, keys[id])
		}
		if got := taken(t, h); !slices.Equal(got, want) {
			t.Fatalf("put as %v, Take = %v; want %v", l, got, want)
		}
	}
}

// TestDropInAnyOrder: what is left is told the same, however the others went.
func TestDropInAnyOrder(t *testing.T) {
	keys := []int{3, 1, 2, 1, 3, 0}
	for l := range permutations(len(keys)) {
		h := empty(t, rising)
		there := map[int]int{}
		for id, k := range keys {
			h.Put(id, k)
			there[id] = k
		}
		for _, id := range l {
			h.Drop(id)
			delete(there, id)
			if got, want := through(h.All()), sorted(rising, there); !slices.Equal(got, want) {
				t.Fatalf("dropped as %v, All = %v; want %v", l, got, want)
			}
			if got, want := taken(t, h.Copy()), sorted(rising, there); !slices.Equal(got, want) {
				t.Fatalf("dropped as %v, Take = %v; want %v", l, got, want)
			}
		}
	}
}

// dice are numbers that look like thrown ones, the same in every run.
func dice() func(n int) int {
	state := uint64(1)
	return func(n int) int {
		state = state*6364136223846793005 + 1442695040888963407
		return int(state>>33) % n
	}
}

// model is a heap as plain as can be, to hold the other one against.
type model struct {
	less  func(a, b int) bool
	there map[int]int
}

func (m model) put(id, k int) api.Errno {
	if id < 0 {
		return api.ErrArg
	}
	if _, is := m.there[id]; is {
		return api.ErrThere
	}
	m.there[id] = k
	return api.OK
}

func (m model) change(id, k int) api.Errno {
	if _, is := m.there[id]; !is {
		return api.ErrNone
	}
	m.there[id] = k
	return api.OK
}

func (m model) drop(id int) (int, api.Errno) {
	k, is := m.there[id]
	if !is {
		return 0, api.ErrNone
	}
	delete(m.there, id)
	return k, api.OK
}

func (m model) take() (int, int, api.Errno) {
	if len(m.there) == 0 {
		return 0, 0, api.ErrNone
	}
	first := sorted(m.less, m.there)[0]
	delete(m.there, first.id)
	return first.id, first.k, api.OK
}

// step does one thing to both, and tells whether they answered the same.
func step(h *heap.Heap[int], m model, what, id, k int) bool {
	switch what {
	case 0, 1, 2:
		return h.Put(id, k) == m.put(id, k)
	case 3:
		return h.Change(id, k) == m.change(id, k)
	case 4:
		got, e := h.Drop(id)
		want, wantE := m.drop(id)
		return got == want && e == wantE
	}
	gotID, got, e := h.Take()
	wantID, want, wantE := m.take()
	return gotID == wantID && got == want && e == wantE
}

// TestAgainstModel: long rows of calls, wrong ones among them, with few keys and with many.
func TestAgainstModel(t *testing.T) {
	for name, less := range map[string]func(a, b int) bool{"rising": rising, "by tens": byTens} {
		for _, numbers := range []int{4, 20, 90} {
			throw := dice()
			h, m := empty(t, less), model{less, map[int]int{}}
			for n := range 3000 {
				what, id, k := throw(6), throw(numbers)-1, throw(40)
				if !step(h, m, what, id, k) {
					t.Fatalf("%s, %d numbers, call %d: %d of (%d, %d) is answered otherwise", name, numbers, n, what, id, k)
				}
				if got, want := through(h.All()), sorted(less, m.there); !slices.Equal(got, want) {
					t.Fatalf("%s, %d numbers, call %d: All = %v; want %v", name, numbers, n, got, want)
				}
				if n%50 == 0 {
					holds(t, h, sorted(less, m.there)...)
				}
			}
		}
	}
}

// TestMany: a heap that is deep, put falling and taken rising.
func TestMany(t *testing.T) {
	const n = 20000
	h := empty(t, rising)
	for id := range n {
		h.Put(id, (n-id)/2)
	}
	for id := 0; id < n; id += 3 {
		h.Drop(id)
	}
	last := pair{-1, -1}
	for count := h.Len(); count > 0; count-- {
		id, k, e := h.Take()
		if e != api.OK || id%3 == 0 || k != (n-id)/2 || k < last.k || k == last.k && id < last.id {
			t.Fatalf("Take = %d, %d, %v behind %v", id, k, e, last)
		}
		last = pair{id, k}
	}
}

// R1

// TestWrongOrders: no call panics or hangs, whatever less answers or does, and what is there does not hang on it.
func TestWrongOrders(t *testing.T) {
	throw := dice()
	for name, less := range map[string]func(a, b int) bool{
		"always":   func(int, int) bool { return true },
		"thrown":   func(int, int) bool { return throw(2) == 0 },
		"in rings": func(a, b int) bool { return (b-a+30)%3 == 1 },
		"panics":   func(int, int) bool { panic("no order") },
		"at times": func(a, b int) bool {
			if a%4 == 0 {
				panic("no order")
			}
			return a < b
		},
	} {
		h := empty(t, less)
		for id := range 30 {
			if e := h.Put(id, id%7); e != api.OK {
				t.Errorf("%s: Put(%d) = %v", name, id, e)
			}
		}
		if e := h.Change(5, 6); e != api.OK {
			t.Errorf("%s: Change = %v", name, e)
		}
		if k, e := h.Drop(9); k != 2 || e != api.OK {
			t.Errorf("%s: Drop = %d, %v", name, k, e)
		}
		c := h.Copy()
		seen := map[int]int{}
		for id := range h.All() {
			seen[id]++
		}
		for range h.Len() {
			id, _, _ := h.Take()
			seen[id]++
			id, _, _ = c.Take()
			seen[id]++
		}
		if len(seen) != 29 || seen[9] != 0 || h.Len() != 0 || c.Len() != 0 {
			t.Errorf("%s: %d numbers were there", name, len(seen))
		}
		for id, n := range seen {
			if n != 3 {
				t.Errorf("%s: number %d came %d times; want 3", name, id, n)
			}
		}
	}
}

// TestPanicIsNotLess: keys of which less cannot tell are less neither way.
func TestPanicIsNotLess(t *testing.T) {
	h := empty(t, func(a, b *int) bool { return *a < *b })
	for _, id := range []int{2, 0, 1} {
		if e := h.Put(id, nil); e != api.OK {
			t.Errorf("Put(%d, nil) = %v", id, e)
		}
	}
	for want := range 3 {
		if id, k, e := h.Take(); id != want || k != nil || e != api.OK {
			t.Errorf("Take = %d, %v, %v; want %d", id, k, e, want)
		}
	}
}

// R3

// TestApart: two heaps of one order do not know of each other.
func TestApart(t *testing.T) {
	a, b := made(t, rising, pair{1, 1}), made(t, rising, pair{1, 2})
	a.Put(2, 0)
	b.Drop(1)
	holds(t, a, pair{2, 0}, pair{1, 1})
	holds(t, b)
}
