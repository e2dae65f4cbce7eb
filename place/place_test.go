package place_test

import (
	"math"
	"reflect"
	"slices"
	"testing"

	"metronome/api"
	"metronome/place"
)

// The document's numbers, not the packages'.
const (
	none       = -1
	maxThreads = 64
	maxWorkers = 16
	horizon    = 1099511627776
	last       = horizon - 1
)

// dice is a row of numbers that is the same in every run.
func dice(seed uint64) func(n int) int {
	state := 88172645463325252 + seed
	return func(n int) int {
		state ^= state << 13
		state ^= state >> 7
		state ^= state << 17
		return int(state>>1) % n
	}
}

func key(at, id int) api.Key { return api.Key{At: at, ID: id} }

// chapter is the servers of the chapter's example.
func chapter() []api.Key { return []api.Key{key(9, 5), key(3, 2), key(4, 1), key(8, 7)} }

// many is n servers: the one with the greatest number has the earliest deadline.
func many(n int) []api.Key {
	var l []api.Key
	for id := range n {
		l = append(l, key(1000-id, id))
	}
	return l
}

// idle is n workers without servers.
func idle(n int) []int {
	var l []int
	for range n {
		l = append(l, none)
	}
	return l
}

// counted is n workers that run the servers from a number on, rising.
func counted(n, first int) []int {
	var l []int
	for w := range n {
		l = append(l, first+w)
	}
	return l
}

func with[T any](l []T, more ...T) []T { return append(slices.Clone(l), more...) }

func replaced[T any](l []T, at int, by T) []T {
	c := slices.Clone(l)
	c[at] = by
	return c
}

// What the document's words say, as plainly as they can be written down.

func wrongWorkers(running []int) api.Errno {
	if len(running) == 0 || len(running) > maxWorkers {
		return api.ErrArg
	}
	for _, id := range running {
		if id != none && id < 0 {
			return api.ErrArg
		}
	}
	for a := range running {
		for b := range a {
			if running[a] != none && running[a] == running[b] {
				return api.ErrThere
			}
		}
	}
	return api.OK
}

func wrongKey(k api.Key) api.Errno {
	switch {
	case k.ID < 0:
		return api.ErrArg
	case k.At < 0:
		return api.ErrRange
	case k.At >= horizon:
		return api.ErrHorizon
	}
	return api.OK
}

func isOne(l []api.Key, id int) bool {
	for _, k := range l {
		if k.ID == id {
			return true
		}
	}
	return false
}

func wrongServers(l []api.Key) api.Errno {
	if len(l) > maxThreads {
		return api.ErrFull
	}
	for i, k := range l {
		if e := wrongKey(k); e != api.OK {
			return e
		}
		if isOne(l[:i], k.ID) {
			return api.ErrThere
		}
	}
	return api.OK
}

func wrongBoth(running []int, l []api.Key) api.Errno {
	if e := wrongWorkers(running); e != api.OK {
		return e
	}
	return wrongServers(l)
}

// ahead is the order: by deadlines, and of one deadline by numbers.
func ahead(a, b api.Key) bool {
	if a.At != b.At {
		return a.At < b.At
	}
	return a.ID < b.ID
}

// modelBest counts for each server how many are ahead of it: so many places behind the first one it stands.
func modelBest(m int, l []api.Key) ([]api.Key, api.Errno) {
	if m < 0 {
		return nil, api.ErrArg
	}
	if e := wrongServers(l); e != api.OK {
		return nil, e
	}
	row := make([]api.Key, len(l))
	for _, k := range l {
		n := 0
		for _, o := range l {
			if ahead(o, k) {
				n++
			}
		}
		row[n] = k
	}
	if m < len(row) {
		row = row[:m]
	}
	return row, api.OK
}

func modelPlace(running []int, l []api.Key) ([]int, api.Errno) {
	if e := wrongBoth(running, l); e != api.OK {
		return nil, e
	}
	best, _ := modelBest(len(running), l)
	placed := idle(len(running))
	var others []int
	for _, k := range best {
		if w := slices.Index(running, k.ID); w != -1 {
			placed[w] = k.ID
		} else {
			others = append(others, k.ID)
		}
	}
	for _, id := range others {
		placed[slices.Index(placed, none)] = id
	}
	return placed, api.OK
}

func modelMoves(a, b []int) ([]int, api.Errno) {
	if e := wrongWorkers(a); e != api.OK {
		return nil, e
	}
	if e := wrongWorkers(b); e != api.OK {
		return nil, e
	}
	if len(a) != len(b) {
		return nil, api.ErrArg
	}
	var moved []int
	for w := range a {
		if a[w] != b[w] && b[w] != none {
			moved = append(moved, w)
		}
	}
	return moved, api.OK
}

// modelVictim is the worker of the last one that runs, that one's key, and how many of l run.
func modelVictim(running []int, l []api.Key) (worker int, victim api.Key, run int) {
	for w, id := range running {
		for _, k := range l {
			if k.ID == id {
				if run == 0 || ahead(victim, k) {
					worker, victim = w, k
				}
				run++
			}
		}
	}
	return worker, victim, run
}

func victim(running []int, l []api.Key) (int, api.Errno) {
	if e := wrongBoth(running, l); e != api.OK {
		return 0, e
	}
	w, _, run := modelVictim(running, l)
	if run == 0 {
		return 0, api.ErrNone
	}
	return w, api.OK
}

func beats(running []int, l []api.Key, k api.Key) (bool, api.Errno) {
	if e := wrongBoth(running, l); e != api.OK {
		return false, e
	}
	if isOne(l, k.ID) {
		return false, api.ErrThere
	}
	if e := wrongKey(k); e != api.OK {
		return false, e
	}
	_, v, run := modelVictim(running, l)
	return run < len(running) || ahead(k, v), api.OK
}

// The calls, held against that. A list that has an element or none is the same as its model; a list beside an error has none.

func same[T comparable](got, want []T, e, f api.Errno) bool {
	return slices.Equal(got, want) && e == f && (e == api.OK || len(got) == 0)
}

func holdBest(t *testing.T, m int, l []api.Key) {
	t.Helper()
	got, e := place.Best(m, l)
	if want, f := modelBest(m, l); !same(got, want, e, f) {
		t.Fatalf("Best(%d, %v) = %v, %v; want %v, %v", m, l, got, e, want, f)
	}
}

func holdPlace(t *testing.T, running []int, l []api.Key) {
	t.Helper()
	got, e := place.Place(running, l)
	if want, f := modelPlace(running, l); !same(got, want, e, f) {
		t.Fatalf("Place(%v, %v) = %v, %v; want %v, %v", running, l, got, e, want, f)
	}
}

func holdMoves(t *testing.T, a, b []int) {
	t.Helper()
	got, e := place.Moves(a, b)
	if want, f := modelMoves(a, b); !same(got, want, e, f) {
		t.Fatalf("Moves(%v, %v) = %v, %v; want %v, %v", a, b, got, e, want, f)
	}
}

func holdVictim(t *testing.T, running []int, l []api.Key) {
	t.Helper()
	got, e := place.Victim(running, l)
	if want, f := victim(running, l); got != want || e != f {
		t.Fatalf("Victim(%v, %v) = %v, %v; want %v, %v", running, l, got, e, want, f)
	}
}

func holdBeats(t *testing.T, running []int, l []api.Key, k api.Key) {
	t.Helper()
	got, e := place.Beats(running, l, k)
	if want, f := beats(running, l, k); got != want || e != f {
		t.Fatalf("Beats(%v, %v, %v) = %v, %v; want %v, %v", running, l, k, got, e, want, f)
	}
}

// hold is all that is told of workers, servers and one more.
func hold(t *testing.T, running []int, l []api.Key, k api.Key) {
	t.Helper()
	holdBest(t, len(running), l)
	holdPlace(t, running, l)
	holdVictim(t, running, l)
	holdBeats(t, running, l, k)
}

// Rows of workers and servers.

// draw is up to n workers that run some of the servers below most, and servers of those.
func draw(roll func(n int) int, n, most, times int) ([]int, []api.Key) {
	ids := shuffled(roll, counted(most, 0))
	running := idle(1 + roll(n))
	for w := range running {
		if w < len(ids) && roll(3) != 0 {
			running[w] = ids[w]
		}
	}
	var l []api.Key
	for _, id := range shuffled(roll, ids)[:roll(min(most, maxThreads)+1)] {
		l = append(l, key(roll(times), id))
	}
	return running, l
}

func shuffled[T any](roll func(n int) int, l []T) []T {
	c := slices.Clone(l)
	for i := range c {
		j := i + roll(len(c)-i)
		c[i], c[j] = c[j], c[i]
	}
	return c
}

// play draws rows of all sizes.
func play(rows int, do func(roll func(n int) int, running []int, l []api.Key)) {
	roll := dice(11)
	for range rows {
		most := []int{1, 2, 4, 8, 16, 24, 64, 70}[roll(8)]
		times := []int{1, 2, 5, 100, horizon}[roll(5)]
		running, l := draw(roll, maxWorkers, most, times)
		do(roll, running, l)
	}
}

// P11.1

func TestNone(t *testing.T) {
	if place.None != none {
		t.Errorf("None = %d", place.None)
	}
}

func TestBest(t *testing.T) {
	sorted := []api.Key{key(3, 2), key(4, 1), key(8, 7), key(9, 5)}
	for _, c := range []struct {
		m    int
		l    []api.Key
		want []api.Key
		e    api.Errno
	}{
		{math.MinInt, chapter(), nil, api.ErrArg},
		{-2, chapter(), nil, api.ErrArg},
		{-1, chapter(), nil, api.ErrArg},
		{-1, nil, nil, api.ErrArg},
		{0, chapter(), nil, api.OK},
		{1, chapter(), sorted[:1], api.OK},
		{2, chapter(), sorted[:2], api.OK},
		{3, chapter(), sorted[:3], api.OK},
		{4, chapter(), sorted, api.OK},
		{5, chapter(), sorted, api.OK},
		{64, chapter(), sorted, api.OK},
		{65, chapter(), sorted, api.OK},
		{math.MaxInt, chapter(), sorted, api.OK},
		{0, nil, nil, api.OK},
		{3, nil, nil, api.OK},
		{3, []api.Key{}, nil, api.OK},
		{1, []api.Key{key(0, 0)}, []api.Key{key(0, 0)}, api.OK},
		{2, []api.Key{key(5, 3), key(5, 1), key(5, 2)}, []api.Key{key(5, 1), key(5, 2)}, api.OK},
		{3, []api.Key{key(5, 3), key(5, 1), key(4, 9)}, []api.Key{key(4, 9), key(5, 1), key(5, 3)}, api.OK},
		{2, []api.Key{key(last, 0), key(0, math.MaxInt)}, []api.Key{key(0, math.MaxInt), key(last, 0)}, api.OK},
		{2, []api.Key{key(0, 64), key(0, 63)}, []api.Key{key(0, 63), key(0, 64)}, api.OK},
	} {
		if got, e := place.Best(c.m, c.l); !same(got, c.want, e, c.e) {
			t.Errorf("Best(%d, %v) = %v, %v; want %v, %v", c.m, c.l, got, e, c.want, c.e)
		}
	}
}

func TestBestOfManyServers(t *testing.T) {
	for _, m := range []int{0, 1, 16, 63, 64, 65, math.MaxInt} {
		got, e := place.Best(m, many(64))
		want := slices.Clone(many(64))
		slices.Reverse(want)
		if !same(got, want[:min(m, 64)], e, api.OK) {
			t.Errorf("Best(%d) of 64 = %v, %v", m, got, e)
		}
		for _, n := range []int{65, 66, 1000} {
			if got, e := place.Best(m, many(n)); len(got) != 0 || e != api.ErrFull {
				t.Errorf("Best(%d) of %d = %v, %v; want ErrFull", m, n, got, e)
			}
		}
	}
}

func TestPlace(t *testing.T) {
	l := chapter()
	for _, c := range []struct {
		text    string
		running []int
		l       []api.Key
		want    []int
	}{
		{"the chapter's", []int{5, none, 7}, l, []int{2, 1, 7}},
		{"fewer workers than servers, all idle", idle(2), l, []int{2, 1}},
		{"one worker, idle", idle(1), l, []int{2}},
		{"one worker with the best one", []int{2}, l, []int{2}},
		{"one worker with another one", []int{7}, l, []int{2}},
		{"one worker with one that is not told", []int{3}, l, []int{2}},
		{"as many as servers, all idle", idle(4), l, []int{2, 1, 7, 5}},
		{"as many as servers, all of them there", []int{5, 7, 1, 2}, l, []int{5, 7, 1, 2}},
		{"as many as servers, two of them there", []int{none, 5, 9, 2}, l, []int{1, 5, 7, 2}},
		{"more workers than servers", idle(6), l, []int{2, 1, 7, 5, none, none}},
		{"more workers, with one at the end", []int{none, none, none, none, none, 2}, l, []int{1, 7, 5, none, none, 2}},
		{"more workers, idle ones ahead", []int{none, 5, none, 1, 8, 2}, l, []int{7, 5, none, 1, none, 2}},
		{"all that run are among the best", []int{1, 2}, l, []int{1, 2}},
		{"all that run, and one idle", []int{7, none, 2}, l, []int{7, 1, 2}},
		{"some of the best, at the end", []int{5, 7, 2}, l, []int{1, 7, 2}},
		{"some of the best, in the middle", []int{5, 2, 9}, l, []int{1, 2, 7}},
		{"some of the best, first", []int{1, 5, 4}, l, []int{1, 2, 7}},
		{"none of the best", []int{5, 7}, l, []int{2, 1}},
		{"none that is told", []int{3, 4, 6}, l, []int{2, 1, 7}},
		{"no servers", []int{1, none, 9}, nil, []int{none, none, none}},
		{"no servers, one worker", []int{0}, []api.Key{}, []int{none}},
		{"of one deadline, by numbers", []int{8, none}, []api.Key{key(5, 8), key(5, 3), key(5, 4)}, []int{3, 4}},
		{"of one deadline, one stays", []int{none, 4}, []api.Key{key(5, 8), key(5, 3), key(5, 4)}, []int{3, 4}},
		{"the greatest number", []int{math.MaxInt, 0}, []api.Key{key(last, math.MaxInt), key(0, 1)}, []int{math.MaxInt, 1}},
		{"the number 0", []int{none, 0}, []api.Key{key(0, 0), key(0, 1)}, []int{1, 0}},
	} {
		if got, e := place.Place(c.running, c.l); !same(got, c.want, e, api.OK) {
			t.Errorf("%s: Place(%v, %v) = %v, %v; want %v", c.text, c.running, c.l, got, e, c.want)
		}
	}
}

func TestPlaceOnAllWorkers(t *testing.T) {
	if got, e := place.Place(idle(16), many(64)); !same(got, []int{63, 62, 61, 60, 59, 58, 57, 56, 55, 54, 53, 52, 51, 50, 49, 48}, e, api.OK) {
		t.Errorf("16 idle workers: %v, %v", got, e)
	}
	if got, e := place.Place(counted(16, 48), many(64)); !same(got, counted(16, 48), e, api.OK) {
		t.Errorf("16 workers that run the best ones: %v, %v", got, e)
	}
	if got, e := place.Place(counted(16, 0), many(64)); !same(got, []int{63, 62, 61, 60, 59, 58, 57, 56, 55, 54, 53, 52, 51, 50, 49, 48}, e, api.OK) {
		t.Errorf("16 workers that run the worst ones: %v, %v", got, e)
	}
	if got, e := place.Place(counted(16, 0), many(16)); !same(got, counted(16, 0), e, api.OK) {
		t.Errorf("16 workers and as many servers: %v, %v", got, e)
	}
}

// P11.2

func TestMoves(t *testing.T) {
	for _, c := range []struct {
		a, b []int
		want []int
		e    api.Errno
	}{
		{[]int{5, none, 7}, []int{2, 1, 7}, []int{0, 1}, api.OK},
		{[]int{1, 2, none}, []int{1, none, 3}, []int{2}, api.OK},
		{[]int{1, 2, 3}, []int{1, 2, 3}, nil, api.OK},
		{idle(3), idle(3), nil, api.OK},
		{[]int{1, 2, 3}, idle(3), nil, api.OK},
		{idle(3), []int{1, 2, 3}, []int{0, 1, 2}, api.OK},
		{[]int{1, 2, 3}, []int{2, 3, 1}, []int{0, 1, 2}, api.OK},
		{[]int{1, 2, 3}, []int{1, 2, 4}, []int{2}, api.OK},
		{[]int{1, 2, 3}, []int{0, 2, 3}, []int{0}, api.OK},
		{[]int{1, 2}, []int{none, 1}, []int{1}, api.OK},
		{[]int{0}, []int{none}, nil, api.OK},
		{[]int{none}, []int{0}, []int{0}, api.OK},
		{[]int{math.MaxInt}, []int{0}, []int{0}, api.OK},
		{[]int{0}, []int{math.MaxInt}, []int{0}, api.OK},
		{counted(16, 0), counted(16, 0), nil, api.OK},
		{counted(16, 0), counted(16, 1), counted(16, 0), api.OK},
		{idle(16), idle(16), nil, api.OK},
		{[]int{1}, []int{1, 2}, nil, api.ErrArg},
		{[]int{1, 2}, []int{1}, nil, api.ErrArg},
		{idle(15), idle(16), nil, api.ErrArg},
		{idle(16), idle(17), nil, api.ErrArg},
		{idle(17), idle(17), nil, api.ErrArg},
		{nil, nil, nil, api.ErrArg},
		{[]int{1}, nil, nil, api.ErrArg},
		{nil, []int{1}, nil, api.ErrArg},
		{[]int{}, []int{}, nil, api.ErrArg},
		// Of a first, then of b, then of both.
		{[]int{1, 1}, []int{1}, nil, api.ErrThere},
		{[]int{1}, []int{2, 2}, nil, api.ErrThere},
		{[]int{1, 1}, []int{-2, 1}, nil, api.ErrThere},
		{[]int{-2, 1}, []int{1, 1}, nil, api.ErrArg},
		{[]int{1, 1}, nil, nil, api.ErrThere},
		{nil, []int{1, 1}, nil, api.ErrArg},
		{[]int{1, 1}, []int{1, 1}, nil, api.ErrThere},
		{[]int{1, -2}, []int{1, -2}, nil, api.ErrArg},
		{[]int{1, 2}, []int{1, -2}, nil, api.ErrArg},
	} {
		if got, e := place.Moves(c.a, c.b); !same(got, c.want, e, c.e) {
			t.Errorf("Moves(%v, %v) = %v, %v; want %v, %v", c.a, c.b, got, e, c.want, c.e)
		}
	}
}

// All lists of none to three workers, with one number that may not be.
func TestMovesOfAllLists(t *testing.T) {
	lists := [][]int{nil}
	for n := range 3 {
		for _, l := range lists {
			for id := -2; id <= 2 && len(l) == n; id++ {
				lists = append(lists, with(l, id))
			}
		}
	}
	for _, a := range lists {
		for _, b := range lists {
			holdMoves(t, a, b)
		}
	}
}

func TestVictim(t *testing.T) {
	l := chapter()
	for _, c := range []struct {
		text    string
		running []int
		l       []api.Key
		want    int
		e       api.Errno
	}{
		{"the chapter's", []int{5, none, 7}, l, 0, api.OK},
		{"no worker runs any", idle(3), l, 0, api.ErrNone},
		{"no worker runs one of l", []int{3, 0, none}, l, 0, api.ErrNone},
		{"no servers", []int{3, 0, none}, nil, 0, api.ErrNone},
		{"no servers, idle", idle(1), []api.Key{}, 0, api.ErrNone},
		{"one worker runs one, the first one", []int{2, 3}, l, 0, api.OK},
		{"one worker runs one, behind", []int{3, none, 2}, l, 2, api.OK},
		{"several, the last one first", []int{5, 7, 1, 2}, l, 0, api.OK},
		{"several, the last one in the middle", []int{1, 7, 2}, l, 1, api.OK},
		{"several, the last one last", []int{2, 1, 7}, l, 2, api.OK},
		{"several, beside one that is not told", []int{2, 99, 1}, l, 2, api.OK},
		{"of one deadline, by numbers", []int{3, 8, 4}, []api.Key{key(5, 8), key(5, 3), key(5, 4)}, 1, api.OK},
		{"of one deadline, but one", []int{3, 8, 4}, []api.Key{key(5, 8), key(6, 3), key(5, 4)}, 0, api.OK},
		{"one with the number 0", []int{none, 0}, []api.Key{key(0, 0)}, 1, api.OK},
		{"one with the greatest number", []int{none, 0, math.MaxInt}, []api.Key{key(0, 0), key(0, math.MaxInt)}, 2, api.OK},
		{"all 16", counted(16, 0), many(64), 0, api.OK},
	} {
		if got, e := place.Victim(c.running, c.l); got != c.want || e != c.e {
			t.Errorf("%s: Victim(%v, %v) = %v, %v; want %v, %v", c.text, c.running, c.l, got, e, c.want, c.e)
		}
	}
}

func TestBeats(t *testing.T) {
	l := chapter()
	for _, c := range []struct {
		text    string
		running []int
		k       api.Key
		want    bool
		e       api.Errno
	}{
		{"one of l, that runs", []int{2, 1}, key(3, 2), false, api.ErrThere},
		{"one of l, that does not", []int{2, 1}, key(8, 7), false, api.ErrThere},
		{"one of l, with another deadline", []int{2, 1}, key(0, 5), false, api.ErrThere},
		{"one of l, where a worker is idle", []int{2, none}, key(0, 5), false, api.ErrThere},
		{"one of l, with a deadline that may not be", []int{2, 1}, key(-1, 7), false, api.ErrThere},
		{"one of l, with one behind the end of time", []int{2, 1}, key(horizon, 7), false, api.ErrThere},
		{"a number below 0", []int{2, 1}, key(1, -1), false, api.ErrArg},
		{"the least number", []int{2, none}, key(1, math.MinInt), false, api.ErrArg},
		{"a number below 0, and a deadline too", []int{2, 1}, key(-1, -1), false, api.ErrArg},
		{"a number below 0, and no time", []int{2, 1}, key(horizon, -1), false, api.ErrArg},
		{"a deadline below 0", []int{2, 1}, key(-1, 8), false, api.ErrRange},
		{"a deadline below 0, where a worker is idle", []int{2, none}, key(-1, 8), false, api.ErrRange},
		{"the least deadline", []int{2, 1}, key(math.MinInt, 8), false, api.ErrRange},
		{"a deadline at the end of time", []int{2, 1}, key(horizon, 8), false, api.ErrHorizon},
		{"the greatest deadline", []int{none, 1}, key(math.MaxInt, 8), false, api.ErrHorizon},
		{"a worker is idle", []int{2, none}, key(99, 3), true, api.OK},
		{"the last time, and a worker is idle", []int{2, none}, key(last, math.MaxInt), true, api.OK},
		{"a worker runs none of l", []int{2, 9}, key(99, 3), true, api.OK},
		{"a worker runs it", []int{2, 3}, key(99, 3), true, api.OK},
		{"no worker runs one of l", []int{8, 9}, key(99, 3), true, api.OK},
		{"all are idle", idle(2), key(99, 3), true, api.OK},
		{"ahead of the victim by its deadline", []int{2, 1}, key(3, 8), true, api.OK},
		{"ahead of all", []int{2, 1}, key(0, 0), true, api.OK},
		{"ahead of the victim by its number", []int{2, 1}, key(4, 0), true, api.OK},
		{"behind the victim by its number", []int{2, 1}, key(4, 3), false, api.OK},
		{"behind the victim by its deadline", []int{2, 1}, key(5, 0), false, api.OK},
		{"behind all", []int{2, 1}, key(last, math.MaxInt), false, api.OK},
		{"ahead of the last one, that is first", []int{5, 2}, key(8, 8), true, api.OK},
		{"behind the last one, that is first", []int{5, 2}, key(9, 6), false, api.OK},
		{"ahead of the one that runs, behind one that waits", []int{5}, key(8, 8), true, api.OK},
		{"behind the one that runs", []int{2}, key(3, 3), false, api.OK},
		{"ahead of the one that runs", []int{2}, key(3, 0), true, api.OK},
	} {
		if got, e := place.Beats(c.running, l, c.k); got != c.want || e != c.e {
			t.Errorf("%s: Beats(%v, %v) = %v, %v; want %v, %v", c.text, c.running, c.k, got, e, c.want, c.e)
		}
	}
}

func TestBeatsWithoutServers(t *testing.T) {
	for _, running := range [][]int{idle(1), {3}, {4, none}, counted(16, 0)} {
		for _, l := range [][]api.Key{nil, {}} {
			if got, e := place.Beats(running, l, key(last, 3)); !got || e != api.OK {
				t.Errorf("Beats(%v, no servers) = %v, %v", running, got, e)
			}
		}
	}
}

// Beside as many servers as there may be one more may be asked for.
func TestBeatsBeside64(t *testing.T) {
	for _, c := range []struct {
		k    api.Key
		want bool
	}{{key(0, 64), true}, {key(999, 64), true}, {key(1000, 64), false}, {key(last, 64), false}} {
		if got, e := place.Beats([]int{63, 0}, many(64), c.k); got != c.want || e != api.OK {
			t.Errorf("Beats(%v) beside 64 = %v, %v; want %v", c.k, got, e, c.want)
		}
	}
}

// P11.1 and P11.2, of all small lists, and of long rows.

// smallServers are all lists of the servers 0 to 3 with the deadlines 0 and 1, rising or falling.
func smallServers() [][]api.Key {
	all := [][]api.Key{nil}
	for id := range 4 {
		for _, l := range all {
			all = append(all, with(l, key(0, id)), append([]api.Key{key(1, id)}, l...))
		}
	}
	return all
}

// smallWorkers are all lists of one to three workers with the servers 0 to 3.
func smallWorkers() [][]int {
	var all [][]int
	for a := none; a < 4; a++ {
		all = append(all, []int{a})
		for b := none; b < 4; b++ {
			all = append(all, []int{a, b})
			for c := none; c < 4; c++ {
				all = append(all, []int{a, b, c})
			}
		}
	}
	return all
}

func TestAllSmallLists(t *testing.T) {
	servers := smallServers()
	for _, running := range smallWorkers() {
		for i, l := range servers {
			hold(t, running, l, key(i%2, 0))
			for id := range 5 {
				holdBeats(t, running, l, key(i%2, id))
			}
		}
	}
}

func TestLongRows(t *testing.T) {
	play(6000, func(roll func(n int) int, running []int, l []api.Key) {
		hold(t, running, l, key(roll(100), roll(70)))
		holdBest(t, roll(70)-2, l)
		if len(l) != 0 {
			// Beside the keys that are told stand the closest calls.
			k := l[roll(len(l))]
			holdBeats(t, running, l, key(k.At, roll(70)))
			holdBeats(t, running, l, key(k.At-1, roll(70)))
		}
		b, _ := place.Place(running, l)
		holdMoves(t, running, b)
		holdMoves(t, b, running)
	})
}

// The order in which servers are told does not count.
func TestOrderDoesNotCount(t *testing.T) {
	play(600, func(roll func(n int) int, running []int, l []api.Key) {
		k := key(roll(100), 70+roll(9))
		best, _ := place.Best(len(running), l)
		placed, _ := place.Place(running, l)
		v, e := place.Victim(running, l)
		b, _ := place.Beats(running, l, k)
		turned := slices.Clone(l)
		slices.Reverse(turned)
		for _, o := range [][]api.Key{turned, shuffled(roll, l), shuffled(roll, l)} {
			best2, _ := place.Best(len(running), o)
			placed2, _ := place.Place(running, o)
			v2, e2 := place.Victim(running, o)
			b2, _ := place.Beats(running, o, k)
			if !slices.Equal(best, best2) || !slices.Equal(placed, placed2) || v != v2 || e != e2 || b != b2 {
				t.Fatalf("of %v and %v: %v %v %v %v %v; of %v: %v %v %v %v %v", running, l, best, placed, v, e, b, o, best2, placed2, v2, e2, b2)
			}
		}
	})
}

// The chapter's example.
func TestExample(t *testing.T) {
	running := []int{5, place.None, 7}
	best, e := place.Best(3, chapter())
	if !same(best, []api.Key{key(3, 2), key(4, 1), key(8, 7)}, e, api.OK) {
		t.Errorf("Best = %v, %v", best, e)
	}
	placed, e := place.Place(running, chapter())
	if !same(placed, []int{2, 1, 7}, e, api.OK) {
		t.Errorf("Place = %v, %v", placed, e)
	}
	if w, e := place.Victim(running, chapter()); w != 0 || e != api.OK {
		t.Errorf("Victim = %d, %v", w, e)
	}
}

// P11.3

// runsAsItMust checks what an answer of Place must be, whatever ran ahead of it.
func runsAsItMust(t *testing.T, running []int, l []api.Key, placed []int) {
	t.Helper()
	if len(placed) != len(running) {
		t.Fatalf("Place(%v, %v) = %v", running, l, placed)
	}
	var runs, waits []api.Key
	for _, k := range l {
		switch on := count(placed, k.ID); on {
		case 0:
			waits = append(waits, k)
		case 1:
			runs = append(runs, k)
		default:
			t.Fatalf("Place(%v, %v) = %v: %d runs on %d workers", running, l, placed, k.ID, on)
		}
	}
	if len(runs) != min(len(running), len(l)) || len(runs)+count(placed, none) != len(placed) {
		t.Fatalf("Place(%v, %v) = %v: %d run", running, l, placed, len(runs))
	}
	for _, k := range runs {
		for _, o := range waits {
			if ahead(o, k) {
				t.Fatalf("Place(%v, %v) = %v: %v waits, and %v runs", running, l, placed, o, k)
			}
		}
	}
	for w, id := range running {
		if id != none && placed[w] != id && slices.Contains(placed, id) {
			t.Fatalf("Place(%v, %v) = %v: %d moved", running, l, placed, id)
		}
	}
}

func count(l []int, id int) int {
	n := 0
	for _, x := range l {
		if x == id {
			n++
		}
	}
	return n
}

func TestWhoRuns(t *testing.T) {
	play(3000, func(_ func(n int) int, running []int, l []api.Key) {
		placed, e := place.Place(running, l)
		if e != api.OK {
			t.Fatalf("Place(%v, %v): %v", running, l, e)
		}
		runsAsItMust(t, running, l, placed)
	})
}

func TestPlaceOfWhatPlaceAnswers(t *testing.T) {
	play(2000, func(_ func(n int) int, running []int, l []api.Key) {
		placed, _ := place.Place(running, l)
		again, e := place.Place(placed, l)
		if !same(again, placed, e, api.OK) {
			t.Fatalf("Place(%v, %v) = %v, and of that %v, %v", running, l, placed, again, e)
		}
		if moved, e := place.Moves(placed, again); len(moved) != 0 || e != api.OK {
			t.Fatalf("Moves(%v, %v) = %v, %v", placed, again, moved, e)
		}
	})
}

// One that does not beat turns nothing, whatever runs; one that does runs, where those run that must.
func TestWhoBeatsRuns(t *testing.T) {
	seen := map[bool]int{}
	play(4000, func(roll func(n int) int, running []int, l []api.Key) {
		if len(l) == maxThreads {
			return
		}
		k := key(roll(100), 70+roll(9))
		if len(l) != 0 {
			k.At = l[roll(len(l))].At
		}
		placed, _ := place.Place(running, l)
		more, _ := place.Place(running, with(l, k))
		if b, _ := place.Beats(running, l, k); !b && !slices.Equal(placed, more) {
			t.Fatalf("%v does not beat among %v of %v, and Place = %v, with it %v", k, running, l, placed, more)
		}
		more, _ = place.Place(placed, with(l, k))
		b, e := place.Beats(placed, l, k)
		if e != api.OK || b != slices.Contains(more, k.ID) || !b && !slices.Equal(placed, more) {
			t.Fatalf("Beats(%v, %v, %v) = %v, %v, and Place = %v, with it %v", placed, l, k, b, e, placed, more)
		}
		seen[b]++
	})
	if seen[true] < 100 || seen[false] < 100 {
		t.Errorf("too few rows: %v", seen)
	}
}

// One that beats comes to the worker of the victim, where no worker is free.
func TestVictimMakesRoom(t *testing.T) {
	rows := 0
	play(4000, func(roll func(n int) int, running []int, l []api.Key) {
		placed, _ := place.Place(running, l)
		k := key(roll(100), 70)
		b, _ := place.Beats(placed, l, k)
		if !b || len(l) == maxThreads || slices.Contains(placed, none) {
			return
		}
		rows++
		v, e := place.Victim(placed, l)
		more, _ := place.Place(placed, with(l, k))
		if want := replaced(placed, v, k.ID); e != api.OK || !slices.Equal(more, want) {
			t.Fatalf("Place(%v, %v and %v) = %v; want %v", placed, l, k, more, want)
		}
	})
	if rows < 100 {
		t.Errorf("%d rows", rows)
	}
}

// Words: which workers, and which servers, may be; and which error is ahead of which.

type workersCase struct {
	running []int
	e       api.Errno
}

func workersCases() []workersCase {
	return []workersCase{
		{nil, api.ErrArg},
		{[]int{}, api.ErrArg},
		{idle(17), api.ErrArg},
		{counted(17, 0), api.ErrArg},
		{make([]int, 17), api.ErrArg},
		{idle(1000), api.ErrArg},
		{[]int{-2}, api.ErrArg},
		{[]int{math.MinInt}, api.ErrArg},
		{replaced(idle(16), 0, -2), api.ErrArg},
		{replaced(idle(16), 8, -2), api.ErrArg},
		{replaced(idle(16), 15, -2), api.ErrArg},
		{replaced(counted(16, 0), 15, math.MinInt), api.ErrArg},
		{[]int{-2, -2}, api.ErrArg},
		{[]int{3, 3}, api.ErrThere},
		{[]int{0, 0}, api.ErrThere},
		{[]int{0, none, 0}, api.ErrThere},
		{[]int{math.MaxInt, math.MaxInt}, api.ErrThere},
		{replaced(counted(16, 0), 15, 0), api.ErrThere},
		{replaced(counted(16, 0), 1, 0), api.ErrThere},
		{replaced(counted(16, 0), 15, 14), api.ErrThere},
		{[]int{3, 3, 3}, api.ErrThere},
		// A number that may not be is ahead of a server that comes twice.
		{[]int{3, 3, -2}, api.ErrArg},
		{[]int{-2, 3, 3}, api.ErrArg},
		{[]int{3, -2, 3}, api.ErrArg},
		{[]int{none}, api.OK},
		{[]int{0}, api.OK},
		{[]int{math.MaxInt}, api.OK},
		{[]int{none, none}, api.OK},
		{[]int{1, none, none, 2}, api.OK},
		{idle(16), api.OK},
		{counted(16, 0), api.OK},
		{counted(16, math.MaxInt-15), api.OK},
	}
}

type serversCase struct {
	l []api.Key
	e api.Errno
}

// serversCases has each key that may not be first, in the middle and last.
func serversCases() []serversCase {
	all := []serversCase{
		{nil, api.OK},
		{[]api.Key{}, api.OK},
		{chapter(), api.OK},
		{many(64), api.OK},
		{[]api.Key{key(0, 0), key(last, math.MaxInt)}, api.OK},
		{many(65), api.ErrFull},
		{make([]api.Key, 65), api.ErrFull},
		{with(many(64), key(-1, -1)), api.ErrFull},
		{append([]api.Key{key(-1, -1)}, many(64)...), api.ErrFull},
		{with(many(64), key(1000, 0)), api.ErrFull},
		// Of several keys the first one that may not be counts.
		{[]api.Key{key(-1, 1), key(1, -1)}, api.ErrRange},
		{[]api.Key{key(1, -1), key(-1, 1)}, api.ErrArg},
		{[]api.Key{key(horizon, 1), key(-1, 1)}, api.ErrHorizon},
		{[]api.Key{key(1, 1), key(1, 1), key(1, -1)}, api.ErrThere},
		{[]api.Key{key(1, 1), key(1, -1), key(1, 1)}, api.ErrArg},
		// Of one key its number, its deadline, and whether it is there.
		{[]api.Key{key(1, 1), key(-1, -1)}, api.ErrArg},
		{[]api.Key{key(1, 1), key(-1, 1)}, api.ErrRange},
		{[]api.Key{key(1, 1), key(horizon, 1)}, api.ErrHorizon},
	}
	for _, c := range []struct {
		k api.Key
		e api.Errno
	}{
		{key(1, -1), api.ErrArg},
		{key(1, math.MinInt), api.ErrArg},
		{key(-1, 99), api.ErrRange},
		{key(math.MinInt, 99), api.ErrRange},
		{key(horizon, 99), api.ErrHorizon},
		{key(math.MaxInt, 99), api.ErrHorizon},
		{key(math.MinInt, math.MinInt), api.ErrArg},
		{key(math.MaxInt, math.MaxInt), api.ErrHorizon},
	} {
		all = append(all, serversCase{[]api.Key{c.k}, c.e})
		for _, at := range []int{0, 1, 3} {
			all = append(all, serversCase{replaced(chapter(), at, c.k), c.e})
		}
		for _, at := range []int{0, 32, 63} {
			all = append(all, serversCase{replaced(many(64), at, c.k), c.e})
		}
	}
	for _, at := range []int{1, 2, 3} {
		all = append(all, serversCase{replaced(chapter(), at, key(7, 5)), api.ErrThere})
	}
	return append(all, serversCase{replaced(many(64), 63, key(937, 0)), api.ErrThere}, serversCase{replaced(many(64), 1, key(999, 63)), api.ErrThere})
}

// refused checks that all calls that are told of workers and servers answer an error, and nothing else.
func refused(t *testing.T, running []int, l []api.Key, want api.Errno) {
	t.Helper()
	if got, e := place.Place(running, l); len(got) != 0 || e != want {
		t.Errorf("Place(%v, %v) = %v, %v; want %v", running, l, got, e, want)
	}
	if got, e := place.Victim(running, l); got != 0 || e != want {
		t.Errorf("Victim(%v, %v) = %v, %v; want %v", running, l, got, e, want)
	}
	for _, k := range []api.Key{key(0, 1<<40), key(0, 5), key(-1, 9), key(horizon, 9), key(0, -1)} {
		if got, e := place.Beats(running, l, k); got || e != want {
			t.Errorf("Beats(%v, %v, %v) = %v, %v; want %v", running, l, k, got, e, want)
		}
	}
}

func TestWhichErrorIsAhead(t *testing.T) {
	for _, w := range workersCases() {
		for _, s := range serversCases() {
			switch {
			case w.e != api.OK:
				refused(t, w.running, s.l, w.e)
			case s.e != api.OK:
				refused(t, w.running, s.l, s.e)
			default:
				hold(t, w.running, s.l, key(5, 1<<40))
			}
		}
	}
}

func TestBestOfWrongServers(t *testing.T) {
	for _, s := range serversCases() {
		for _, m := range []int{0, 1, 3, 64, math.MaxInt} {
			if got, e := place.Best(m, s.l); e != s.e || e != api.OK && len(got) != 0 {
				t.Errorf("Best(%d, %v) = %v, %v; want %v", m, s.l, got, e, s.e)
			}
		}
		// What is wrong with m is named first.
		for _, m := range []int{-1, math.MinInt} {
			if got, e := place.Best(m, s.l); len(got) != 0 || e != api.ErrArg {
				t.Errorf("Best(%d, %v) = %v, %v; want ErrArg", m, s.l, got, e)
			}
		}
	}
}

func TestMovesOfWrongWorkers(t *testing.T) {
	for _, a := range workersCases() {
		for _, b := range workersCases() {
			want := a.e
			if want == api.OK {
				want = b.e
			}
			if want == api.OK && len(a.running) != len(b.running) {
				want = api.ErrArg
			}
			if got, e := place.Moves(a.running, b.running); e != want || e != api.OK && len(got) != 0 {
				t.Errorf("Moves(%v, %v) = %v, %v; want %v", a.running, b.running, got, e, want)
			}
			holdMoves(t, a.running, b.running)
		}
	}
}

// Victim's ErrNone is behind what is wrong with its arguments.
func TestNoVictimOfWrongServers(t *testing.T) {
	if w, e := place.Victim(idle(2), []api.Key{key(-1, 1)}); w != 0 || e != api.ErrRange {
		t.Errorf("Victim = %d, %v; want ErrRange", w, e)
	}
	if w, e := place.Victim([]int{3, 3}, nil); w != 0 || e != api.ErrThere {
		t.Errorf("Victim = %d, %v; want ErrThere", w, e)
	}
}

// Errors have the numbers that the document gives them.
func TestErrorNumbers(t *testing.T) {
	_, arg := place.Best(-1, nil)
	_, nobody := place.Victim(idle(1), nil)
	_, full := place.Best(1, many(65))
	_, there := place.Moves([]int{0, 0}, []int{0, 1})
	_, low := place.Best(1, []api.Key{key(-1, 0)})
	_, late := place.Best(1, []api.Key{key(horizon, 0)})
	got := []int{int(arg), int(nobody), int(full), int(there), int(low), int(late)}
	if !slices.Equal(got, []int{1, 14, 13, 15, 10, 21}) {
		t.Errorf("errors: %v", got)
	}
}

// R2: what is given is left as it was, and what is answered is the caller's own.

// behind is a list with more behind its end, which no one may see or write into.
func behind[T any](l []T, more T) []T {
	long := with(l, more, more, more)
	return long[:len(l)]
}

func TestGivenIsLeft(t *testing.T) {
	play(800, func(roll func(n int) int, running []int, l []api.Key) {
		a, s := behind(running, 77), behind(l, key(-5, -5))
		k := key(roll(100), 70)
		place.Best(roll(70), s)
		place.Place(a, s)
		place.Moves(a, a)
		place.Victim(a, s)
		place.Beats(a, s, k)
		if !slices.Equal(a, running) || !slices.Equal(s, l) {
			t.Fatalf("it was %v, %v, and is %v, %v", running, l, a, s)
		}
		if !slices.Equal(a[len(a):len(a)+3], []int{77, 77, 77}) || !slices.Equal(s[len(s):len(s)+3], []api.Key{key(-5, -5), key(-5, -5), key(-5, -5)}) {
			t.Fatalf("behind their ends stand %v, %v", a[:len(a)+3], s[:len(s)+3])
		}
		hold(t, a, s, k)
	})
}

func TestWrongListsAreLeft(t *testing.T) {
	for _, w := range workersCases() {
		for _, s := range serversCases() {
			a, l := slices.Clone(w.running), slices.Clone(s.l)
			place.Best(3, l)
			place.Place(a, l)
			place.Moves(a, a)
			place.Victim(a, l)
			place.Beats(a, l, key(0, 9))
			if !slices.Equal(a, w.running) || !slices.Equal(l, s.l) {
				t.Fatalf("it was %v, %v, and is %v, %v", w.running, s.l, a, l)
			}
		}
	}
}

func TestAnswersAreTheCallers(t *testing.T) {
	running, l := []int{1, 2}, []api.Key{key(3, 1), key(4, 2)}
	best, _ := place.Best(2, l)
	placed, _ := place.Place(running, l)
	moved, _ := place.Moves(idle(2), running)
	best[0], best[1] = key(99, 99), key(98, 98)
	placed[0], placed[1] = 99, 98
	moved[0], moved[1] = 99, 98
	_ = append(best, key(0, 0))
	_ = append(placed, 0)
	if !slices.Equal(running, []int{1, 2}) || !slices.Equal(l, []api.Key{key(3, 1), key(4, 2)}) {
		t.Errorf("what was given is %v, %v now", running, l)
	}
	hold(t, running, l, key(0, 3))
	holdMoves(t, idle(2), running)
	if again, _ := place.Best(2, l); !slices.Equal(again, l) {
		t.Errorf("Best again = %v", again)
	}
}

func TestGivenMayTurnLater(t *testing.T) {
	running, l := []int{5, none, 7}, chapter()
	best, _ := place.Best(3, l)
	placed, _ := place.Place(running, l)
	moved, _ := place.Moves(running, placed)
	for i := range running {
		running[i] = 40 + i
	}
	for i := range l {
		l[i] = key(0, 50+i)
	}
	if !slices.Equal(best, []api.Key{key(3, 2), key(4, 1), key(8, 7)}) || !slices.Equal(placed, []int{2, 1, 7}) || !slices.Equal(moved, []int{0, 1}) {
		t.Errorf("answers turned: %v, %v, %v", best, placed, moved)
	}
}

// R3: the same again, whatever was asked for in between.
func TestSameAgain(t *testing.T) {
	type answers struct {
		best   []api.Key
		placed []int
		moved  []int
		victim int
		beats  bool
		e      [5]api.Errno
	}
	ask := func(running []int, l []api.Key, k api.Key) (a answers) {
		a.best, a.e[0] = place.Best(len(running), l)
		a.placed, a.e[1] = place.Place(running, l)
		a.moved, a.e[2] = place.Moves(running, a.placed)
		a.victim, a.e[3] = place.Victim(running, l)
		a.beats, a.e[4] = place.Beats(running, l, k)
		return a
	}
	play(300, func(roll func(n int) int, running []int, l []api.Key) {
		k := key(roll(100), roll(70))
		first := ask(running, l, k)
		ask([]int{3, 3}, many(65), key(-1, -1))
		ask(idle(16), many(64), key(0, 70))
		if again := ask(slices.Clone(running), slices.Clone(l), k); !reflect.DeepEqual(first, again) {
			t.Fatalf("of %v, %v, %v: %+v, and then %+v", running, l, k, first, again)
		}
	})
}
