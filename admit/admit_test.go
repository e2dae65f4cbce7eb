package admit_test

import (
	"math"
	"slices"
	"testing"

	"metronome/admit"
	"metronome/api"
)

// The document's numbers, not the packages'.
const (
	one        = 1048576
	maxWorkers = 16
	maxPeriod  = 1073741824
	maxThreads = 64
)

// dice is a row of numbers that is the same in every run.
func dice(seed uint64) func(n int) int {
	state := 88172645463325252 + seed
	return func(n int) int {
		state ^= state << 13
		state ^= state >> 7
		state ^= state << 17
		return int(state>>1) % n
	}
}

// Servers and rules.

func params(q, d, t int) api.Params { return api.Params{Q: q, D: d, T: t} }

// even asks for n of any rule.
func even(n int) api.Params { return params(n, one, one) }

// early asks for n of a rule that is Hard, and of half as much, rounded up, of others.
func early(n int) api.Params { return params(n, one, 2*one) }

func soft(most, workers int) admit.Rule { return admit.Rule{Cap: most, Workers: workers} }

func hard(workers int) admit.Rule { return admit.Rule{Hard: true, Workers: workers} }

func servers(l ...api.Params) []api.Params { return l }

// beside is a list of its own.
func beside(l []api.Params, more ...api.Params) []api.Params { return slices.Concat(l, more) }

func times(n int, p api.Params) []api.Params { return slices.Repeat(servers(p), n) }

// without is a list of its own.
func without(l []api.Params, i int) []api.Params { return slices.Concat(l[:i], l[i+1:]) }

// Numbers near which answers turn.

func caps() []int {
	return []int{math.MinInt, -one, -1, 0, 1, 2, one / 2, one - 1, one, one + 1, math.MaxInt}
}

func workers() []int {
	return []int{math.MinInt, -1, 0, 1, 2, 3, 7, maxWorkers - 1, maxWorkers, maxWorkers + 1, math.MaxInt}
}

func mosts() []int {
	return []int{math.MinInt, -one, -1, 0, 1, 2, 3, one/2 - 1, one / 2, one/2 + 1, one - 1, one, one + 1, 2 * one, math.MaxInt}
}

// rules are all of them at the edges, those that may be and those that may not.
func rules() []admit.Rule {
	var l []admit.Rule
	for _, most := range caps() {
		for _, w := range workers() {
			l = append(l, admit.Rule{Hard: true, Cap: most, Workers: w}, admit.Rule{Cap: most, Workers: w})
		}
	}
	return l
}

// mayBeRules are some that may be.
func mayBeRules() []admit.Rule {
	var l []admit.Rule
	for w := 1; w <= maxWorkers; w++ {
		l = append(l, hard(w), admit.Rule{Hard: true, Cap: one, Workers: w}, soft(0, w), soft(one/3, w), soft(one-1, w), soft(one, w))
	}
	return l
}

// wrongParams are those that may not be.
func wrongParams() []api.Params {
	return []api.Params{
		{},
		params(0, 1, 1),
		params(-1, 1, 1),
		params(math.MinInt, 1, 1),
		params(2, 1, 2),
		params(2, 2, 1),
		params(1, 3, 2),
		params(1, 0, 1),
		params(1, -1, 1),
		params(1, 1, 0),
		params(1, 1, maxPeriod+1),
		params(1, 1, math.MaxInt),
		params(math.MaxInt, math.MaxInt, math.MaxInt),
		params(math.MinInt, math.MinInt, math.MinInt),
	}
}

// someServers are at the edges of what may be.
func someServers() []api.Params {
	return []api.Params{
		params(1, 1, 1),
		params(1, 1, 2),
		params(1, 2, 2),
		params(1, 3, 3),
		params(1, 3, 7),
		params(1, 1, maxPeriod),
		params(1, maxPeriod, maxPeriod),
		params(maxPeriod, maxPeriod, maxPeriod),
		params(maxPeriod-1, maxPeriod, maxPeriod),
		params(maxPeriod-1, maxPeriod-1, maxPeriod),
		even(1),
		even(one - 1),
		even(one / 2),
		early(1),
		early(one),
		params(10, 50, 100),
	}
}

// anyServer is one that may be.
func anyServer(roll func(int) int) api.Params {
	t := 1 + roll(1<<(1+roll(30)))
	d := 1 + roll(t)
	if roll(2) == 0 {
		d = t
	}
	return params(1+roll(d)/(1+roll(8)), d, t)
}

func anyServers(roll func(int) int, n int) []api.Params {
	l := make([]api.Params, n)
	for i := range l {
		l[i] = anyServer(roll)
	}
	return l
}

// The model: the document's words.

func in(n, from, to int) bool { return from <= n && n <= to }

func wrongRule(r admit.Rule) api.Errno {
	if in(r.Cap, 0, one) && in(r.Workers, 1, maxWorkers) {
		return api.OK
	}
	return api.ErrArg
}

func mayBe(p api.Params) bool { return 1 <= p.Q && p.Q <= p.D && p.D <= p.T && p.T <= maxPeriod }

// exactAsk is asked of params that may be.
func exactAsk(r admit.Rule, p api.Params) int {
	by := p.T
	if r.Hard {
		by = p.D
	}
	n := p.Q * one / by
	if n*by < p.Q*one {
		n++
	}
	return n
}

func exactLoad(r admit.Rule, l []api.Params) (sum, most int, e api.Errno) {
	if e := wrongRule(r); e != api.OK {
		return 0, 0, e
	}
	if slices.ContainsFunc(l, func(p api.Params) bool { return !mayBe(p) }) {
		return 0, 0, api.ErrArg
	}
	for _, p := range l {
		n := exactAsk(r, p)
		sum += n
		if n > most {
			most = n
		}
	}
	return sum, most, api.OK
}

func exactBound(r admit.Rule, most int) (int, api.Errno) {
	switch {
	case wrongRule(r) != api.OK:
		return 0, api.ErrArg
	case !in(most, 0, one):
		return 0, api.ErrRange
	case !r.Hard:
		return r.Cap * r.Workers, api.OK
	}
	return r.Workers*one - (r.Workers-1)*most, api.OK
}

func exactTest(r admit.Rule, l []api.Params) api.Errno {
	sum, most, e := exactLoad(r, l)
	if e != api.OK {
		return e
	}
	if limit, _ := exactBound(r, most); sum > limit {
		return api.ErrAdmit
	}
	return api.OK
}

// exactRoom solves what Room's words ask, for one that asks for no more than the most, and for one that asks for more.
func exactRoom(r admit.Rule, l []api.Params) (int, api.Errno) {
	if e := exactTest(r, l); e != api.OK {
		return 0, e
	}
	sum, most, _ := exactLoad(r, l)
	if !r.Hard {
		return min(r.Cap*r.Workers-sum, one), api.OK
	}
	left := r.Workers*one - sum
	return min(left-(r.Workers-1)*most, left/r.Workers), api.OK
}

func exactCopies(r admit.Rule, p api.Params, l []api.Params) (int, api.Errno) {
	if e := exactTest(r, l); e != api.OK {
		return 0, e
	}
	if !mayBe(p) {
		return 0, api.ErrArg
	}
	n := 0
	for n < maxThreads && exactTest(r, beside(l, times(n+1, p)...)) == api.OK {
		n++
	}
	return n, api.OK
}

func exactChange(r admit.Rule, i int, p api.Params, l []api.Params) api.Errno {
	if e := wrongRule(r); e != api.OK {
		return e
	}
	if !in(i, 0, len(l)-1) {
		return api.ErrNone
	}
	return exactTest(r, slices.Concat(l[:i], servers(p), l[i+1:]))
}

// sameLoad holds Load and Test against the model.
func sameLoad(t *testing.T, r admit.Rule, l []api.Params) {
	t.Helper()
	sum, most, e := exactLoad(r, l)
	if s, m, f := admit.Load(r, l...); s != sum || m != most || f != e {
		t.Errorf("Load(%+v, %v) = %d, %d, %v; want %d, %d, %v", r, l, s, m, f, sum, most, e)
	}
	if e, f := exactTest(r, l), admit.Test(r, l...); f != e {
		t.Errorf("Test(%+v, %v) = %v; want %v", r, l, f, e)
	}
}

func sameRoom(t *testing.T, r admit.Rule, l []api.Params) {
	t.Helper()
	n, e := exactRoom(r, l)
	if m, f := admit.Room(r, l...); m != n || f != e {
		t.Errorf("Room(%+v, %v) = %d, %v; want %d, %v", r, l, m, f, n, e)
	}
}

func sameCopies(t *testing.T, r admit.Rule, p api.Params, l []api.Params) {
	t.Helper()
	n, e := exactCopies(r, p, l)
	if m, f := admit.Copies(r, p, l...); m != n || f != e {
		t.Errorf("Copies(%+v, %v, %v) = %d, %v; want %d, %v", r, p, l, m, f, n, e)
	}
}

func sameChange(t *testing.T, r admit.Rule, i int, p api.Params, l []api.Params) {
	t.Helper()
	if e, f := exactChange(r, i, p, l), admit.Change(r, i, p, l...); f != e {
		t.Errorf("Change(%+v, %d, %v, %v) = %v; want %v", r, i, p, l, f, e)
	}
}

// P9.1

func TestCheck(t *testing.T) {
	for _, c := range []struct {
		most, workers int
		e             api.Errno
	}{
		{0, 1, api.OK},
		{1, 1, api.OK},
		{one / 2, 7, api.OK},
		{one - 1, maxWorkers - 1, api.OK},
		{one, 1, api.OK},
		{0, maxWorkers, api.OK},
		{one, maxWorkers, api.OK},
		{-1, 1, api.ErrArg},
		{one + 1, 1, api.ErrArg},
		{math.MinInt, 1, api.ErrArg},
		{math.MaxInt, 1, api.ErrArg},
		{one, 0, api.ErrArg},
		{one, -1, api.ErrArg},
		{one, maxWorkers + 1, api.ErrArg},
		{one, math.MinInt, api.ErrArg},
		{one, math.MaxInt, api.ErrArg},
		{0, 0, api.ErrArg}, // no workers
		{-1, 0, api.ErrArg},
		{one + 1, maxWorkers + 1, api.ErrArg},
		{math.MinInt, math.MinInt, api.ErrArg},
		{math.MaxInt, math.MaxInt, api.ErrArg},
	} {
		for _, isHard := range []bool{false, true} {
			r := admit.Rule{Hard: isHard, Cap: c.most, Workers: c.workers}
			if e := admit.Check(r); e != c.e {
				t.Errorf("Check(%+v) = %v; want %v", r, e, c.e)
			}
		}
	}
}

func TestLoad(t *testing.T) {
	for _, c := range []struct {
		r         admit.Rule
		l         []api.Params
		sum, most int
	}{
		{soft(one, 2), nil, 0, 0},
		{soft(one, 2), servers(), 0, 0},
		{hard(2), nil, 0, 0},
		{soft(one, 1), servers(params(10, 50, 100)), 104858, 104858},
		{hard(1), servers(params(10, 50, 100)), 209716, 209716},
		{soft(one, 1), servers(params(10, 100, 100)), 104858, 104858}, // D is T
		{hard(1), servers(params(10, 100, 100)), 104858, 104858},
		{soft(one, 2), servers(params(1, 2, 4), params(1, 3, 3)), 611670, 349526}, // the most is the last one's
		{hard(2), servers(params(1, 2, 4), params(1, 3, 3)), 873814, 524288},      // the first one's
		{soft(one, 2), servers(even(5), even(9), even(7)), 21, 9},                 // the middle one's
		{soft(one, 2), servers(even(9), even(9)), 18, 9},
		{soft(one, 2), servers(params(1, 3, 3), params(1, 3, 3), params(1, 3, 3)), 1048578, 349526}, // each is rounded up
		{soft(one, 1), servers(params(1, 1, maxPeriod)), 1, 1},
		{hard(1), servers(params(1, 1, maxPeriod)), one, one},
		{soft(0, 1), servers(even(one), even(one)), 2 * one, one}, // more than the bound is
		{hard(16), times(40, even(one)), 40 * one, one},
		{soft(one, 16), times(1000, even(one)), 1000 * one, one}, // more than there are threads
		{soft(one, 1), times(200, early(3)), 400, 2},
		{admit.Rule{Hard: true, Cap: one, Workers: 3}, servers(early(3)), 3, 3}, // a Cap does not count
	} {
		if sum, most, e := admit.Load(c.r, c.l...); sum != c.sum || most != c.most || e != api.OK {
			t.Errorf("Load(%+v, %v) = %d, %d, %v; want %d, %d", c.r, c.l, sum, most, e, c.sum, c.most)
		}
	}
}

// wrongLists have one server that may not be, alone and at each place.
func wrongLists() [][]api.Params {
	var l [][]api.Params
	for _, p := range wrongParams() {
		l = append(l, servers(p), servers(p, even(5)), servers(even(5), p), servers(even(5), p, even(7)), servers(even(one), even(one), p), servers(p, p))
	}
	return l
}

// TestLoadWrong: also Test's, Room's and Copies' error.
func TestLoadWrong(t *testing.T) {
	for _, r := range []admit.Rule{hard(1), hard(2), soft(0, 1), soft(one, 1), soft(one, 16)} {
		for _, l := range wrongLists() {
			wrongAll(t, r, l, api.ErrArg)
		}
	}
	for _, r := range rules() {
		if wrongRule(r) == api.OK {
			continue
		}
		for _, l := range [][]api.Params{nil, servers(even(5)), servers(even(5), even(7)), servers(params(0, 0, 0)), times(40, even(one))} {
			wrongAll(t, r, l, api.ErrArg)
		}
	}
}

// wrongAll: with an error every other answer is its zero value.
func wrongAll(t *testing.T, r admit.Rule, l []api.Params, want api.Errno) {
	t.Helper()
	if sum, most, e := admit.Load(r, l...); sum != 0 || most != 0 || e != want {
		t.Errorf("Load(%+v, %v) = %d, %d, %v; want %v", r, l, sum, most, e, want)
	}
	if e := admit.Test(r, l...); e != want {
		t.Errorf("Test(%+v, %v) = %v; want %v", r, l, e, want)
	}
	if n, e := admit.Room(r, l...); n != 0 || e != want {
		t.Errorf("Room(%+v, %v) = %d, %v; want %v", r, l, n, e, want)
	}
	if n, e := admit.Copies(r, even(1), l...); n != 0 || e != want {
		t.Errorf("Copies(%+v, .., %v) = %d, %v; want %v", r, l, n, e, want)
	}
}

func TestBound(t *testing.T) {
	for _, c := range []struct {
		r          admit.Rule
		most, want int
	}{
		{hard(2), one, one},
		{hard(2), one / 2, 1572864},
		{hard(2), 0, 2 * one},
		{hard(2), 1, 2*one - 1},
		{hard(1), 0, one},
		{hard(1), one, one},
		{hard(maxWorkers), 0, 16 * one},
		{hard(maxWorkers), 1, 16*one - 15},
		{hard(maxWorkers), one - 1, one + 15},
		{hard(maxWorkers), one, one},
		{admit.Rule{Hard: true, Cap: 5, Workers: 2}, 7, 2*one - 7}, // its Cap does not count
		{soft(one, 1), 0, one},
		{soft(one, 1), one, one},
		{soft(one, 2), 5, 2 * one},
		{soft(one, maxWorkers), 0, 16 * one},
		{soft(one, maxWorkers), one, 16 * one},
		{soft(0, maxWorkers), one, 0},
		{soft(1, maxWorkers), 0, 16},
		{soft(5, 3), one, 15},
	} {
		if n, e := admit.Bound(c.r, c.most); n != c.want || e != api.OK {
			t.Errorf("Bound(%+v, %d) = %d, %v; want %d", c.r, c.most, n, e, c.want)
		}
	}
}

// TestBoundWrong: a rule that may not be counts ahead of a most that may not be.
func TestBoundWrong(t *testing.T) {
	for _, c := range []struct {
		r    admit.Rule
		most int
		e    api.Errno
	}{
		{hard(2), -1, api.ErrRange},
		{hard(2), one + 1, api.ErrRange},
		{hard(2), math.MinInt, api.ErrRange},
		{hard(2), math.MaxInt, api.ErrRange},
		{soft(one, 2), -1, api.ErrRange},
		{soft(one, 2), one + 1, api.ErrRange},
		{soft(one, 2), math.MinInt, api.ErrRange},
		{soft(one, 2), math.MaxInt, api.ErrRange},
		{hard(0), 5, api.ErrArg},
		{hard(0), -1, api.ErrArg},
		{hard(maxWorkers + 1), one + 1, api.ErrArg},
		{soft(-1, 1), -1, api.ErrArg},
		{soft(one+1, 1), one + 1, api.ErrArg},
		{soft(one, 0), math.MinInt, api.ErrArg},
		{soft(one, 17), math.MaxInt, api.ErrArg},
	} {
		if n, e := admit.Bound(c.r, c.most); n != 0 || e != c.e {
			t.Errorf("Bound(%+v, %d) = %d, %v; want %v", c.r, c.most, n, e, c.e)
		}
	}
}

func TestRulesAtEdges(t *testing.T) {
	for _, r := range rules() {
		if e := admit.Check(r); e != wrongRule(r) {
			t.Errorf("Check(%+v) = %v", r, e)
		}
		for _, most := range mosts() {
			want, wantE := exactBound(r, most)
			if n, e := admit.Bound(r, most); n != want || e != wantE {
				t.Errorf("Bound(%+v, %d) = %d, %v; want %d, %v", r, most, n, e, want, wantE)
			}
		}
		sameLoad(t, r, nil)
		sameRoom(t, r, nil)
		for _, p := range someServers() {
			sameLoad(t, r, servers(p))
			sameLoad(t, r, servers(p, even(one/2)))
			sameRoom(t, r, servers(p))
			sameCopies(t, r, p, nil)
			sameChange(t, r, 0, p, servers(even(one)))
		}
	}
}

// P9.2

func TestTest(t *testing.T) {
	for _, c := range []struct {
		r admit.Rule
		l []api.Params
		e api.Errno
	}{
		{hard(2), times(2, params(7, 7, 7)), api.ErrAdmit}, // the bound is One then
		{hard(2), times(2, params(1, 2, 2)), api.OK},
		{hard(2), times(2, params(1, 2, 9)), api.OK}, // by D
		{hard(2), times(3, params(1, 2, 9)), api.OK},
		{hard(2), times(4, params(1, 2, 9)), api.ErrAdmit},
		{hard(2), nil, api.OK},
		{hard(2), servers(even(one)), api.OK},
		{hard(2), servers(even(one), even(1)), api.ErrAdmit},
		{hard(2), servers(even(1), even(one)), api.ErrAdmit},
		{hard(2), servers(even(one-1), even(1)), api.OK},
		{hard(2), servers(even(one-1), even(2)), api.OK}, // just the bound
		{hard(2), servers(even(one-1), even(3)), api.ErrAdmit},
		{hard(1), servers(even(one-3), even(3)), api.OK},
		{hard(1), servers(even(one-3), even(4)), api.ErrAdmit},
		{hard(16), times(16, even(one/2)), api.OK}, // 8 workers and a half may be asked for
		{hard(16), times(17, even(one/2)), api.OK},
		{hard(16), beside(times(17, even(one/2)), even(1)), api.ErrAdmit},
		{admit.Rule{Hard: true, Cap: one, Workers: 2}, servers(even(one), even(1)), api.ErrAdmit},
		{admit.Rule{Hard: true, Cap: 0, Workers: 2}, servers(even(one)), api.OK}, // its Cap does not count
		{soft(one, 2), times(2, params(7, 7, 7)), api.OK},
		{soft(one, 2), beside(times(2, params(7, 7, 7)), params(1, maxPeriod, maxPeriod)), api.ErrAdmit},
		{soft(one, 2), times(8, params(1, 1, 4)), api.OK}, // by T
		{soft(one, 2), times(9, params(1, 1, 4)), api.ErrAdmit},
		{soft(0, 16), nil, api.OK},
		{soft(0, 16), servers(even(1)), api.ErrAdmit},
		{soft(1, 16), times(16, even(1)), api.OK},
		{soft(1, 16), times(17, even(1)), api.ErrAdmit},
		{soft(one-1, 1), servers(even(one - 1)), api.OK},
		{soft(one-1, 1), servers(even(one)), api.ErrAdmit},
		{soft(one, 1), times(3, params(1, 3, 3)), api.ErrAdmit}, // each is rounded up
		{soft(one, 16), times(100, params(4, 25, 25)), api.ErrAdmit},
		{soft(one, 16), times(99, params(4, 25, 25)), api.OK}, // as many as one will
	} {
		if e := admit.Test(c.r, c.l...); e != c.e {
			t.Errorf("Test(%+v, %v) = %v; want %v", c.r, c.l, e, c.e)
		}
	}
}

// TestJustTheBound: what all ask for is the bound, and one more, whatever the most is.
func TestJustTheBound(t *testing.T) {
	for w := 1; w <= maxWorkers; w++ {
		for _, most := range []int{one / 4, one / 3, one/2 - 1, one / 2, one - 1, one} {
			for _, r := range []admit.Rule{hard(w), soft(one, w), soft(one/3, w)} {
				limit, _ := exactBound(r, most)
				l := times(limit/most, even(most))
				if left := limit % most; left > 0 {
					l = append(l, even(left))
				}
				if r.Hard && most == one && len(l) != 1 {
					t.Fatalf("%+v: %v", r, l)
				}
				if e := admit.Test(r, l...); e != api.OK {
					t.Errorf("Test(%+v, %v) = %v", r, l, e)
				}
				if e := admit.Test(r, beside(l, even(1))...); e != api.ErrAdmit {
					t.Errorf("Test(%+v, %v and one more) = %v", r, l, e)
				}
				if n, e := admit.Room(r, l...); n != 0 || e != api.OK {
					t.Errorf("Room(%+v, %v) = %d, %v", r, l, n, e)
				}
				if n, e := admit.Copies(r, even(1), l...); n != 0 || e != api.OK {
					t.Errorf("Copies(%+v, .., %v) = %d, %v", r, l, n, e)
				}
			}
		}
	}
}

func TestChange(t *testing.T) {
	half := even(one / 2)
	l := servers(even(6), even(one/2-6), half)
	bad := api.Params{}
	for _, c := range []struct {
		r admit.Rule
		i int
		p api.Params
		l []api.Params
		e api.Errno
	}{
		{soft(one, 1), 0, even(6), l, api.OK},
		{soft(one, 1), 0, even(7), l, api.ErrAdmit}, // the first one
		{soft(one, 1), 0, even(5), l, api.OK},
		{soft(one, 1), 1, even(one/2 - 5), l, api.ErrAdmit},
		{soft(one, 1), 2, even(one / 2), l, api.OK},
		{soft(one, 1), 2, even(one/2 + 1), l, api.ErrAdmit}, // the last one
		{soft(one, 1), 2, even(1), l, api.OK},
		{soft(one, 1), 0, half, servers(half, half), api.OK}, // it takes the place, it is not one more
		{soft(one, 1), 0, even(one), servers(half), api.OK},
		{soft(one, 1), 0, half, servers(even(one), half), api.OK}, // what passes no more may be changed
		{soft(one, 1), 1, even(1), servers(even(one), half), api.ErrAdmit},
		{hard(2), 0, params(1, 2, 9), servers(params(1, 1, 9), half), api.OK},
		{hard(2), 0, params(2, 2, 9), servers(params(1, 2, 9), half), api.ErrAdmit},
		{hard(2), 1, even(1), servers(even(one), half), api.ErrAdmit},
		{soft(one, 1), 0, half, servers(bad, half), api.OK}, // one that may not be is there no more
		{soft(one, 1), 1, half, servers(half, bad), api.OK},
		{soft(one, 1), 1, half, servers(bad, half), api.ErrArg},
		{soft(one, 1), 0, half, servers(half, bad), api.ErrArg},
		{soft(one, 1), 0, bad, l, api.ErrArg},
		{soft(one, 1), 2, bad, l, api.ErrArg},
		{soft(one, 1), 1, bad, servers(even(one), half, even(one)), api.ErrArg}, // ahead of ErrAdmit
		{soft(one, 1), -1, half, l, api.ErrNone},
		{soft(one, 1), 3, half, l, api.ErrNone},
		{soft(one, 1), math.MinInt, half, l, api.ErrNone},
		{soft(one, 1), math.MaxInt, half, l, api.ErrNone},
		{soft(one, 1), 0, half, nil, api.ErrNone},
		{soft(one, 1), -1, half, nil, api.ErrNone},
		{soft(one, 1), 1, half, nil, api.ErrNone},
		{hard(1), 0, half, servers(), api.ErrNone},
		{soft(one, 1), 3, bad, l, api.ErrNone}, // ahead of params that may not be
		{soft(one, 1), -1, even(1), servers(bad), api.ErrNone},
		{soft(one, 1), 2, even(one), times(2, even(one)), api.ErrNone}, // ahead of ErrAdmit
		{soft(0, 0), 0, half, l, api.ErrArg},
		{soft(0, 0), 3, half, l, api.ErrArg}, // ahead of ErrNone
		{soft(-1, 1), -1, half, nil, api.ErrArg},
		{soft(one+1, 1), 0, half, nil, api.ErrArg},
		{hard(maxWorkers + 1), 0, bad, nil, api.ErrArg},
	} {
		if e := admit.Change(c.r, c.i, c.p, c.l...); e != c.e {
			t.Errorf("Change(%+v, %d, %v, %v) = %v; want %v", c.r, c.i, c.p, c.l, e, c.e)
		}
	}
}

// P9.3

func TestRoom(t *testing.T) {
	for _, c := range []struct {
		r    admit.Rule
		l    []api.Params
		want int
	}{
		{hard(2), times(2, params(1, 2, 2)), 524288},
		{hard(2), nil, one}, // all of One
		{hard(1), nil, one},
		{hard(16), nil, one},
		{hard(2), servers(even(one / 2)), 786432},            // more than the most, by the lower bound
		{hard(3), servers(even(1)), one - 1},                 // what is left over is rounded down
		{hard(16), servers(even(1)), one - 1},                // likewise
		{hard(16), servers(even(16)), one - 1},               // just a sixteenth of what is asked for
		{hard(16), servers(even(17)), one - 2},               // and one more
		{hard(2), servers(even(one-1), even(1)), 1},          // no more than the most
		{hard(2), servers(even(one)), 0},                     // nothing is left
		{hard(2), times(3, even(one/2)), 0},                  // nothing is left
		{hard(1), servers(even(one/4), even(one/2)), 262144}, // of one worker all is given away
		{hard(1), servers(even(one - 1)), 1},
		{hard(2), servers(params(1, 2, 9)), 786432},
		{admit.Rule{Hard: true, Cap: one, Workers: 2}, servers(even(one)), 0},
		{soft(one, 1), nil, one},
		{soft(one, 1), servers(even(one / 2)), 524288},
		{soft(one, 1), servers(early(2)), one - 1},
		{soft(one, 1), servers(even(one)), 0},
		{soft(one, 1), servers(even(one - 1)), 1},
		{soft(one, 2), servers(even(one)), one}, // no more than One, all of it
		{soft(one, 2), servers(even(one), even(1)), one - 1},
		{soft(one, 2), servers(even(one - 1)), one},
		{soft(one, 16), servers(even(one)), one},
		{soft(one/2, 2), nil, one},
		{soft(one/2, 2), servers(even(5)), one - 5},
		{soft(one/2-1, 2), nil, one - 2},
		{soft(5, 3), nil, 15},
		{soft(5, 3), servers(even(15)), 0},
		{soft(0, 16), nil, 0},
		{soft(0, 1), nil, 0},
	} {
		if n, e := admit.Room(c.r, c.l...); n != c.want || e != api.OK {
			t.Errorf("Room(%+v, %v) = %d, %v; want %d", c.r, c.l, n, e, c.want)
		}
	}
}

// TestTooMuch: where servers may not be taken together there is no room.
func TestTooMuch(t *testing.T) {
	for _, c := range []struct {
		r admit.Rule
		l []api.Params
	}{
		{hard(2), servers(even(one), even(1))},
		{hard(1), servers(even(one-1), even(2))},
		{hard(2), times(2, even(one))},
		{soft(one, 1), servers(even(one), even(1))},
		{soft(one, 16), times(17, even(one))},
		{soft(0, 1), servers(even(1))},
	} {
		if e := admit.Test(c.r, c.l...); e != api.ErrAdmit {
			t.Errorf("Test(%+v, %v) = %v", c.r, c.l, e)
		}
		if n, e := admit.Room(c.r, c.l...); n != 0 || e != api.ErrAdmit {
			t.Errorf("Room(%+v, %v) = %d, %v", c.r, c.l, n, e)
		}
		for _, p := range append(wrongParams(), even(1)) { // ahead of params that may not be
			if n, e := admit.Copies(c.r, p, c.l...); n != 0 || e != api.ErrAdmit {
				t.Errorf("Copies(%+v, %v, %v) = %d, %v", c.r, p, c.l, n, e)
			}
		}
	}
}

func TestCopies(t *testing.T) {
	tenth := params(1, 10, 10)
	for _, c := range []struct {
		r    admit.Rule
		p    api.Params
		l    []api.Params
		want int
	}{
		{soft(one, 1), tenth, nil, 9}, // each is rounded up
		{soft(one, 1), even(one / 8), nil, 8},
		{soft(one, 1), even(one / 8), servers(even(1)), 7},
		{soft(one, 1), even(one), nil, 1},
		{soft(one, 1), even(one), servers(even(1)), 0},
		{soft(one, 1), even(one / 2), servers(even(one/2 + 1)), 0},
		{soft(one, 1), even(one / 2), servers(even(one / 2)), 1},
		{soft(one, 1), even(1), servers(even(one)), 0},
		{soft(one, 1), early(one), nil, 2},
		{soft(0, 16), even(1), nil, 0},
		{soft(1, 15), even(1), nil, 15},
		{soft(4, 16), even(1), nil, 64}, // just 64
		{soft(63, 1), even(1), nil, 63},
		{soft(64, 1), even(1), nil, 64},
		{soft(65, 1), even(1), nil, 64}, // no more, though one would pass
		{soft(one, 16), even(1), nil, 64},
		{soft(one, 16), tenth, nil, 64},
		{soft(one, 16), even(1), times(200, even(1)), 64}, // however many are there
		{soft(one, 16), even(one / 4), nil, 64},
		{soft(one, 16), even(one / 4), servers(even(1)), 63},
		{soft(one, 16), even(one), nil, 16},
		{hard(1), tenth, nil, 9},
		{hard(1), even(one / 64), nil, 64},
		{hard(1), even(one/64 + 1), nil, 63},
		{hard(2), even(one), nil, 1},
		{hard(2), even(one), servers(even(1)), 0}, // a greater most lowers the bound
		{hard(16), even(one), servers(even(1)), 0},
		{hard(2), even(one / 2), nil, 3},
		{hard(2), even(one / 2), servers(even(one / 2)), 2},
		{hard(2), even(one / 4), servers(even(one / 2)), 4}, // the most is another one's
		{hard(2), params(1, 2, 9), nil, 3},
		{hard(2), early(one / 2), servers(even(1)), 2},
		{hard(16), even(one / 2), nil, 17},
		{hard(16), even(1), nil, 64},
		{hard(16), even(1), servers(even(one)), 0},
		{hard(16), even(1), servers(even(one - 1)), 16},
		{hard(16), even(5), servers(even(one - 4)), 12}, // 64 are left
		{hard(16), even(4), servers(even(one - 4)), 16},
	} {
		if n, e := admit.Copies(c.r, c.p, c.l...); n != c.want || e != api.OK {
			t.Errorf("Copies(%+v, %v, %v) = %d, %v; want %d", c.r, c.p, c.l, n, e, c.want)
		}
	}
}

func TestCopiesWrong(t *testing.T) {
	for _, p := range wrongParams() {
		for _, r := range []admit.Rule{hard(1), hard(16), soft(0, 1), soft(one, 16)} {
			for _, l := range [][]api.Params{nil, servers(p), servers(even(5), p)} {
				if n, e := admit.Copies(r, p, l...); n != 0 || e != api.ErrArg {
					t.Errorf("Copies(%+v, %v, %v) = %d, %v", r, p, l, n, e)
				}
			}
		}
	}
	if n, e := admit.Copies(soft(one, 2), api.Params{}, even(one), even(one)); n != 0 || e != api.ErrArg {
		t.Errorf("Copies where all is taken = %d, %v", n, e)
	}
}

// All of them, over rows of servers.

func TestAnyServers(t *testing.T) {
	roll := dice(9)
	for _, r := range mayBeRules() {
		for range 60 {
			l := anyServers(roll, roll(2+roll(30)))
			p := anyServer(roll)
			sameLoad(t, r, l)
			sameRoom(t, r, l)
			sameCopies(t, r, p, l)
			sameChange(t, r, roll(len(l)+2)-1, p, l)
		}
	}
}

// filled are servers that may be taken together, and among which is not much room.
func filled(r admit.Rule, roll func(int) int) []api.Params {
	var l []api.Params
	for range 40 {
		p := anyServer(roll)
		if roll(3) > 0 {
			p.Q = 1 + p.Q/(1+roll(40))
		}
		if more := beside(l, p); exactTest(r, more) == api.OK {
			l = more
		}
	}
	return l
}

func TestFilled(t *testing.T) {
	roll := dice(99)
	for _, r := range mayBeRules() {
		for range 20 {
			l := filled(r, roll)
			p := anyServer(roll)
			sameLoad(t, r, l)
			sameRoom(t, r, l)
			sameCopies(t, r, p, l)
			sameCopies(t, r, params(1, 1+roll(5000), 1+5000+roll(9000)), l)
			for i := -1; i <= len(l); i++ {
				sameChange(t, r, i, p, l)
			}
		}
	}
}

// TestRoomPasses: one more server that asks for Room passes, and one that asks for one more does not.
func TestRoomPasses(t *testing.T) {
	roll := dice(999)
	for _, r := range mayBeRules() {
		for i := range 20 {
			var l []api.Params
			if i > 0 {
				l = filled(r, roll)
			}
			n, e := admit.Room(r, l...)
			if e != api.OK || !in(n, 0, one) {
				t.Fatalf("Room(%+v, %v) = %d, %v", r, l, n, e)
			}
			if e := admit.Test(r, beside(l, even(max(n, 1)))...); (e == api.OK) != (n > 0) {
				t.Errorf("%+v, %v: one more that asks for Room, %d: %v", r, l, n, e)
			}
			if e := admit.Test(r, beside(l, even(min(n+1, one)))...); (e == api.OK) != (n == one) {
				t.Errorf("%+v, %v: one more that asks for more than Room, %d: %v", r, l, n, e)
			}
		}
	}
}

// P9.4

// passing are rules, and servers that pass them.
func passing(seed uint64, f func(r admit.Rule, l []api.Params)) {
	roll := dice(seed)
	for _, r := range mayBeRules() {
		for range 12 {
			f(r, filled(r, roll))
		}
	}
}

func TestOrderDoesNotCount(t *testing.T) {
	roll := dice(7)
	same := func(r admit.Rule, l []api.Params) {
		p := anyServer(roll)
		sum, most, e := admit.Load(r, l...)
		f := admit.Test(r, l...)
		room, _ := admit.Room(r, l...)
		copies, _ := admit.Copies(r, p, l...)
		for range 4 {
			m := slices.Clone(l)
			for i := range m {
				j := roll(i + 1)
				m[i], m[j] = m[j], m[i]
			}
			if sum2, most2, e2 := admit.Load(r, m...); sum2 != sum || most2 != most || e2 != e {
				t.Errorf("Load(%+v, %v) = %d, %d, %v; in another order %d, %d, %v", r, m, sum2, most2, e2, sum, most, e)
			}
			if f2 := admit.Test(r, m...); f2 != f {
				t.Errorf("Test(%+v, %v) = %v; in another order %v", r, m, f2, f)
			}
			if room2, _ := admit.Room(r, m...); room2 != room {
				t.Errorf("Room(%+v, %v) = %d; in another order %d", r, m, room2, room)
			}
			if copies2, _ := admit.Copies(r, p, m...); copies2 != copies {
				t.Errorf("Copies(%+v, %v, %v) = %d; in another order %d", r, p, m, copies2, copies)
			}
		}
	}
	passing(1, same)
	passing(2, func(r admit.Rule, l []api.Params) { same(r, beside(l, anyServer(roll), anyServer(roll))) })
}

func TestFewerPass(t *testing.T) {
	passing(3, func(r admit.Rule, l []api.Params) {
		for i := range l {
			if e := admit.Test(r, without(l, i)...); e != api.OK {
				t.Errorf("Test(%+v, %v without the one at %d) = %v", r, l, i, e)
			}
		}
	})
}

func TestMoreWorkersPass(t *testing.T) {
	passing(4, func(r admit.Rule, l []api.Params) {
		for r.Workers < maxWorkers {
			r.Workers++
			if e := admit.Test(r, l...); e != api.OK {
				t.Errorf("Test(%+v, %v) = %v", r, l, e)
			}
		}
	})
}

func TestLessBudgetPasses(t *testing.T) {
	passing(5, func(r admit.Rule, l []api.Params) {
		for i, p := range l {
			for _, q := range []int{1, p.Q / 2, p.Q - 1} {
				if q < 1 {
					continue
				}
				if e := admit.Change(r, i, params(q, p.D, p.T), l...); e != api.OK {
					t.Errorf("Change(%+v, %d, %v with Q %d, %v) = %v", r, i, p, q, l, e)
				}
			}
		}
	})
}

func TestOnePassesHardRules(t *testing.T) {
	roll := dice(6)
	l := beside(someServers(), anyServers(roll, 100)...)
	for w := 1; w <= maxWorkers; w++ {
		for _, most := range []int{0, 1, one - 1, one} {
			r := admit.Rule{Hard: true, Cap: most, Workers: w}
			for _, p := range l {
				if e := admit.Test(r, p); e != api.OK {
					t.Errorf("Test(%+v, %v) = %v", r, p, e)
				}
				if n, e := admit.Copies(r, p); n < 1 || e != api.OK {
					t.Errorf("Copies(%+v, %v) = %d, %v", r, p, n, e)
				}
			}
		}
	}
}

func TestHardPassesSoft(t *testing.T) {
	passing(8, func(r admit.Rule, l []api.Params) {
		if !r.Hard {
			return
		}
		if e := admit.Test(soft(one, r.Workers), l...); e != api.OK {
			t.Errorf("Test(%+v, %v) = %v, though it passes %+v", soft(one, r.Workers), l, e, r)
		}
	})
}

func TestPassesByRoom(t *testing.T) {
	roll := dice(8)
	passing(9, func(r admit.Rule, l []api.Params) {
		room, _ := admit.Room(r, l...)
		near := min(max(room, 1), one)
		for _, p := range []api.Params{anyServer(roll), even(near), even(min(near+1, one)), early(near), params(1, 1+roll(90), 99)} {
			asks, _, _ := admit.Load(r, p)
			e := admit.Test(r, beside(l, p)...)
			if (e == api.OK) != (asks <= room) {
				t.Errorf("%+v, %v: one more, %v, asks for %d, and Room is %d: %v", r, l, p, asks, room, e)
			}
			if n, _ := admit.Copies(r, p, l...); (n > 0) != (asks <= room) {
				t.Errorf("Copies(%+v, %v, %v) = %d, and Room is %d", r, p, l, n, room)
			}
		}
	})
}

// R2 and R3

// TestLeavesServers: what is handed in is not written into, nor what stands behind its length.
func TestLeavesServers(t *testing.T) {
	all := servers(even(3), early(7), even(9), params(1, 2, 3), even(one))
	was := slices.Clone(all)
	for n := range len(all) + 1 {
		for _, r := range []admit.Rule{hard(2), soft(one, 2), soft(0, 1), soft(0, 0)} {
			l := all[:n]
			admit.Load(r, l...)
			admit.Test(r, l...)
			admit.Room(r, l...)
			admit.Copies(r, even(5), l...)
			for i := -1; i <= n; i++ {
				admit.Change(r, i, even(5), l...)
			}
			if !slices.Equal(all, was) {
				t.Fatalf("with %d servers, %+v: %v; they were %v", n, r, all, was)
			}
		}
	}
}

func TestSameAgain(t *testing.T) {
	l := servers(even(3), early(7), even(9), params(1, 2, 3))
	for range 3 {
		for _, r := range []admit.Rule{hard(2), soft(one, 1), soft(0, 0), hard(1), soft(1, 1)} {
			sameLoad(t, r, l)
			sameRoom(t, r, l)
			sameCopies(t, r, even(5), l)
			sameChange(t, r, 2, even(one), l)
		}
	}
}
