package cbs_test

import (
	"math"
	"math/big"
	"sort"
	"testing"

	"metronome/api"
	"metronome/cbs"
)

// The document's numbers, not the packages'.
const (
	horizon   = 1099511627776
	maxPeriod = 1073741824
	last      = horizon - 1
)

// Params that the tables lean on: a deadline ahead of the period's end, and one that is it.
var (
	early = api.Params{Q: 10, D: 50, T: 100}
	whole = api.Params{Q: 10, D: 100, T: 100}
	long  = api.Params{Q: maxPeriod, D: maxPeriod, T: maxPeriod}
	thin  = api.Params{Q: 1, D: 1, T: maxPeriod}
)

func nums(left, end, next int) cbs.Numbers { return cbs.Numbers{Left: left, End: end, Next: next} }

// dice is a row of numbers that is the same in every run.
func dice() func(n int) int {
	state := uint64(88172645463325252)
	return func(n int) int {
		state ^= state << 13
		state ^= state >> 7
		state ^= state << 17
		return int(state>>1) % n
	}
}

// The model: what the document says, by numbers without an end.

func wrongTime(t int) api.Errno {
	switch {
	case t < 0:
		return api.ErrRange
	case t >= horizon:
		return api.ErrHorizon
	}
	return api.OK
}

func wrongParams(p api.Params) api.Errno {
	if 1 <= p.Q && p.Q <= p.D && p.D <= p.T && p.T <= maxPeriod {
		return api.OK
	}
	return api.ErrArg
}

func wrongNumbers(n cbs.Numbers) api.Errno {
	if n.Left < -maxPeriod || n.Left > maxPeriod {
		return api.ErrRange
	}
	return firstOf(wrongTime(n.End), wrongTime(n.Next))
}

// firstOf is the first error of those that apply.
func firstOf(l ...api.Errno) api.Errno {
	for _, e := range l {
		if e != api.OK {
			return e
		}
	}
	return api.OK
}

func product(a, b int) *big.Int { return new(big.Int).Mul(big.NewInt(int64(a)), big.NewInt(int64(b))) }

func quotient(a, b, c int) int {
	return int(new(big.Int).Quo(product(a, b), big.NewInt(int64(c))).Int64())
}

func modelFresh(now int, p api.Params) (cbs.Numbers, api.Errno) {
	if e := firstOf(wrongParams(p), wrongTime(now)); e != api.OK {
		return cbs.Numbers{}, e
	}
	if e := firstOf(wrongTime(now+p.D), wrongTime(now+p.T)); e != api.OK {
		return cbs.Numbers{}, e
	}
	return nums(p.Q, now+p.D, now+p.T), api.OK
}

func modelFits(now int, p api.Params, n cbs.Numbers) (bool, api.Errno) {
	if e := firstOf(wrongParams(p), wrongTime(now), wrongNumbers(n)); e != api.OK {
		return false, e
	}
	return n.End > now && product(n.Left, p.D).Cmp(product(n.End-now, p.Q)) <= 0, api.OK
}

func modelWake(now int, p api.Params, n cbs.Numbers, rule int) (cbs.Numbers, api.Errno) {
	fits, e := modelFits(now, p, n)
	if e != api.OK {
		return cbs.Numbers{}, e
	}
	if rule != 1 && rule != 2 {
		return cbs.Numbers{}, api.ErrArg
	}
	if fits {
		return n, api.OK
	}
	if rule == 1 || n.End <= now || p.D == p.T {
		return modelFresh(now, p)
	}
	return nums(quotient(p.Q, n.End-now, p.D), n.End, n.Next), api.OK
}

func modelCharge(n cbs.Numbers, spent int) (cbs.Numbers, api.Errno) {
	if e := wrongNumbers(n); e != api.OK {
		return cbs.Numbers{}, e
	}
	left := new(big.Int).Sub(big.NewInt(int64(n.Left)), big.NewInt(int64(spent)))
	if spent < 0 || left.Cmp(big.NewInt(-maxPeriod)) < 0 {
		return cbs.Numbers{}, api.ErrRange
	}
	return nums(int(left.Int64()), n.End, n.Next), api.OK
}

func modelRefill(now int, p api.Params, n cbs.Numbers) (cbs.Numbers, api.Errno) {
	if e := firstOf(wrongParams(p), wrongTime(now), wrongNumbers(n)); e != api.OK {
		return cbs.Numbers{}, e
	}
	if n.Left > 0 {
		return n, api.OK
	}
	k := sort.Search(2*maxPeriod, func(k int) bool { return n.Left+k*p.Q > 0 })
	next := n.Next + k*p.T
	end := next - p.T + p.D
	if end <= now {
		return modelFresh(now, p)
	}
	if e := firstOf(wrongTime(end), wrongTime(next)); e != api.OK {
		return cbs.Numbers{}, e
	}
	return nums(n.Left+k*p.Q, end, next), api.OK
}

func modelLag(p api.Params, n cbs.Numbers) (int, api.Errno) {
	if e := firstOf(wrongParams(p), wrongNumbers(n)); e != api.OK {
		return 0, e
	}
	if n.Left < 1 {
		return n.End, api.OK
	}
	return max(0, n.End-quotient(n.Left, p.T, p.Q)), api.OK
}

// Numbers near which answers turn.

func someParams() []api.Params {
	return []api.Params{
		early, whole, long, thin,
		{Q: 1, D: 1, T: 1}, {Q: 3, D: 7, T: 7}, {Q: 3, D: 7, T: 11}, {Q: 7, D: 7, T: 11}, {Q: 10, D: 99, T: 100},
		{Q: 1, D: maxPeriod, T: maxPeriod}, {Q: 1, D: maxPeriod - 1, T: maxPeriod}, {Q: maxPeriod - 1, D: maxPeriod - 1, T: maxPeriod},
		{}, {Q: 0, D: 50, T: 100}, {Q: 51, D: 50, T: 100}, {Q: 10, D: 101, T: 100}, {Q: 10, D: 50, T: maxPeriod + 1},
		{Q: math.MinInt, D: math.MinInt, T: math.MinInt}, {Q: math.MaxInt, D: math.MaxInt, T: math.MaxInt},
	}
}

func someTimes() []int {
	return []int{
		math.MinInt, -1, 0, 1, 7, 49, 50, 51, 99, 100, 101, maxPeriod - 1, maxPeriod, maxPeriod + 1,
		horizon - maxPeriod - 1, horizon - maxPeriod, horizon - 101, horizon - 100, horizon - 51, horizon - 50, horizon - 2, last, horizon, math.MaxInt,
	}
}

func someLefts() []int {
	return []int{
		math.MinInt, -maxPeriod - 1, -maxPeriod, -maxPeriod + 1, -101, -100, -20, -11, -10, -9, -3, -1,
		0, 1, 2, 3, 7, 9, 10, 11, 100, maxPeriod - 1, maxPeriod, maxPeriod + 1, math.MaxInt,
	}
}

// someNumbers have each Left and each End once and more, with a Next of their own.
func someNumbers() []cbs.Numbers {
	var l []cbs.Numbers
	nexts := someTimes()
	for i, left := range someLefts() {
		for j, end := range someTimes() {
			l = append(l, nums(left, end, nexts[(i+3*j)%len(nexts)]), nums(left, end, 100))
		}
	}
	return l
}

// The model of all calls, at all edges together: which answer, and which error of several.

func TestModelCheckCharge(t *testing.T) {
	for _, left := range someLefts() {
		for _, end := range someTimes() {
			for _, next := range someTimes() {
				n := nums(left, end, next)
				if e, want := cbs.Check(n), wrongNumbers(n); e != want {
					t.Fatalf("Check(%v) = %v; want %v", n, e, want)
				}
				for _, spent := range append(someLefts(), 2*maxPeriod-1, 2*maxPeriod, 2*maxPeriod+1, maxPeriod+10, maxPeriod+11) {
					got, e := cbs.Charge(n, spent)
					want, f := modelCharge(n, spent)
					if got != want || e != f {
						t.Fatalf("Charge(%v, %d) = %v, %v; want %v, %v", n, spent, got, e, want, f)
					}
				}
			}
		}
	}
}

func TestModelFresh(t *testing.T) {
	for _, p := range someParams() {
		for _, now := range append(someTimes(), horizon-p.T-1, horizon-p.T, horizon-p.D-1, horizon-p.D) {
			got, e := cbs.Fresh(now, p)
			want, f := modelFresh(now, p)
			if got != want || e != f {
				t.Fatalf("Fresh(%d, %v) = %v, %v; want %v, %v", now, p, got, e, want, f)
			}
		}
	}
}

// same checks all calls that have params and numbers against the model.
func same(t *testing.T, now int, p api.Params, n cbs.Numbers) {
	t.Helper()
	is, e := cbs.Fits(now, p, n)
	if want, f := modelFits(now, p, n); is != want || e != f {
		t.Fatalf("Fits(%d, %v, %v) = %v, %v; want %v, %v", now, p, n, is, e, want, f)
	}
	for rule := -1; rule <= 4; rule++ {
		got, e := cbs.Wake(now, p, n, rule)
		if want, f := modelWake(now, p, n, rule); got != want || e != f {
			t.Fatalf("Wake(%d, %v, %v, %d) = %v, %v; want %v, %v", now, p, n, rule, got, e, want, f)
		}
	}
	got, e := cbs.Refill(now, p, n)
	if want, f := modelRefill(now, p, n); got != want || e != f {
		t.Fatalf("Refill(%d, %v, %v) = %v, %v; want %v, %v", now, p, n, got, e, want, f)
	}
	at, e := cbs.Lag(p, n)
	if want, f := modelLag(p, n); at != want || e != f {
		t.Fatalf("Lag(%v, %v) = %d, %v; want %d, %v", p, n, at, e, want, f)
	}
}

func TestModelEdges(t *testing.T) {
	for _, p := range someParams() {
		for _, n := range someNumbers() {
			for _, now := range []int{-1, 0, 50, 99, maxPeriod, horizon - 101, last, horizon} {
				same(t, now, p, n)
			}
			same(t, n.End-1, p, n)
			same(t, n.End, p, n)
		}
	}
}

// TestModelSmall: all small params, times and numbers, none left out.
func TestModelSmall(t *testing.T) {
	for period := 1; period <= 5; period++ {
		for d := 1; d <= period; d++ {
			for q := 1; q <= d; q++ {
				p := api.Params{Q: q, D: d, T: period}
				for left := -7; left <= 7; left++ {
					for end := 0; end <= 9; end++ {
						for now := 0; now <= 9; now++ {
							same(t, now, p, nums(left, end, (end+left+7)%8))
						}
					}
				}
			}
		}
	}
}

// TestModelRows: numbers as they come in long rows of calls.
func TestModelRows(t *testing.T) {
	roll := dice()
	for range 300 {
		period := 1 + roll(1<<(1+roll(30)))
		d := 1 + roll(period)
		p := api.Params{Q: 1 + roll(d), D: d, T: period}
		now := roll(horizon / 2)
		n, e := cbs.Fresh(now, p)
		for e == api.OK && now < horizon {
			same(t, now, p, n)
			was := n
			switch roll(3) {
			case 0:
				n, e = cbs.Charge(n, roll(2*p.Q))
			case 1:
				n, e = cbs.Wake(now, p, n, 1+roll(2))
			default:
				n, e = cbs.Refill(now, p, n)
			}
			if e != api.OK && n != (cbs.Numbers{}) {
				t.Fatalf("%v answers %v beside %v", was, n, e)
			}
			now += roll(p.T)
			if roll(100) == 0 {
				break
			}
		}
	}
}

// P6.1

func TestRules(t *testing.T) {
	if cbs.Original != 1 || cbs.Revised != 2 {
		t.Errorf("Original %d, Revised %d", cbs.Original, cbs.Revised)
	}
}

func TestCheck(t *testing.T) {
	for _, c := range []struct {
		n cbs.Numbers
		e api.Errno
	}{
		{nums(0, 0, 0), api.OK}, {nums(5, 57, 107), api.OK}, {nums(-5, 107, 57), api.OK},
		{nums(maxPeriod, last, last), api.OK}, {nums(-maxPeriod, 0, last), api.OK},
		{nums(maxPeriod+1, 0, 0), api.ErrRange}, {nums(-maxPeriod-1, 0, 0), api.ErrRange},
		{nums(math.MaxInt, 0, 0), api.ErrRange}, {nums(math.MinInt, 0, 0), api.ErrRange},
		{nums(0, -1, 0), api.ErrRange}, {nums(0, horizon, 0), api.ErrHorizon},
		{nums(0, 0, -1), api.ErrRange}, {nums(0, 0, horizon), api.ErrHorizon},
		{nums(0, math.MinInt, 0), api.ErrRange}, {nums(0, math.MaxInt, 0), api.ErrHorizon},
		{nums(maxPeriod+1, horizon, horizon), api.ErrRange}, {nums(-maxPeriod-1, horizon, 0), api.ErrRange},
		{nums(0, horizon, -1), api.ErrHorizon}, {nums(0, -1, horizon), api.ErrRange},
	} {
		if e := cbs.Check(c.n); e != c.e {
			t.Errorf("Check(%v) = %v; want %v", c.n, e, c.e)
		}
	}
}

func TestFresh(t *testing.T) {
	for _, c := range []struct {
		now  int
		p    api.Params
		want cbs.Numbers
		e    api.Errno
	}{
		{7, early, nums(10, 57, 107), api.OK},
		{0, early, nums(10, 50, 100), api.OK},
		{7, whole, nums(10, 107, 107), api.OK},
		{0, long, nums(maxPeriod, maxPeriod, maxPeriod), api.OK},
		{3, thin, nums(1, 4, maxPeriod+3), api.OK},
		{horizon - 101, early, nums(10, horizon-51, last), api.OK},
		{horizon - 100, early, nums(0, 0, 0), api.ErrHorizon},
		{horizon - 51, early, nums(0, 0, 0), api.ErrHorizon},
		{horizon - 50, early, nums(0, 0, 0), api.ErrHorizon},
		{last, early, nums(0, 0, 0), api.ErrHorizon},
		{horizon, early, nums(0, 0, 0), api.ErrHorizon},
		{-1, early, nums(0, 0, 0), api.ErrRange},
		{math.MinInt, early, nums(0, 0, 0), api.ErrRange},
		{math.MaxInt, early, nums(0, 0, 0), api.ErrHorizon},
		{7, api.Params{}, nums(0, 0, 0), api.ErrArg},
		{-1, api.Params{}, nums(0, 0, 0), api.ErrArg},
		{horizon, api.Params{Q: 10, D: 9, T: 100}, nums(0, 0, 0), api.ErrArg},
	} {
		if n, e := cbs.Fresh(c.now, c.p); n != c.want || e != c.e {
			t.Errorf("Fresh(%d, %v) = %v, %v; want %v, %v", c.now, c.p, n, e, c.want, c.e)
		}
	}
}

// P6.2

func TestFits(t *testing.T) {
	for _, c := range []struct {
		now  int
		p    api.Params
		n    cbs.Numbers
		want bool
		e    api.Errno
	}{
		{10, early, nums(8, 50, 100), true, api.OK},
		{10, early, nums(9, 50, 100), false, api.OK},
		{11, early, nums(8, 50, 100), false, api.OK},
		{0, early, nums(10, 50, 100), true, api.OK},
		{0, early, nums(11, 50, 100), false, api.OK},
		{49, early, nums(0, 50, 100), true, api.OK},
		{49, early, nums(1, 50, 100), false, api.OK},
		{45, early, nums(1, 50, 100), true, api.OK},
		{50, early, nums(0, 50, 100), false, api.OK},
		{50, early, nums(-5, 50, 100), false, api.OK},
		{51, early, nums(-5, 50, 100), false, api.OK},
		{49, early, nums(-5, 50, 100), true, api.OK},
		{49, early, nums(-maxPeriod, 50, 0), true, api.OK},
		{50, early, nums(-maxPeriod, 50, 0), false, api.OK},
		{20, whole, nums(8, 100, 100), true, api.OK},
		{21, whole, nums(8, 100, 100), false, api.OK},
		{0, thin, nums(maxPeriod, maxPeriod, 0), true, api.OK},
		{1, thin, nums(maxPeriod, maxPeriod, 0), false, api.OK},
		{0, long, nums(maxPeriod, last, 0), true, api.OK},
		{last - maxPeriod, long, nums(maxPeriod, last, 0), true, api.OK},
		{last - maxPeriod + 1, long, nums(maxPeriod, last, 0), false, api.OK},
		{last, long, nums(0, last, 0), false, api.OK},
		{10, api.Params{}, nums(8, 50, 100), false, api.ErrArg},
		{-1, api.Params{Q: 1}, nums(maxPeriod+1, 50, 100), false, api.ErrArg},
		{-1, early, nums(8, horizon, 100), false, api.ErrRange},
		{horizon, early, nums(maxPeriod+1, 50, 100), false, api.ErrHorizon},
		{10, early, nums(maxPeriod+1, horizon, 100), false, api.ErrRange},
		{10, early, nums(8, horizon, -1), false, api.ErrHorizon},
		{10, early, nums(8, 50, -1), false, api.ErrRange},
		{60, early, nums(8, 50, horizon), false, api.ErrHorizon},
	} {
		if is, e := cbs.Fits(c.now, c.p, c.n); is != c.want || e != c.e {
			t.Errorf("Fits(%d, %v, %v) = %v, %v; want %v, %v", c.now, c.p, c.n, is, e, c.want, c.e)
		}
	}
}

func TestWake(t *testing.T) {
	for _, c := range []struct {
		now  int
		p    api.Params
		n    cbs.Numbers
		rule int
		want cbs.Numbers
		e    api.Errno
	}{
		// What fits stays, by either rule.
		{10, early, nums(8, 50, 100), cbs.Original, nums(8, 50, 100), api.OK},
		{10, early, nums(8, 50, 100), cbs.Revised, nums(8, 50, 100), api.OK},
		{20, whole, nums(8, 100, 100), cbs.Original, nums(8, 100, 100), api.OK},
		{20, whole, nums(8, 100, 100), cbs.Revised, nums(8, 100, 100), api.OK},
		{10, early, nums(0, 50, 100), cbs.Revised, nums(0, 50, 100), api.OK},
		{49, early, nums(-3, 50, 100), cbs.Original, nums(-3, 50, 100), api.OK},
		{49, early, nums(-3, 50, 100), cbs.Revised, nums(-3, 50, 100), api.OK},
		{10, early, nums(-maxPeriod, 50, 3), cbs.Revised, nums(-maxPeriod, 50, 3), api.OK},
		{0, early, nums(maxPeriod, last, 3), cbs.Revised, nums(maxPeriod, last, 3), api.OK},
		// What does not: Fresh by the one, less by the other.
		{11, early, nums(8, 50, 100), cbs.Original, nums(10, 61, 111), api.OK},
		{11, early, nums(8, 50, 100), cbs.Revised, nums(7, 50, 100), api.OK},
		{15, early, nums(8, 50, 100), cbs.Revised, nums(7, 50, 100), api.OK},
		{16, early, nums(8, 50, 100), cbs.Revised, nums(6, 50, 100), api.OK},
		{10, early, nums(9, 50, 3), cbs.Revised, nums(8, 50, 3), api.OK},
		{46, early, nums(8, 50, 100), cbs.Revised, nums(0, 50, 100), api.OK},
		{49, early, nums(maxPeriod, 50, 100), cbs.Revised, nums(0, 50, 100), api.OK},
		{49, early, nums(1, 50, 100), cbs.Original, nums(10, 99, 149), api.OK},
		// The deadline is here, or was.
		{50, early, nums(8, 50, 100), cbs.Original, nums(10, 100, 150), api.OK},
		{50, early, nums(8, 50, 100), cbs.Revised, nums(10, 100, 150), api.OK},
		{50, early, nums(-8, 50, 100), cbs.Revised, nums(10, 100, 150), api.OK},
		{50, early, nums(0, 50, 100), cbs.Original, nums(10, 100, 150), api.OK},
		{7000, early, nums(8, 50, 100), cbs.Revised, nums(10, 7050, 7100), api.OK},
		// The deadline is the period's end.
		{21, whole, nums(8, 100, 100), cbs.Original, nums(10, 121, 121), api.OK},
		{21, whole, nums(8, 100, 100), cbs.Revised, nums(10, 121, 121), api.OK},
		{100, whole, nums(8, 100, 100), cbs.Revised, nums(10, 200, 200), api.OK},
		// The end of time.
		{last, early, nums(8, last, 0), cbs.Original, nums(0, 0, 0), api.ErrHorizon},
		{last, early, nums(8, last, 0), cbs.Revised, nums(0, 0, 0), api.ErrHorizon},
		{horizon - 100, early, nums(8, horizon-99, 0), cbs.Original, nums(0, 0, 0), api.ErrHorizon},
		{horizon - 101, early, nums(8, horizon-99, 0), cbs.Original, nums(10, horizon-51, last), api.OK},
		{horizon - 2, early, nums(8, last, 0), cbs.Revised, nums(0, last, 0), api.OK},
		{horizon - 2, whole, nums(8, last, 0), cbs.Revised, nums(0, 0, 0), api.ErrHorizon},
		{horizon - 2, early, nums(0, last, last), cbs.Original, nums(0, last, last), api.OK},
		// Wrong ones, and which of several.
		{10, early, nums(8, 50, 100), 0, nums(0, 0, 0), api.ErrArg},
		{10, early, nums(8, 50, 100), 3, nums(0, 0, 0), api.ErrArg},
		{10, early, nums(8, 50, 100), -1, nums(0, 0, 0), api.ErrArg},
		{10, early, nums(8, 50, 100), math.MaxInt, nums(0, 0, 0), api.ErrArg},
		{60, early, nums(8, 50, 100), math.MinInt, nums(0, 0, 0), api.ErrArg},
		{last, early, nums(8, 50, 100), 0, nums(0, 0, 0), api.ErrArg},
		{10, early, nums(maxPeriod+1, 50, 100), 0, nums(0, 0, 0), api.ErrRange},
		{10, early, nums(1, 50, horizon), 0, nums(0, 0, 0), api.ErrHorizon},
		{horizon, early, nums(1, -1, 100), 0, nums(0, 0, 0), api.ErrHorizon},
		{-1, early, nums(1, horizon, 100), 1, nums(0, 0, 0), api.ErrRange},
		{-1, api.Params{}, nums(1, horizon, 100), 1, nums(0, 0, 0), api.ErrArg},
		{10, early, nums(1, -1, 100), 1, nums(0, 0, 0), api.ErrRange},
		{10, early, nums(-maxPeriod-1, 50, 100), 2, nums(0, 0, 0), api.ErrRange},
	} {
		if n, e := cbs.Wake(c.now, c.p, c.n, c.rule); n != c.want || e != c.e {
			t.Errorf("Wake(%d, %v, %v, %d) = %v, %v; want %v, %v", c.now, c.p, c.n, c.rule, n, e, c.want, c.e)
		}
	}
}

// P6.3

func TestCharge(t *testing.T) {
	for _, c := range []struct {
		n     cbs.Numbers
		spent int
		want  cbs.Numbers
		e     api.Errno
	}{
		{nums(5, 57, 107), 0, nums(5, 57, 107), api.OK},
		{nums(5, 57, 107), 3, nums(2, 57, 107), api.OK},
		{nums(5, 57, 107), 5, nums(0, 57, 107), api.OK},
		{nums(5, 57, 107), 8, nums(-3, 57, 107), api.OK},
		{nums(-3, 57, 107), 8, nums(-11, 57, 107), api.OK},
		{nums(5, 57, 107), maxPeriod + 5, nums(-maxPeriod, 57, 107), api.OK},
		{nums(5, 57, 107), maxPeriod + 6, nums(0, 0, 0), api.ErrRange},
		{nums(0, 0, 0), maxPeriod, nums(-maxPeriod, 0, 0), api.OK},
		{nums(0, 0, 0), maxPeriod + 1, nums(0, 0, 0), api.ErrRange},
		{nums(maxPeriod, last, last), 2 * maxPeriod, nums(-maxPeriod, last, last), api.OK},
		{nums(maxPeriod, last, last), 2*maxPeriod + 1, nums(0, 0, 0), api.ErrRange},
		{nums(-maxPeriod, 1, 2), 0, nums(-maxPeriod, 1, 2), api.OK},
		{nums(-maxPeriod, 1, 2), 1, nums(0, 0, 0), api.ErrRange},
		{nums(-maxPeriod, 1, 2), math.MaxInt, nums(0, 0, 0), api.ErrRange},
		{nums(maxPeriod, 1, 2), math.MaxInt, nums(0, 0, 0), api.ErrRange},
		{nums(5, 57, 107), -1, nums(0, 0, 0), api.ErrRange},
		{nums(5, 57, 107), math.MinInt, nums(0, 0, 0), api.ErrRange},
		{nums(5, horizon, 107), 1, nums(0, 0, 0), api.ErrHorizon},
		{nums(5, 57, horizon), -1, nums(0, 0, 0), api.ErrHorizon},
		{nums(maxPeriod+1, 57, horizon), 1, nums(0, 0, 0), api.ErrRange},
		{nums(-maxPeriod-1, 57, 107), 0, nums(0, 0, 0), api.ErrRange},
	} {
		if n, e := cbs.Charge(c.n, c.spent); n != c.want || e != c.e {
			t.Errorf("Charge(%v, %d) = %v, %v; want %v, %v", c.n, c.spent, n, e, c.want, c.e)
		}
	}
}

func TestRefill(t *testing.T) {
	for _, c := range []struct {
		now  int
		p    api.Params
		n    cbs.Numbers
		want cbs.Numbers
		e    api.Errno
	}{
		// Something is left: all stays, even a deadline that was.
		{60, early, nums(3, 57, 107), nums(3, 57, 107), api.OK},
		{60, early, nums(1, 57, 107), nums(1, 57, 107), api.OK},
		{60, early, nums(maxPeriod, 0, 0), nums(maxPeriod, 0, 0), api.OK},
		{last, early, nums(1, last, last), nums(1, last, last), api.OK},
		// One period, or more.
		{60, early, nums(0, 57, 107), nums(10, 157, 207), api.OK},
		{60, early, nums(-5, 57, 107), nums(5, 157, 207), api.OK},
		{60, early, nums(-9, 57, 107), nums(1, 157, 207), api.OK},
		{60, early, nums(-10, 57, 107), nums(10, 257, 307), api.OK},
		{60, early, nums(-11, 57, 107), nums(9, 257, 307), api.OK},
		{60, early, nums(-99, 57, 107), nums(1, 1057, 1107), api.OK},
		{60, early, nums(-100, 57, 107), nums(10, 1157, 1207), api.OK},
		{60, whole, nums(0, 107, 107), nums(10, 207, 207), api.OK},
		{60, early, nums(0, 3, 107), nums(10, 157, 207), api.OK},
		{0, early, nums(0, last, 0), nums(10, 50, 100), api.OK},
		{0, long, nums(-maxPeriod, 0, 0), nums(maxPeriod, 2*maxPeriod, 2*maxPeriod), api.OK},
		{0, api.Params{Q: 1, D: 1, T: 1}, nums(-maxPeriod, 0, 0), nums(1, maxPeriod+1, maxPeriod+1), api.OK},
		// The new deadline is here, or was.
		{156, early, nums(-5, 57, 107), nums(5, 157, 207), api.OK},
		{157, early, nums(-5, 57, 107), nums(10, 207, 257), api.OK},
		{158, early, nums(-5, 57, 107), nums(10, 208, 258), api.OK},
		{157, early, nums(-10, 57, 107), nums(10, 257, 307), api.OK},
		{257, early, nums(-10, 57, 107), nums(10, 307, 357), api.OK},
		{9000, early, nums(0, 57, 107), nums(10, 9050, 9100), api.OK},
		// The end of time.
		{60, early, nums(0, 57, horizon-101), nums(10, horizon-51, last), api.OK},
		{60, early, nums(0, 57, horizon-100), nums(0, 0, 0), api.ErrHorizon},
		{60, early, nums(0, 57, last), nums(0, 0, 0), api.ErrHorizon},
		{60, early, nums(-10, 57, horizon-200), nums(0, 0, 0), api.ErrHorizon},
		{60, early, nums(-10, 57, horizon-201), nums(10, horizon-51, last), api.OK},
		{0, thin, nums(-maxPeriod, 0, 0), nums(0, 0, 0), api.ErrHorizon},
		{0, thin, nums(-1022, 0, 0), nums(1, 1022*maxPeriod+1, 1023*maxPeriod), api.OK},
		{0, thin, nums(-1023, 0, 0), nums(0, 0, 0), api.ErrHorizon},
		{horizon - 101, early, nums(0, 57, 107), nums(10, horizon-51, last), api.OK},
		{horizon - 100, early, nums(0, 57, 107), nums(0, 0, 0), api.ErrHorizon},
		{last, early, nums(0, 57, 107), nums(0, 0, 0), api.ErrHorizon},
		{last, early, nums(0, 57, horizon-60), nums(0, 0, 0), api.ErrHorizon},
		// Wrong ones, and which of several.
		{60, api.Params{}, nums(3, 57, 107), nums(0, 0, 0), api.ErrArg},
		{-1, api.Params{Q: 10, D: 50, T: 49}, nums(3, horizon, 107), nums(0, 0, 0), api.ErrArg},
		{-1, early, nums(3, horizon, 107), nums(0, 0, 0), api.ErrRange},
		{horizon, early, nums(maxPeriod+1, 57, 107), nums(0, 0, 0), api.ErrHorizon},
		{60, early, nums(maxPeriod+1, horizon, 107), nums(0, 0, 0), api.ErrRange},
		{60, early, nums(-maxPeriod-1, 57, 107), nums(0, 0, 0), api.ErrRange},
		{60, early, nums(3, horizon, -1), nums(0, 0, 0), api.ErrHorizon},
		{60, early, nums(3, 57, -1), nums(0, 0, 0), api.ErrRange},
		{60, early, nums(0, -1, last), nums(0, 0, 0), api.ErrRange},
	} {
		if n, e := cbs.Refill(c.now, c.p, c.n); n != c.want || e != c.e {
			t.Errorf("Refill(%d, %v, %v) = %v, %v; want %v, %v", c.now, c.p, c.n, n, e, c.want, c.e)
		}
	}
}

func TestLag(t *testing.T) {
	third := api.Params{Q: 3, D: 10, T: 10}
	for _, c := range []struct {
		p    api.Params
		n    cbs.Numbers
		want int
		e    api.Errno
	}{
		{early, nums(5, 157, 207), 107, api.OK},
		{early, nums(10, 157, 207), 57, api.OK},
		{early, nums(1, 157, 207), 147, api.OK},
		{early, nums(15, 157, 207), 7, api.OK},
		{early, nums(15, 150, 207), 0, api.OK},
		{early, nums(15, 149, 207), 0, api.OK},
		{early, nums(20, 157, 207), 0, api.OK},
		{early, nums(maxPeriod, 157, 207), 0, api.OK},
		{early, nums(0, 157, 207), 157, api.OK},
		{early, nums(-5, 157, 207), 157, api.OK},
		{early, nums(-maxPeriod, last, 0), last, api.OK},
		{third, nums(1, 100, 100), 97, api.OK},
		{third, nums(2, 100, 100), 94, api.OK},
		{third, nums(3, 100, 100), 90, api.OK},
		{third, nums(1, 3, 100), 0, api.OK},
		{third, nums(1, 2, 100), 0, api.OK},
		{third, nums(1, 4, 100), 1, api.OK},
		{long, nums(maxPeriod, last, 0), last - maxPeriod, api.OK},
		{thin, nums(maxPeriod, last, last), 0, api.OK},
		{thin, nums(1, last, last), last - maxPeriod, api.OK},
		{api.Params{}, nums(5, 157, 207), 0, api.ErrArg},
		{api.Params{Q: 1, D: 1}, nums(5, 157, -1), 0, api.ErrArg},
		{early, nums(maxPeriod+1, horizon, 207), 0, api.ErrRange},
		{early, nums(-maxPeriod-1, 157, 207), 0, api.ErrRange},
		{early, nums(5, horizon, -1), 0, api.ErrHorizon},
		{early, nums(1, 157, -1), 0, api.ErrRange},
		{early, nums(0, -1, horizon), 0, api.ErrRange},
	} {
		if at, e := cbs.Lag(c.p, c.n); at != c.want || e != c.e {
			t.Errorf("Lag(%v, %v) = %d, %v; want %d, %v", c.p, c.n, at, e, c.want, c.e)
		}
	}
}

// P6.4

// TestFitsBehind: what Fresh and Wake answer fits, and what Wake leaves is never more than it was, unless all is fresh.
func TestFitsBehind(t *testing.T) {
	for _, p := range someParams() {
		for _, n := range someNumbers() {
			for _, now := range []int{0, 49, 50, maxPeriod, n.End - 1, n.End} {
				fresh, freshError := cbs.Fresh(now, p)
				if is, _ := cbs.Fits(now, p, fresh); freshError == api.OK && !is {
					t.Fatalf("Fresh(%d, %v) = %v does not fit", now, p, fresh)
				}
				for _, rule := range []int{cbs.Original, cbs.Revised} {
					got, e := cbs.Wake(now, p, n, rule)
					if e != api.OK {
						continue
					}
					if is, _ := cbs.Fits(now, p, got); !is {
						t.Fatalf("Wake(%d, %v, %v, %d) = %v does not fit", now, p, n, rule, got)
					}
					if got != fresh && got.Left > n.Left {
						t.Fatalf("Wake(%d, %v, %v, %d) = %v has more left", now, p, n, rule, got)
					}
				}
			}
		}
	}
}

// TestRefillBehind: behind Refill Left is from 1 to Q, and a deadline that Refill set is ahead.
func TestRefillBehind(t *testing.T) {
	for _, p := range someParams() {
		for _, n := range someNumbers() {
			for _, now := range []int{0, 49, 50, maxPeriod, n.End, n.Next + p.D - 1, n.Next + p.D} {
				got, e := cbs.Refill(now, p, n)
				if e != api.OK {
					continue
				}
				if n.Left <= p.Q && (got.Left < 1 || got.Left > p.Q) {
					t.Fatalf("Refill(%d, %v, %v) = %v", now, p, n, got)
				}
				if n.Left < 1 && got.End <= now {
					t.Fatalf("Refill(%d, %v, %v) = %v, whose deadline is not ahead", now, p, n, got)
				}
			}
		}
	}
}

// TestSpent: who sleeps, wakes up and spends what is left, however it may, has spent no more than Q of each T up to its deadline.
func TestSpent(t *testing.T) {
	roll := dice()
	for range 400 {
		period := 1 + roll(60)
		p := api.Params{Q: 1 + roll(period), D: period, T: period}
		start := roll(1000)
		now, spent := start, 0
		n, _ := cbs.Fresh(now, p)
		for range 200 {
			now += roll(1 + roll(2*period))
			var e api.Errno
			if roll(3) > 0 {
				n, e = cbs.Wake(now, p, n, 1+roll(2))
			} else {
				n, e = cbs.Refill(now, p, n)
			}
			if e != api.OK {
				t.Fatal(p, now, n, e)
			}
			spend := roll(n.Left + 1)
			if n, e = cbs.Charge(n, spend); e != api.OK {
				t.Fatal(p, now, n, e)
			}
			spent += spend
			if (spent+n.Left)*p.T > p.Q*(n.End-start) {
				t.Fatalf("%v: from %d up to %d are spent %d, and %d are left", p, start, n.End, spent, n.Left)
			}
		}
	}
}
