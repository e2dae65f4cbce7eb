package grub_test

import (
	"math"
	"math/big"
	"slices"
	"testing"

	"metronome/api"
	"metronome/grub"
	"metronome/ratio"
)

// The document's numbers, not the packages'.
const (
	one        = 1048576
	maxActive  = 67108864
	maxWorkers = 16
	maxPeriod  = 1073741824
	horizon    = 1099511627776
	last       = horizon - 1
)

// dice is a row of numbers that is the same in every run.
func dice(seed uint64) func(n int) int {
	state := 88172645463325252 + seed
	return func(n int) int {
		state ^= state << 13
		state ^= state >> 7
		state ^= state << 17
		return int(state>>1) % n
	}
}

func must(t *testing.T) func(int, api.Errno) int {
	return func(n int, e api.Errno) int {
		t.Helper()
		if e != api.OK {
			t.Fatalf("an error: %v", e)
		}
		return n
	}
}

// Numbers near which answers turn.

func actives() []int {
	return []int{math.MinInt, -one, -1, 0, 1, 2, one/2 - 1, one / 2, one/2 + 1, one - 1, one, one + 1, 2*one - 1, 2 * one, 3*one - 1, 16*one - 1, 16 * one, 16*one + 1, maxActive - 1, maxActive, maxActive + 1, math.MaxInt}
}

func caps() []int {
	return []int{math.MinInt, -1, 0, 1, 2, one / 3, one / 2, one - 1, one, one + 1, math.MaxInt}
}

func workers() []int {
	return []int{math.MinInt, -1, 0, 1, 2, 3, 7, maxWorkers - 1, maxWorkers, maxWorkers + 1, math.MaxInt}
}

func ratios() []int {
	return []int{math.MinInt, -1, 0, 1, 2, 3, one / 4, one/3 - 1, one / 3, one/2 - 1, one / 2, one/2 + 1, one - 2, one - 1, one, one + 1, math.MaxInt}
}

func rests() []int {
	return []int{math.MinInt, -1, 0, 1, 2, one / 3, one/2 - 1, one / 2, one/2 + 1, one - 2, one - 1, one, one + 1, math.MaxInt}
}

func times() []int {
	return []int{math.MinInt, -1, 0, 1, 2, 3, 4, 7, 100, one - 1, one, one + 1, maxPeriod, 1 << 39, last - 1, last, horizon, horizon + 1, math.MaxInt}
}

func lefts() []int {
	return []int{math.MinInt, -1, 0, 1, 2, 3, 7, 100, one - 1, one, one + 1, maxPeriod - 1, maxPeriod, maxPeriod + 1, math.MaxInt}
}

func in(n, from, to int) bool { return from <= n && n <= to }

// mayBe is a list's numbers from one to another.
func mayBe(l []int, from, to int) []int {
	return slices.DeleteFunc(l, func(n int) bool { return !in(n, from, to) })
}

// The model: what the document says, by numbers without an end.

func wrongLoad(l grub.Load) api.Errno {
	if in(l.Active, 0, maxActive) && in(l.Cap, 0, one) && in(l.Workers, 1, maxWorkers) {
		return api.OK
	}
	return api.ErrArg
}

func wrongTime(t int) api.Errno {
	switch {
	case t < 0:
		return api.ErrRange
	case t >= horizon:
		return api.ErrHorizon
	}
	return api.OK
}

func exactSpare(l grub.Load) (int, api.Errno) {
	if e := wrongLoad(l); e != api.OK {
		return 0, e
	}
	n := new(big.Int).Mul(big.NewInt(int64(l.Cap)), big.NewInt(int64(l.Workers)))
	n.Sub(n, big.NewInt(int64(l.Active)))
	if n.Sign() < 0 {
		return 0, api.OK
	}
	return int(n.Div(n, big.NewInt(int64(l.Workers))).Int64()), api.OK
}

func exactRate(use int, l grub.Load) (int, api.Errno) {
	if !in(use, 0, one) {
		return 0, api.ErrRange
	}
	spare, e := exactSpare(l)
	if e != api.OK {
		return 0, e
	}
	if one-spare < use {
		return use, api.OK
	}
	return one - spare, api.OK
}

func wrongCharge(rest, time, rate int) api.Errno {
	if !in(rest, 0, one-1) {
		return api.ErrArg
	}
	if e := wrongTime(time); e != api.OK {
		return e
	}
	if !in(rate, 0, one) {
		return api.ErrRange
	}
	return api.OK
}

func exactCharge(rest, time, rate int) (int, int, api.Errno) {
	if e := wrongCharge(rest, time, rate); e != api.OK {
		return 0, 0, e
	}
	n := new(big.Int).Mul(big.NewInt(int64(time)), big.NewInt(int64(rate)))
	n.Add(n, big.NewInt(int64(rest)))
	whole, left := n.DivMod(n, big.NewInt(one), new(big.Int))
	return int(whole.Int64()), int(left.Int64()), api.OK
}

// checkUntil checks what Until answers by what Charge is to be at that time, and a unit earlier.
func checkUntil(t *testing.T, rest, left, rate int) {
	t.Helper()
	n, e := grub.Meter{Rest: rest}.Until(left, rate)
	charged := func(time int) int {
		whole, _, e := exactCharge(rest, time, rate)
		if e != api.OK {
			t.Fatalf("Until(%d, %d) of Rest %d = %d: no time", left, rate, rest, time)
		}
		return whole
	}
	want := api.OK
	switch {
	case !in(rest, 0, one-1):
		want = api.ErrArg
	case !in(rate, 0, one) || !in(left, 0, maxPeriod):
		want = api.ErrRange
	case left == 0:
	case rate == 0:
		want = api.ErrZero
	case charged(last) < left:
		want = api.ErrHorizon
	}
	switch {
	case e != want:
		t.Errorf("Until(%d, %d) of Rest %d: %v; want %v", left, rate, rest, e, want)
	case e != api.OK && n != 0:
		t.Errorf("Until(%d, %d) of Rest %d = %d beside %v", left, rate, rest, n, e)
	case e == api.OK && charged(n) < left:
		t.Errorf("Until(%d, %d) of Rest %d = %d: %d alone are charged", left, rate, rest, n, charged(n))
	case e == api.OK && n > 0 && charged(n-1) >= left:
		t.Errorf("Until(%d, %d) of Rest %d = %d: a unit earlier %d are charged", left, rate, rest, n, charged(n-1))
	}
}

// P8.1

func TestCheck(t *testing.T) {
	for _, c := range []struct {
		l grub.Load
		e api.Errno
	}{
		{grub.Load{Active: one / 2, Cap: one, Workers: 1}, api.OK},
		{grub.Load{Active: 0, Cap: one, Workers: 4}, api.OK},
		{grub.Load{Active: maxActive, Cap: one, Workers: 4}, api.OK},
		{grub.Load{Active: 5, Cap: 0, Workers: 4}, api.OK},
		{grub.Load{Active: 5, Cap: 9, Workers: maxWorkers}, api.OK},
		{grub.Load{Active: 0, Cap: 0, Workers: 1}, api.OK},
		{grub.Load{Active: maxActive, Cap: one, Workers: maxWorkers}, api.OK},
		{grub.Load{}, api.ErrArg}, // no workers
		{grub.Load{Active: -1, Cap: one, Workers: 1}, api.ErrArg},
		{grub.Load{Active: maxActive + 1, Cap: one, Workers: 1}, api.ErrArg},
		{grub.Load{Active: 5, Cap: -1, Workers: 1}, api.ErrArg},
		{grub.Load{Active: 5, Cap: one + 1, Workers: 1}, api.ErrArg},
		{grub.Load{Active: 5, Cap: one, Workers: 0}, api.ErrArg},
		{grub.Load{Active: 5, Cap: one, Workers: -1}, api.ErrArg},
		{grub.Load{Active: 5, Cap: one, Workers: maxWorkers + 1}, api.ErrArg},
		{grub.Load{Active: math.MinInt, Cap: math.MinInt, Workers: math.MinInt}, api.ErrArg},
		{grub.Load{Active: math.MaxInt, Cap: math.MaxInt, Workers: math.MaxInt}, api.ErrArg},
	} {
		if e := grub.Check(c.l); e != c.e {
			t.Errorf("Check(%+v) = %v; want %v", c.l, e, c.e)
		}
		if n, e := grub.Spare(c.l); e != c.e || e != api.OK && n != 0 {
			t.Errorf("Spare(%+v) = %d, %v; want %v", c.l, n, e, c.e)
		}
		if n, e := grub.Rate(5, c.l); e != c.e || e != api.OK && n != 0 {
			t.Errorf("Rate(5, %+v) = %d, %v; want %v", c.l, n, e, c.e)
		}
	}
}

func TestSpare(t *testing.T) {
	for _, c := range []struct {
		active, cap, workers, want int
	}{
		{524288, one, 1, 524288},
		{0, one, 1, one},
		{0, one, maxWorkers, one},
		{0, 0, 1, 0},
		{one, one, 1, 0}, // as much as may be given away
		{one - 1, one, 1, 1},
		{one + 1, one, 1, 0}, // more
		{maxActive, one, maxWorkers, 0},
		{maxActive, 0, 1, 0},
		{16 * one, one, maxWorkers, 0},
		{16*one - 16, one, maxWorkers, 1},
		{16*one - 15, one, maxWorkers, 0}, // 15 are left over
		{16*one - 17, one, maxWorkers, 1},
		{1, one, 2, one - 1}, // 1 is left over
		{1, one, 3, one - 1}, // 2 are left over
		{4, one, 3, one - 2},
		{one, one / 2, 2, 0},
		{one, one, 2, one / 2},
		{6, 5, 2, 2},
		{7, 5, 2, 1},
		{10, 5, 2, 0},
		{11, 5, 2, 0}, // not rounded to below 0
		{19, 5, 2, 0},
	} {
		l := grub.Load{Active: c.active, Cap: c.cap, Workers: c.workers}
		if n, e := grub.Spare(l); n != c.want || e != api.OK {
			t.Errorf("Spare(%+v) = %d, %v; want %d", l, n, e, c.want)
		}
	}
}

func TestRate(t *testing.T) {
	half := grub.Load{Active: one / 2, Cap: one, Workers: 1}
	idle := grub.Load{Cap: one, Workers: 2}
	full := grub.Load{Active: one, Cap: one, Workers: 1}
	none := grub.Load{Active: one + 7, Cap: one, Workers: 1}
	rest := grub.Load{Active: 4, Cap: one, Workers: 3} // its spare leaves something over
	for _, c := range []struct {
		use  int
		l    grub.Load
		want int
	}{
		{one / 4, half, one / 2},
		{one / 2, half, one / 2},
		{one/2 - 1, half, one / 2},
		{one/2 + 1, half, one/2 + 1}, // more than One less Spare
		{0, half, one / 2},
		{one, half, one},
		{0, idle, 0},
		{1, idle, 1},
		{one - 1, idle, one - 1},
		{one, idle, one},
		{0, full, one},
		{1, full, one},
		{one, full, one},
		{0, none, one},
		{one, none, one},
		{0, rest, 2},
		{1, rest, 2},
		{2, rest, 2},
		{3, rest, 3},
		{5, grub.Load{Cap: 0, Workers: 1}, one},
	} {
		if n, e := grub.Rate(c.use, c.l); n != c.want || e != api.OK {
			t.Errorf("Rate(%d, %+v) = %d, %v; want %d", c.use, c.l, n, e, c.want)
		}
	}
}

// TestRateWrong: a use that may not be counts ahead of a load that may not be.
func TestRateWrong(t *testing.T) {
	good := grub.Load{Active: one / 2, Cap: one, Workers: 1}
	for _, c := range []struct {
		use int
		l   grub.Load
		e   api.Errno
	}{
		{-1, good, api.ErrRange},
		{one + 1, good, api.ErrRange},
		{math.MinInt, good, api.ErrRange},
		{math.MaxInt, good, api.ErrRange},
		{-1, grub.Load{}, api.ErrRange},
		{one + 1, grub.Load{Active: -1, Cap: one, Workers: 1}, api.ErrRange},
		{0, grub.Load{}, api.ErrArg},
		{one, grub.Load{Active: maxActive + 1, Cap: one, Workers: 1}, api.ErrArg},
		{one, grub.Load{Cap: one + 1, Workers: 1}, api.ErrArg},
		{one, grub.Load{Cap: one, Workers: maxWorkers + 1}, api.ErrArg},
	} {
		if n, e := grub.Rate(c.use, c.l); n != 0 || e != c.e {
			t.Errorf("Rate(%d, %+v) = %d, %v; want %v", c.use, c.l, n, e, c.e)
		}
	}
}

func TestLoadsAtEdges(t *testing.T) {
	for _, active := range actives() {
		for _, most := range caps() {
			for _, w := range workers() {
				l := grub.Load{Active: active, Cap: most, Workers: w}
				if e := grub.Check(l); e != wrongLoad(l) {
					t.Errorf("Check(%+v) = %v", l, e)
				}
				want, wantE := exactSpare(l)
				if n, e := grub.Spare(l); n != want || e != wantE {
					t.Errorf("Spare(%+v) = %d, %v; want %d, %v", l, n, e, want, wantE)
				}
				for _, use := range ratios() {
					want, wantE := exactRate(use, l)
					if n, e := grub.Rate(use, l); n != want || e != wantE {
						t.Errorf("Rate(%d, %+v) = %d, %v; want %d, %v", use, l, n, e, want, wantE)
					}
				}
			}
		}
	}
}

func TestSmallLoads(t *testing.T) {
	for active := range 40 {
		for most := range 6 {
			for w := 1; w <= maxWorkers; w++ {
				l := grub.Load{Active: active, Cap: most, Workers: w}
				want, _ := exactSpare(l)
				if n, e := grub.Spare(l); n != want || e != api.OK {
					t.Errorf("Spare(%+v) = %d, %v; want %d", l, n, e, want)
				}
			}
		}
	}
}

// P8.2

func TestCharge(t *testing.T) {
	for _, c := range []struct {
		rest, time, rate, want, left int
	}{
		{0, 3, 524288, 1, 524288},
		{524288, 3, 524288, 2, 0}, // a whole One just so
		{524287, 3, 524288, 1, one - 1},
		{0, 1, one - 1, 0, one - 1},
		{1, 1, one - 1, 1, 0}, // what was owed makes a whole One
		{2, 1, one - 1, 1, 1},
		{one - 1, 1, 1, 1, 0},
		{one - 2, 1, 1, 0, one - 1},
		{one - 1, 0, one, 0, one - 1}, // of no time nothing
		{0, 0, 0, 0, 0},
		{5, 7, 0, 0, 5}, // of no rate nothing
		{5, last, 0, 0, 5},
		{0, 7, one, 7, 0},
		{one - 1, 7, one, 7, one - 1}, // what is owed stays owed
		{0, last, one, last, 0},
		{one - 1, last, one, last, one - 1},
		{0, last, 1, 1<<20 - 1, one - 1},
		{1, last, 1, 1 << 20, 0},
		{0, one, 1, 1, 0},
		{0, one - 1, 1, 0, one - 1},
	} {
		m := grub.Meter{Rest: c.rest}
		n, next, e := m.Charge(c.time, c.rate)
		if n != c.want || next.Rest != c.left || e != api.OK {
			t.Errorf("Charge(%d, %d) of Rest %d = %d, Rest %d, %v; want %d, Rest %d", c.time, c.rate, c.rest, n, next.Rest, e, c.want, c.left)
		}
		if m.Rest != c.rest {
			t.Errorf("Charge(%d, %d) turned the meter itself: Rest %d, was %d", c.time, c.rate, m.Rest, c.rest)
		}
	}
}

// TestChargeWrong: the meter counts first, the time next, the rate last.
func TestChargeWrong(t *testing.T) {
	for _, c := range []struct {
		rest, time, rate int
		e                api.Errno
	}{
		{-1, 7, 5, api.ErrArg},
		{one, 7, 5, api.ErrArg},
		{math.MinInt, 7, 5, api.ErrArg},
		{math.MaxInt, 7, 5, api.ErrArg},
		{-1, 0, 0, api.ErrArg},
		{-1, -1, -1, api.ErrArg},
		{one, horizon, one + 1, api.ErrArg},
		{9, -1, 5, api.ErrRange},
		{9, math.MinInt, 5, api.ErrRange},
		{9, -1, one + 1, api.ErrRange},
		{9, horizon, 5, api.ErrHorizon},
		{9, math.MaxInt, 5, api.ErrHorizon},
		{9, horizon, -1, api.ErrHorizon},
		{9, horizon, one + 1, api.ErrHorizon},
		{9, horizon, 0, api.ErrHorizon},
		{9, 7, -1, api.ErrRange},
		{9, 7, one + 1, api.ErrRange},
		{9, 0, math.MinInt, api.ErrRange},
		{9, 0, math.MaxInt, api.ErrRange},
		{9, last, math.MaxInt, api.ErrRange},
	} {
		m := grub.Meter{Rest: c.rest}
		if n, next, e := m.Charge(c.time, c.rate); n != 0 || next != (grub.Meter{}) || e != c.e {
			t.Errorf("Charge(%d, %d) of Rest %d = %d, Rest %d, %v; want %v", c.time, c.rate, c.rest, n, next.Rest, e, c.e)
		}
		if n, next, e := m.All(c.rate, c.time); n != 0 || next != (grub.Meter{}) || e != c.e {
			t.Errorf("All(%d, %d) of Rest %d = %d, Rest %d, %v; want %v", c.rate, c.time, c.rest, n, next.Rest, e, c.e)
		}
	}
}

func TestChargesAtEdges(t *testing.T) {
	for _, rest := range rests() {
		for _, time := range times() {
			for _, rate := range ratios() {
				want, left, wantE := exactCharge(rest, time, rate)
				n, m, e := grub.Meter{Rest: rest}.Charge(time, rate)
				if n != want || m.Rest != left || e != wantE {
					t.Errorf("Charge(%d, %d) of Rest %d = %d, Rest %d, %v; want %d, Rest %d, %v", time, rate, rest, n, m.Rest, e, want, left, wantE)
				}
				n, m, e = grub.Meter{Rest: rest}.All(rate, time)
				if n != want || m.Rest != left || e != wantE {
					t.Errorf("All(%d, %d) of Rest %d = %d, Rest %d, %v; want %d, Rest %d, %v", rate, time, rest, n, m.Rest, e, want, left, wantE)
				}
			}
		}
	}
}

func TestUntil(t *testing.T) {
	for _, c := range []struct {
		rest, left, rate, want int
	}{
		{0, 3, 524288, 6},
		{1, 3, 524288, 6},
		{524287, 3, 524288, 6},
		{524288, 3, 524288, 5},
		{one - 1, 3, 524288, 5},
		{0, 0, 5, 0},
		{0, 0, 0, 0}, // of nothing left the rate does not count
		{one - 1, 0, 0, 0},
		{0, 1, one, 1},
		{one - 1, 1, one, 1}, // some time is needed always
		{one - 1, 1, 1, 1},
		{one - 2, 1, 1, 2},
		{0, 1, 1, one},
		{0, 1, one - 1, 2},
		{1, 1, one - 1, 1},
		{0, maxPeriod, one, maxPeriod},
		{one - 1, maxPeriod, one, maxPeriod},
		{0, maxPeriod, one / 2, 2 * maxPeriod},
		{0, one - 1, 1, (one - 1) * one},
		{one - 1, one, 1, last - one + 2},
		{1, one, 1, last}, // the last time
		{1024, maxPeriod, 1024, last},
		{2047, maxPeriod, 1024, last},
		{2048, maxPeriod, 1024, last - 1},
	} {
		m := grub.Meter{Rest: c.rest}
		if n, e := m.Until(c.left, c.rate); n != c.want || e != api.OK {
			t.Errorf("Until(%d, %d) of Rest %d = %d, %v; want %d", c.left, c.rate, c.rest, n, e, c.want)
		}
	}
}

func TestUntilWrong(t *testing.T) {
	for _, c := range []struct {
		rest, left, rate int
		e                api.Errno
	}{
		{-1, 1, 5, api.ErrArg},
		{one, 1, 5, api.ErrArg},
		{math.MinInt, 1, 5, api.ErrArg},
		{math.MaxInt, 1, 5, api.ErrArg},
		{-1, 0, 5, api.ErrArg}, // ahead of nothing left
		{-1, 0, 0, api.ErrArg},
		{-1, 1, 0, api.ErrArg},
		{one, -1, -1, api.ErrArg},
		{one, maxPeriod + 1, one + 1, api.ErrArg},
		{9, 1, -1, api.ErrRange},
		{9, 1, one + 1, api.ErrRange},
		{9, 1, math.MinInt, api.ErrRange},
		{9, 1, math.MaxInt, api.ErrRange},
		{9, 0, -1, api.ErrRange}, // ahead of nothing left
		{9, 0, one + 1, api.ErrRange},
		{9, -1, 5, api.ErrRange},
		{9, maxPeriod + 1, 5, api.ErrRange},
		{9, math.MinInt, 5, api.ErrRange},
		{9, math.MaxInt, 5, api.ErrRange},
		{9, -1, 0, api.ErrRange}, // ahead of ErrZero
		{9, maxPeriod + 1, 0, api.ErrRange},
		{9, maxPeriod + 1, 1, api.ErrRange}, // ahead of ErrHorizon
		{0, 1, 0, api.ErrZero},
		{one - 1, 1, 0, api.ErrZero},
		{0, maxPeriod, 0, api.ErrZero}, // ahead of ErrHorizon
		{0, one, 1, api.ErrHorizon},    // the first one that is no time
		{0, one + 1, 1, api.ErrHorizon},
		{0, maxPeriod, 1024, api.ErrHorizon},
		{1023, maxPeriod, 1024, api.ErrHorizon},
		{0, maxPeriod, 1, api.ErrHorizon},
		{one - 1, maxPeriod, 1, api.ErrHorizon},
	} {
		m := grub.Meter{Rest: c.rest}
		if n, e := m.Until(c.left, c.rate); n != 0 || e != c.e {
			t.Errorf("Until(%d, %d) of Rest %d = %d, %v; want %v", c.left, c.rate, c.rest, n, e, c.e)
		}
	}
}

// TestUntilAtEdges: at the time that it tells so much is charged, and not a unit earlier.
func TestUntilAtEdges(t *testing.T) {
	for _, rest := range rests() {
		for _, left := range lefts() {
			for _, rate := range append(ratios(), 1023, 1024, 1025) {
				checkUntil(t, rest, left, rate)
			}
		}
	}
}

func TestUntilOfMany(t *testing.T) {
	roll := dice(8)
	for range 20000 {
		checkUntil(t, roll(one), roll(1<<(1+roll(30))), 1+roll(1<<(1+roll(20))))
	}
}

func TestUntilAsCharge(t *testing.T) {
	roll := dice(9)
	for range 5000 {
		m, left, rate := grub.Meter{Rest: roll(one)}, 1+roll(1<<20), 1+roll(one)
		at, e := m.Until(left, rate)
		if e != api.OK {
			continue
		}
		if n, _, e := m.Charge(at, rate); n < left || e != api.OK {
			t.Errorf("Until(%d, %d) of Rest %d = %d, Charge of it %d, %v", left, rate, m.Rest, at, n, e)
		}
		if n, _, e := m.Charge(at-1, rate); n >= left || e != api.OK {
			t.Errorf("Until(%d, %d) of Rest %d = %d, Charge of a unit less %d, %v", left, rate, m.Rest, at, n, e)
		}
	}
}

func TestAll(t *testing.T) {
	for _, c := range []struct {
		rest, rate int
		l          []int
		want, left int
	}{
		{9, 5, nil, 0, 9},
		{9, 5, []int{}, 0, 9},
		{9, -1, nil, 0, 9}, // where nothing is charged, the rate does not count
		{9, one + 1, nil, 0, 9},
		{one - 1, math.MaxInt, nil, 0, one - 1},
		{0, 524288, []int{3}, 1, 524288},
		{0, 524288, []int{3, 3}, 3, 0},
		{0, 524288, []int{1, 1}, 1, 0}, // of one alone nothing
		{0, 524288, []int{1, 1, 1}, 1, 524288},
		{1, 524288, []int{1, 1, 1}, 1, 524289},
		{524288, 524288, []int{1, 1, 1}, 2, 0},
		{0, 349525, []int{1, 1, 1, 3}, 1, 6*349525 - one},
		{0, 349526, []int{1, 1, 1}, 1, 2},
		{0, 0, []int{7, 8, 9}, 0, 0},
		{5, 0, []int{7, 8, 9}, 0, 5},
		{0, one, []int{7, 8, 9}, 24, 0},
		{one - 1, one, []int{7, 8, 9}, 24, one - 1},
		{9, one, []int{0, 0, 0}, 0, 9},
		{0, one, []int{last, last, last}, 3 * last, 0}, // together they need be no time
		{one - 1, 1, []int{0, 1, 0}, 1, 0},
	} {
		m := grub.Meter{Rest: c.rest}
		n, next, e := m.All(c.rate, c.l...)
		if n != c.want || next.Rest != c.left || e != api.OK {
			t.Errorf("All(%d, %v) of Rest %d = %d, Rest %d, %v; want %d, Rest %d", c.rate, c.l, c.rest, n, next.Rest, e, c.want, c.left)
		}
		if m.Rest != c.rest {
			t.Errorf("All(%d, %v) turned the meter itself: Rest %d, was %d", c.rate, c.l, m.Rest, c.rest)
		}
	}
}

func TestAllWrong(t *testing.T) {
	for _, c := range []struct {
		rest, rate int
		l          []int
		e          api.Errno
	}{
		{-1, 5, nil, api.ErrArg}, // though nothing is charged
		{one, 5, nil, api.ErrArg},
		{math.MinInt, 5, nil, api.ErrArg},
		{math.MaxInt, 5, nil, api.ErrArg},
		{-1, -1, nil, api.ErrArg},
		{-1, 5, []int{7, 8}, api.ErrArg},
		{one, -1, []int{-1, horizon}, api.ErrArg},
		{9, -1, []int{7}, api.ErrRange},
		{9, one + 1, []int{7, 8}, api.ErrRange},
		{9, 5, []int{-1}, api.ErrRange},
		{9, 5, []int{-1, 7, 8}, api.ErrRange},
		{9, 5, []int{7, -1, 8}, api.ErrRange},
		{9, one, []int{7, 8, -1}, api.ErrRange},
		{9, 5, []int{horizon}, api.ErrHorizon},
		{9, 5, []int{7, horizon, 8}, api.ErrHorizon},
		{9, one, []int{7, 8, math.MaxInt}, api.ErrHorizon},
		{9, 5, []int{7, horizon, -1}, api.ErrHorizon}, // the first one
		{9, 5, []int{7, -1, horizon}, api.ErrRange},
		{9, -1, []int{horizon, 7}, api.ErrHorizon}, // of the first time, the time's error
		{9, -1, []int{7, horizon}, api.ErrRange},   // of the first time, the rate's
	} {
		m := grub.Meter{Rest: c.rest}
		if n, next, e := m.All(c.rate, c.l...); n != 0 || next != (grub.Meter{}) || e != c.e {
			t.Errorf("All(%d, %v) of Rest %d = %d, Rest %d, %v; want %v", c.rate, c.l, c.rest, n, next.Rest, e, c.e)
		}
	}
}

// TestAllAsCharges: one behind the other, up to the first error.
func TestAllAsCharges(t *testing.T) {
	roll := dice(10)
	for range 5000 {
		l := make([]int, roll(8))
		for i := range l {
			l[i] = roll(1 << (1 + roll(40)))
			if roll(30) == 0 {
				l[i] = []int{-1, horizon, math.MinInt, math.MaxInt}[roll(4)]
			}
		}
		rest, rate := roll(one), roll(one+1)
		if roll(20) == 0 {
			rate = []int{-1, one + 1}[roll(2)]
		}
		want, left, wantE := 0, rest, api.OK
		for _, time := range l {
			var n int
			if n, left, wantE = exactCharge(left, time, rate); wantE != api.OK {
				want, left = 0, 0
				break
			}
			want += n
		}
		n, m, e := grub.Meter{Rest: rest}.All(rate, l...)
		if n != want || m.Rest != left || e != wantE {
			t.Errorf("All(%d, %v) of Rest %d = %d, Rest %d, %v; want %d, Rest %d, %v", rate, l, rest, n, m.Rest, e, want, left, wantE)
		}
	}
}

// TestAllThatDoesNotFit: what is charged in all never wraps round, and an error of a time counts first.
func TestAllThatDoesNotFit(t *testing.T) {
	// So many last times are 2 to the 23rd less than 2 to the 63rd, and one more does not fit.
	l := slices.Repeat([]int{last}, 1<<23+2)
	fits := l[:1<<23]
	if n, m, e := (grub.Meter{Rest: 9}).All(one, fits...); n != len(fits)*last || m.Rest != 9 || e != api.OK {
		t.Errorf("All of %d last times = %d, Rest %d, %v", len(fits), n, m.Rest, e)
	}
	for _, c := range []struct {
		behind int
		e      api.Errno
	}{
		{0, api.ErrOver},
		{-1, api.ErrRange},
		{horizon, api.ErrHorizon},
	} {
		l[len(l)-1] = c.behind
		if n, m, e := (grub.Meter{Rest: 9}).All(one, l...); n != 0 || m != (grub.Meter{}) || e != c.e {
			t.Errorf("All of %d last times, and %d = %d, Rest %d, %v; want %v", len(l)-1, c.behind, n, m.Rest, e, c.e)
		}
	}
}

func TestMethodValues(t *testing.T) {
	m := grub.Meter{Rest: one / 2}
	charge, until, all := m.Charge, m.Until, m.All
	m.Rest = -1 // the values have the meter of which they were taken
	if n, next, e := charge(3, one/2); n != 2 || next.Rest != 0 || e != api.OK {
		t.Errorf("charge = %d, Rest %d, %v", n, next.Rest, e)
	}
	if n, e := until(3, one/2); n != 5 || e != api.OK {
		t.Errorf("until = %d, %v", n, e)
	}
	if n, next, e := all(one/2, 1, 2); n != 2 || next.Rest != 0 || e != api.OK {
		t.Errorf("all = %d, Rest %d, %v", n, next.Rest, e)
	}
}

// The chapter's examples.
func TestExamples(t *testing.T) {
	is := must(t)
	l := grub.Load{Active: 524288, Cap: 1048576, Workers: 1}
	if n := is(grub.Spare(l)); n != 524288 {
		t.Errorf("Spare = %d", n)
	}
	if n := is(grub.Rate(262144, l)); n != 524288 {
		t.Errorf("Rate = %d", n)
	}
	if n, m, e := (grub.Meter{}).Charge(3, 524288); n != 1 || m.Rest != 524288 || e != api.OK {
		t.Errorf("Charge = %d, Rest %d, %v", n, m.Rest, e)
	}
}

// P8.3

func TestRateFromUseToOne(t *testing.T) {
	is := must(t)
	for _, use := range mayBe(ratios(), 0, one) {
		for _, most := range mayBe(caps(), 0, one) {
			for _, w := range mayBe(workers(), 1, maxWorkers) {
				before := 0
				for _, active := range mayBe(actives(), 0, maxActive) {
					l := grub.Load{Active: active, Cap: most, Workers: w}
					rate := is(grub.Rate(use, l))
					if rate < use || rate > one {
						t.Errorf("Rate(%d, %+v) = %d", use, l, rate)
					}
					if rate < before {
						t.Errorf("Rate(%d, %+v) = %d; of less active ones %d", use, l, rate, before)
					}
					before = rate
				}
			}
		}
	}
}

// TestRateRises: where something is spare, each more of every worker that is active is charged.
func TestRateRises(t *testing.T) {
	is := must(t)
	for w := 1; w <= maxWorkers; w++ {
		before := -1
		for active := 0; active <= w*100; active += w {
			rate := is(grub.Rate(0, grub.Load{Active: active, Cap: 100, Workers: w}))
			if rate != before+1 && before >= 0 {
				t.Errorf("of %d, %d workers: Rate %d, ahead of it %d", active, w, rate, before)
			}
			before = rate
		}
		if before != one {
			t.Errorf("of %d workers, where nothing is spare: Rate %d", w, before)
		}
	}
}

// TestAllOfIt: who has all of what may be given away is charged all.
func TestAllOfIt(t *testing.T) {
	is := must(t)
	for _, most := range mayBe(caps(), 0, one) {
		for _, w := range mayBe(workers(), 1, maxWorkers) {
			all := most * w
			if all > one {
				continue
			}
			rate := is(grub.Rate(all, grub.Load{Active: all, Cap: most, Workers: w}))
			if rate != one {
				t.Errorf("of Cap %d and %d workers: Rate %d", most, w, rate)
			}
			n, _, e := grub.Meter{}.Charge(77, rate)
			if n != 77 || e != api.OK {
				t.Errorf("of Cap %d and %d workers: %d of 77 are charged, %v", most, w, n, e)
			}
		}
	}
}

// split is a time in up to so many parts, some of them of no time.
func split(roll func(int) int, time, most int) []int {
	var l []int
	for range roll(most) {
		part := roll(time + 1)
		l = append(l, part)
		time -= part
	}
	return append(l, time)
}

// TestPartsDoNotCount: a time that is charged in parts is charged as a whole.
func TestPartsDoNotCount(t *testing.T) {
	roll := dice(11)
	for range 5000 {
		m, rate := grub.Meter{Rest: roll(one)}, roll(one+1)
		time := roll(1 << (1 + roll(40)))
		want, end, e := m.Charge(time, rate)
		if e != api.OK {
			t.Fatalf("Charge(%d, %d): %v", time, rate, e)
		}
		parts := split(roll, time, 9)
		if n, last, e := m.All(rate, parts...); n != want || last != end || e != api.OK {
			t.Errorf("All(%d, %v) of Rest %d = %d, Rest %d, %v; as a whole %d, Rest %d", rate, parts, m.Rest, n, last.Rest, e, want, end.Rest)
		}
		sum, now := 0, m
		for _, part := range parts {
			n, next, e := now.Charge(part, rate)
			if e != api.OK {
				t.Fatalf("Charge(%d, %d): %v", part, rate, e)
			}
			sum, now = sum+n, next
		}
		if sum != want || now != end {
			t.Errorf("charges of %v at %d: %d, Rest %d; as a whole %d, Rest %d", parts, rate, sum, now.Rest, want, end.Rest)
		}
	}
}

func TestUnitByUnit(t *testing.T) {
	for _, rate := range mayBe(ratios(), 0, one) {
		for _, rest := range mayBe(rests(), 0, one-1) {
			m := grub.Meter{Rest: rest}
			sum, now := 0, m
			for time := range 50 {
				n, end, e := m.Charge(time, rate)
				if n != sum || end != now || e != api.OK {
					t.Errorf("Charge(%d, %d) of Rest %d = %d, Rest %d, %v; unit by unit %d, Rest %d", time, rate, rest, n, end.Rest, e, sum, now.Rest)
				}
				n, now, e = now.Charge(1, rate)
				if e != api.OK {
					t.Fatalf("Charge(1, %d): %v", rate, e)
				}
				sum += n
			}
		}
	}
}

// TestChargedIsBounded: no less than the part of use, and no more than the time.
func TestChargedIsBounded(t *testing.T) {
	is := must(t)
	for _, use := range mayBe(ratios(), 0, one) {
		for _, active := range mayBe(actives(), 0, maxActive) {
			rate := is(grub.Rate(use, grub.Load{Active: active, Cap: one, Workers: 2}))
			for _, rest := range mayBe(rests(), 0, one-1) {
				for _, time := range mayBe(times(), 0, last) {
					n, m, e := grub.Meter{Rest: rest}.Charge(time, rate)
					least := is(ratio.Part(use, time, false))
					if n < least || n > time || e != api.OK {
						t.Errorf("Charge(%d, %d) of Rest %d = %d, %v; the part of %d is %d", time, rate, rest, n, e, use, least)
					}
					if !in(m.Rest, 0, one-1) {
						t.Errorf("Charge(%d, %d) of Rest %d: Rest %d", time, rate, rest, m.Rest)
					}
				}
			}
		}
	}
}

// R2: what is handed in is not written into, nor what stands behind its length.
func TestAllLeavesItsTimes(t *testing.T) {
	for _, l := range [][]int{{3, 9, 4, 7, 7}, {3, -9, 4, 7, 7}, {horizon, 1, 4, 7, 7}} {
		kept := slices.Clone(l)
		grub.Meter{Rest: 9}.All(one/3, l[:3]...)
		if !slices.Equal(l, kept) {
			t.Errorf("%v has become %v", kept, l)
		}
	}
}

// R3: what was asked ahead does not count.
func TestSameAgain(t *testing.T) {
	m := grub.Meter{Rest: one / 2}
	l := grub.Load{Active: 1, Cap: one, Workers: 3}
	for range 3 {
		if n, next, e := m.All(one/2, 1, 1); n != 1 || next.Rest != one/2 || e != api.OK {
			t.Errorf("All = %d, Rest %d, %v", n, next.Rest, e)
		}
		if n, e := m.Until(1, one/2); n != 1 || e != api.OK {
			t.Errorf("Until = %d, %v", n, e)
		}
		if n, e := grub.Rate(0, l); n != 1 || e != api.OK {
			t.Errorf("Rate = %d, %v", n, e)
		}
		m.Charge(-1, 5)
		m.All(one, 7, -1)
		grub.Rate(one, grub.Load{})
	}
}
