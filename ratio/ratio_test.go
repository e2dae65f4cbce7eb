package ratio_test

import (
	"iter"
	"math"
	"math/big"
	"slices"
	"testing"

	"metronome/api"
	"metronome/ratio"
)

// The document's numbers, not the packages'.
const (
	one       = 1048576
	maxPeriod = 1073741824
)

// edges are the numbers near which answers turn: around 0, a whole worker, the longest period, and the ends of int.
func edges() []int {
	return []int{
		math.MinInt, math.MinInt + 1, -one, -2, -1,
		0, 1, 2, 3, 7, 10, one - 1, one, one + 1, 2*one - 1, 2 * one, maxPeriod - 1, maxPeriod, maxPeriod + 1,
		1<<40 - 1, 1 << 40, 1<<43 - 1, 1 << 43, 1<<43 + 1, 1<<62 - 1, 1 << 62, math.MaxInt - 1, math.MaxInt,
	}
}

// periods are times of params that may be, from the least to the greatest.
func periods() []int {
	return []int{1, 2, 3, 4, 5, 7, 99, 100, 101, one - 1, one, one + 1, 3*one + 1, maxPeriod - 1, maxPeriod}
}

// exactDiv is a times b, divided by c, by numbers without an end.
func exactDiv(a, b, c int, up bool) (int, api.Errno) {
	if a < 0 || b < 0 || c < 0 {
		return 0, api.ErrRange
	}
	if c == 0 {
		return 0, api.ErrZero
	}
	product := new(big.Int).Mul(big.NewInt(int64(a)), big.NewInt(int64(b)))
	n, rest := new(big.Int).QuoRem(product, big.NewInt(int64(c)), new(big.Int))
	if up && rest.Sign() > 0 {
		n.Add(n, big.NewInt(1))
	}
	if !n.IsInt64() {
		return 0, api.ErrOver
	}
	return int(n.Int64()), api.OK
}

// P2.1

func TestCheck(t *testing.T) {
	for _, c := range []struct {
		p api.Params
		e api.Errno
	}{
		{api.Params{Q: 10, D: 50, T: 100}, api.OK},
		{api.Params{Q: 1, D: 1, T: 1}, api.OK},
		{api.Params{Q: 1, D: 2, T: 2}, api.OK},
		{api.Params{Q: 2, D: 2, T: 3}, api.OK},
		{api.Params{Q: 2, D: 3, T: 3}, api.OK},
		{api.Params{Q: 5, D: 5, T: 5}, api.OK},
		{api.Params{Q: 1, D: 1, T: maxPeriod}, api.OK},
		{api.Params{Q: 1, D: maxPeriod, T: maxPeriod}, api.OK},
		{api.Params{Q: maxPeriod, D: maxPeriod, T: maxPeriod}, api.OK},
		{api.Params{}, api.ErrArg},
		{api.Params{Q: 0, D: 1, T: 1}, api.ErrArg},
		{api.Params{Q: 0, D: 50, T: 100}, api.ErrArg},
		{api.Params{Q: -1, D: 50, T: 100}, api.ErrArg},
		{api.Params{Q: math.MinInt, D: 50, T: 100}, api.ErrArg},
		{api.Params{Q: 51, D: 50, T: 100}, api.ErrArg},
		{api.Params{Q: 2, D: 1, T: 3}, api.ErrArg},
		{api.Params{Q: 10, D: 0, T: 100}, api.ErrArg},
		{api.Params{Q: 10, D: -50, T: 100}, api.ErrArg},
		{api.Params{Q: 10, D: 50, T: 49}, api.ErrArg},
		{api.Params{Q: 1, D: 2, T: 1}, api.ErrArg},
		{api.Params{Q: 10, D: 50, T: 0}, api.ErrArg},
		{api.Params{Q: 10, D: 50, T: -100}, api.ErrArg},
		{api.Params{Q: 1, D: 1, T: maxPeriod + 1}, api.ErrArg},
		{api.Params{Q: 1, D: maxPeriod + 1, T: maxPeriod + 1}, api.ErrArg},
		{api.Params{Q: maxPeriod + 1, D: maxPeriod + 1, T: maxPeriod + 1}, api.ErrArg},
		{api.Params{Q: 1, D: 1, T: math.MaxInt}, api.ErrArg},
		{api.Params{Q: math.MinInt, D: math.MinInt, T: math.MinInt}, api.ErrArg},
		{api.Params{Q: math.MaxInt, D: math.MaxInt, T: math.MaxInt}, api.ErrArg},
	} {
		if e := ratio.Check(c.p); e != c.e {
			t.Errorf("Check(%v) = %v; want %v", c.p, e, c.e)
		}
	}
}

func TestUpAndDown(t *testing.T) {
	for _, c := range []struct {
		q, t, up, down int
	}{
		{1, 3, 349526, 349525},
		{2, 3, 699051, 699050},
		{1, 2, 524288, 524288}, // nothing is left over
		{0, 5, 0, 0},
		{0, math.MaxInt, 0, 0},
		{5, 5, one, one},
		{math.MaxInt, math.MaxInt, one, one},
		{7, 2, 3670016, 3670016}, // more than a worker
		{1, one, 1, 1},
		{1, one + 1, 1, 0},
		{1, one - 1, 2, 1},
		{1, math.MaxInt, 1, 0},
		{math.MaxInt - 1, math.MaxInt, one, one - 1},
		{1<<43 - 1, 1, math.MaxInt - one + 1, math.MaxInt - one + 1}, // the greatest one that fits
	} {
		if n, e := ratio.Up(c.q, c.t); n != c.up || e != api.OK {
			t.Errorf("Up(%d, %d) = %d, %v; want %d", c.q, c.t, n, e, c.up)
		}
		if n, e := ratio.Down(c.q, c.t); n != c.down || e != api.OK {
			t.Errorf("Down(%d, %d) = %d, %v; want %d", c.q, c.t, n, e, c.down)
		}
	}
}

func TestUpAndDownWrong(t *testing.T) {
	for _, c := range []struct {
		q, t int
		e    api.Errno
	}{
		{-1, 5, api.ErrRange},
		{5, -1, api.ErrRange},
		{-1, -1, api.ErrRange},
		{-1, 0, api.ErrRange}, // ahead of ErrZero
		{math.MinInt, math.MinInt, api.ErrRange},
		{math.MaxInt, -1, api.ErrRange}, // ahead of ErrOver
		{0, 0, api.ErrZero},
		{1, 0, api.ErrZero},
		{math.MaxInt, 0, api.ErrZero}, // ahead of ErrOver
		{1 << 43, 1, api.ErrOver},
		{math.MaxInt, 1, api.ErrOver},
		{math.MaxInt, one - 1, api.ErrOver},
	} {
		if n, e := ratio.Up(c.q, c.t); n != 0 || e != c.e {
			t.Errorf("Up(%d, %d) = %d, %v; want %v", c.q, c.t, n, e, c.e)
		}
		if n, e := ratio.Down(c.q, c.t); n != 0 || e != c.e {
			t.Errorf("Down(%d, %d) = %d, %v; want %v", c.q, c.t, n, e, c.e)
		}
	}
}

func TestUpAndDownAtEdges(t *testing.T) {
	for _, q := range edges() {
		for _, by := range edges() {
			want, wantE := exactDiv(q, one, by, true)
			if n, e := ratio.Up(q, by); n != want || e != wantE {
				t.Errorf("Up(%d, %d) = %d, %v; want %d, %v", q, by, n, e, want, wantE)
			}
			want, wantE = exactDiv(q, one, by, false)
			if n, e := ratio.Down(q, by); n != want || e != wantE {
				t.Errorf("Down(%d, %d) = %d, %v; want %d, %v", q, by, n, e, want, wantE)
			}
		}
	}
}

func TestUseAndDense(t *testing.T) {
	for _, c := range []struct {
		p          api.Params
		use, dense int
	}{
		{api.Params{Q: 10, D: 50, T: 100}, 104858, 209716},
		{api.Params{Q: 1, D: 3, T: 6}, 174763, 349526}, // both rounded up
		{api.Params{Q: 1, D: 2, T: 4}, one / 4, one / 2},
		{api.Params{Q: 1, D: 1, T: 1}, one, one},
		{api.Params{Q: 5, D: 5, T: 10}, one / 2, one},
		{api.Params{Q: 5, D: 10, T: 10}, one / 2, one / 2},
		{api.Params{Q: 1, D: 1, T: maxPeriod}, 1, one},
		{api.Params{Q: 1, D: maxPeriod, T: maxPeriod}, 1, 1},
		{api.Params{Q: maxPeriod, D: maxPeriod, T: maxPeriod}, one, one},
		{api.Params{Q: maxPeriod - 1, D: maxPeriod - 1, T: maxPeriod}, one, one},
		{api.Params{Q: maxPeriod - 1024, D: maxPeriod - 1, T: maxPeriod}, one - 1, one},
	} {
		if n, e := ratio.Use(c.p); n != c.use || e != api.OK {
			t.Errorf("Use(%v) = %d, %v; want %d", c.p, n, e, c.use)
		}
		if n, e := ratio.Dense(c.p); n != c.dense || e != api.OK {
			t.Errorf("Dense(%v) = %d, %v; want %d", c.p, n, e, c.dense)
		}
	}
}

// TestUseAndDenseWrong: the params' error is answered, not one of the ratio.
func TestUseAndDenseWrong(t *testing.T) {
	for _, p := range []api.Params{
		{},
		{Q: 0, D: 50, T: 100},
		{Q: -10, D: 50, T: 100},
		{Q: 51, D: 50, T: 100},
		{Q: 10, D: 0, T: 100},
		{Q: 10, D: -50, T: 100},
		{Q: 10, D: 50, T: 49},
		{Q: 10, D: 50, T: 0},
		{Q: 10, D: 50, T: -100},
		{Q: 1, D: 1, T: maxPeriod + 1},
		{Q: math.MaxInt, D: 1, T: 1},
		{Q: math.MinInt, D: math.MinInt, T: math.MinInt},
	} {
		if n, e := ratio.Use(p); n != 0 || e != api.ErrArg {
			t.Errorf("Use(%v) = %d, %v; want ErrArg", p, n, e)
		}
		if n, e := ratio.Dense(p); n != 0 || e != api.ErrArg {
			t.Errorf("Dense(%v) = %d, %v; want ErrArg", p, n, e)
		}
	}
}

func TestParamsAtEdges(t *testing.T) {
	for _, q := range edges() {
		for _, d := range edges() {
			for _, by := range edges() {
				p := api.Params{Q: q, D: d, T: by}
				wantE := api.ErrArg
				use, dense := 0, 0
				if 1 <= q && q <= d && d <= by && by <= maxPeriod {
					wantE = api.OK
					use, _ = exactDiv(q, one, by, true)
					dense, _ = exactDiv(q, one, d, true)
				}
				if e := ratio.Check(p); e != wantE {
					t.Errorf("Check(%v) = %v; want %v", p, e, wantE)
				}
				if n, e := ratio.Use(p); n != use || e != wantE {
					t.Errorf("Use(%v) = %d, %v; want %d, %v", p, n, e, use, wantE)
				}
				if n, e := ratio.Dense(p); n != dense || e != wantE {
					t.Errorf("Dense(%v) = %d, %v; want %d, %v", p, n, e, dense, wantE)
				}
			}
		}
	}
}

// P2.2

func TestPart(t *testing.T) {
	for _, c := range []struct {
		r, t, down, up int
	}{
		{524288, 7, 3, 4},
		{524288, 8, 4, 4}, // nothing is left over
		{one, 9, 9, 9},
		{one, math.MaxInt, math.MaxInt, math.MaxInt},
		{0, 9, 0, 0},
		{9, 0, 0, 0},
		{0, 0, 0, 0},
		{math.MaxInt, 0, 0, 0},
		{1, one - 1, 0, 1},
		{1, one, 1, 1},
		{1, one + 1, 1, 2},
		{one - 1, 1, 0, 1},
		{one + 1, 1, 1, 2},
		{3 * one, 5, 15, 15},
		{349525, 3, 0, 1},
		{349526, 3, 1, 2},
		{1, math.MaxInt, 1<<43 - 1, 1 << 43},
		{math.MaxInt, one, math.MaxInt, math.MaxInt},
		{math.MaxInt, 1, 1<<43 - 1, 1 << 43},
	} {
		if n, e := ratio.Part(c.r, c.t, false); n != c.down || e != api.OK {
			t.Errorf("Part(%d, %d, down) = %d, %v; want %d", c.r, c.t, n, e, c.down)
		}
		if n, e := ratio.Part(c.r, c.t, true); n != c.up || e != api.OK {
			t.Errorf("Part(%d, %d, up) = %d, %v; want %d", c.r, c.t, n, e, c.up)
		}
	}
}

func TestPartWrong(t *testing.T) {
	for _, c := range []struct {
		r, t int
		e    api.Errno
	}{
		{-1, 9, api.ErrRange},
		{9, -1, api.ErrRange},
		{-1, -1, api.ErrRange},
		{-1, 0, api.ErrRange},
		{0, -1, api.ErrRange},
		{math.MinInt, math.MinInt, api.ErrRange},
		{math.MinInt, math.MaxInt, api.ErrRange}, // ahead of ErrOver
		{math.MaxInt, -1, api.ErrRange},
		{one + 1, math.MaxInt, api.ErrOver},
		{math.MaxInt, one + 1, api.ErrOver},
		{math.MaxInt, math.MaxInt, api.ErrOver},
		{1 << 62, 2 * one, api.ErrOver}, // 2 to the 63rd, nothing left over
	} {
		for _, up := range []bool{false, true} {
			if n, e := ratio.Part(c.r, c.t, up); n != 0 || e != c.e {
				t.Errorf("Part(%d, %d, %v) = %d, %v; want %v", c.r, c.t, up, n, e, c.e)
			}
		}
	}
}

// TestPartUpOver: what fits when it is rounded down need not fit when it is rounded up.
func TestPartUpOver(t *testing.T) {
	// The product is 8 less than 2 to the 83rd.
	r, by := one+1, 9223363240770142200
	if n, e := ratio.Part(r, by, false); n != math.MaxInt || e != api.OK {
		t.Errorf("Part(%d, %d, down) = %d, %v", r, by, n, e)
	}
	if n, e := ratio.Part(r, by, true); n != 0 || e != api.ErrOver {
		t.Errorf("Part(%d, %d, up) = %d, %v; want ErrOver", r, by, n, e)
	}
}

func TestPartAtEdges(t *testing.T) {
	for _, r := range edges() {
		for _, by := range edges() {
			for _, up := range []bool{false, true} {
				want, wantE := exactDiv(r, by, one, up)
				if n, e := ratio.Part(r, by, up); n != want || e != wantE {
					t.Errorf("Part(%d, %d, %v) = %d, %v; want %d, %v", r, by, up, n, e, want, wantE)
				}
			}
		}
	}
}

func TestSum(t *testing.T) {
	for _, c := range []struct {
		l    []int
		want int
		e    api.Errno
	}{
		{nil, 0, api.OK},
		{[]int{}, 0, api.OK},
		{[]int{0}, 0, api.OK},
		{[]int{7}, 7, api.OK},
		{[]int{3, 9, 4}, 16, api.OK},
		{[]int{one, one, one}, 3 * one, api.OK},
		{[]int{math.MaxInt}, math.MaxInt, api.OK},
		{[]int{math.MaxInt, 0, 0}, math.MaxInt, api.OK},
		{[]int{1, math.MaxInt - 1}, math.MaxInt, api.OK},
		{[]int{-1}, 0, api.ErrRange},
		{[]int{math.MinInt}, 0, api.ErrRange},
		{[]int{-1, 3, 4}, 0, api.ErrRange},
		{[]int{3, -9, 4}, 0, api.ErrRange},
		{[]int{3, 9, -1}, 0, api.ErrRange},
		{[]int{math.MaxInt, 1}, 0, api.ErrOver},
		{[]int{1, 1, math.MaxInt - 1}, 0, api.ErrOver},
		{[]int{math.MaxInt, math.MaxInt}, 0, api.ErrOver},
		{[]int{math.MaxInt, math.MaxInt, math.MaxInt}, 0, api.ErrOver},
		{[]int{math.MaxInt, 1, -1}, 0, api.ErrRange}, // one below 0 counts first, though it comes last
		{[]int{-1, math.MaxInt, 1}, 0, api.ErrRange},
	} {
		if n, e := ratio.Sum(c.l...); n != c.want || e != c.e {
			t.Errorf("Sum(%v) = %d, %v; want %d, %v", c.l, n, e, c.want, c.e)
		}
	}
}

// counted goes through a list, and counts how many of it are asked for.
func counted(l []int, n *int) iter.Seq[int] {
	return func(yield func(int) bool) {
		for _, r := range l {
			*n++
			if !yield(r) {
				return
			}
		}
	}
}

// TestSums: asked is how far the iterator is gone through.
func TestSums(t *testing.T) {
	for _, c := range []struct {
		l                []int
		sum, most, asked int
		e                api.Errno
	}{
		{nil, 0, 0, 0, api.OK},
		{[]int{0}, 0, 0, 1, api.OK},
		{[]int{7}, 7, 7, 1, api.OK},
		{[]int{3, 9, 4}, 16, 9, 3, api.OK},
		{[]int{9, 3, 4}, 16, 9, 3, api.OK},
		{[]int{3, 4, 9}, 16, 9, 3, api.OK},
		{[]int{5, 5}, 10, 5, 2, api.OK},
		{[]int{one, 0, one}, 2 * one, one, 3, api.OK},
		{[]int{math.MaxInt}, math.MaxInt, math.MaxInt, 1, api.OK},
		{[]int{0, math.MaxInt, 0}, math.MaxInt, math.MaxInt, 3, api.OK},
		{[]int{1, math.MaxInt - 1}, math.MaxInt, math.MaxInt - 1, 2, api.OK},
		{[]int{-1}, 0, 0, 1, api.ErrRange},
		{[]int{-1, 5, 6}, 0, 0, 1, api.ErrRange},
		{[]int{3, -9, 4}, 0, 0, 2, api.ErrRange},
		{[]int{3, 4, math.MinInt}, 0, 0, 3, api.ErrRange},
		{[]int{math.MaxInt, 1}, 0, 0, 2, api.ErrOver},
		{[]int{math.MaxInt, 1, 5, 6}, 0, 0, 2, api.ErrOver},
		{[]int{1, math.MaxInt, 5}, 0, 0, 2, api.ErrOver},
		{[]int{math.MaxInt, 1, -1}, 0, 0, 2, api.ErrOver}, // the one below 0 is not come to
		{[]int{math.MaxInt, -1, 1}, 0, 0, 2, api.ErrRange},
	} {
		asked := 0
		sum, most, e := ratio.Sums(counted(c.l, &asked))
		if sum != c.sum || most != c.most || e != c.e {
			t.Errorf("Sums(%v) = %d, %d, %v; want %d, %d, %v", c.l, sum, most, e, c.sum, c.most, c.e)
		}
		if asked != c.asked {
			t.Errorf("Sums(%v) went through %d; want %d", c.l, asked, c.asked)
		}
	}
}

func TestSumsOfNil(t *testing.T) {
	if sum, most, e := ratio.Sums(nil); sum != 0 || most != 0 || e != api.OK {
		t.Errorf("Sums(nil) = %d, %d, %v", sum, most, e)
	}
}

// TestSumsWithoutEnd: an iterator that has no end is left where the sum no longer fits.
func TestSumsWithoutEnd(t *testing.T) {
	endless := func(yield func(int) bool) {
		for yield(1 << 60) {
		}
	}
	if sum, most, e := ratio.Sums(endless); sum != 0 || most != 0 || e != api.ErrOver {
		t.Errorf("Sums = %d, %d, %v; want ErrOver", sum, most, e)
	}
}

// stubborn goes on, though it is told to stop.
func stubborn(l ...int) iter.Seq[int] {
	return func(yield func(int) bool) {
		for _, r := range l {
			yield(r)
		}
	}
}

// TestSumsOfWrongIterators: no call panics (R1), whatever the iterator does.
func TestSumsOfWrongIterators(t *testing.T) {
	for _, c := range []struct {
		name      string
		l         iter.Seq[int]
		sum, most int
		e         api.Errno
	}{
		{"one that need not be told to stop", stubborn(3, 9, 4), 16, 9, api.OK},
		{"one that goes on behind one below 0", stubborn(3, -1, 4), 0, 0, api.ErrRange},
		{"one that goes on behind one that does not fit", stubborn(math.MaxInt, 1, -1), 0, 0, api.ErrOver},
		{"one that panics", func(func(int) bool) { panic("none") }, 0, 0, api.ErrArg},
		{"one that panics behind some", func(yield func(int) bool) {
			yield(3)
			panic("no more")
		}, 0, 0, api.ErrArg},
		{"one that panics when it is told to stop", func(yield func(int) bool) {
			yield(-1)
			panic("no more")
		}, 0, 0, api.ErrRange},
	} {
		if sum, most, e := ratio.Sums(c.l); sum != c.sum || most != c.most || e != c.e {
			t.Errorf("%s: Sums = %d, %d, %v; want %d, %d, %v", c.name, sum, most, e, c.sum, c.most, c.e)
		}
	}
}

// TestSumsAsSum: where both end, they answer the same.
func TestSumsAsSum(t *testing.T) {
	for _, a := range edges() {
		for _, b := range edges() {
			for _, c := range edges() {
				l := []int{a, b, c}
				// Sums comes to the first fault alone, so the ones behind it are not told to Sum.
				asked := 0
				sum, most, e := ratio.Sums(counted(l, &asked))
				want, wantE := ratio.Sum(l[:asked]...)
				wantMost := 0
				if wantE == api.OK {
					wantMost = slices.Max(l)
				}
				if sum != want || most != wantMost || e != wantE {
					t.Fatalf("Sums(%v) = %d, %d, %v; want %d, %d, %v", l, sum, most, e, want, wantMost, wantE)
				}
				if e == api.OK && asked != len(l) {
					t.Fatalf("Sums(%v) went through %d alone", l, asked)
				}
			}
		}
	}
}

// P2.3

func must(t *testing.T) func(int, api.Errno) int {
	return func(n int, e api.Errno) int {
		t.Helper()
		if e != api.OK {
			t.Fatalf("an error: %v", e)
		}
		return n
	}
}

func TestUpNearDown(t *testing.T) {
	is := must(t)
	for q := range 60 {
		for _, by := range periods() {
			up, down := is(ratio.Up(q, by)), is(ratio.Down(q, by))
			if up < down || up > down+1 {
				t.Errorf("of %d in %d: up %d, down %d", q, by, up, down)
			}
			// They differ where something is left over, and there alone.
			if (up == down) != (q*one%by == 0) {
				t.Errorf("of %d in %d: up %d, down %d", q, by, up, down)
			}
		}
	}
}

func TestRisesAndFalls(t *testing.T) {
	is := must(t)
	for _, of := range []func(q, t int) (int, api.Errno){ratio.Up, ratio.Down} {
		for q := range 40 {
			for by := 1; by < 40; by++ {
				here := is(of(q, by))
				if next := is(of(q+1, by)); next <= here {
					t.Errorf("of %d in %d: %d; of one more %d", q, by, here, next)
				}
				if next := is(of(q, by+1)); next > here || q > 0 && next == here {
					t.Errorf("of %d in %d: %d; in one more %d", q, by, here, next)
				}
			}
			for i, by := range periods()[1:] {
				if before, here := is(of(q, periods()[i])), is(of(q, by)); here > before {
					t.Errorf("of %d in %d: %d; ahead of it %d", q, by, here, before)
				}
			}
		}
	}
}

func TestPartOfTheWhole(t *testing.T) {
	is := must(t)
	for _, at := range edges() {
		if at < 0 {
			continue
		}
		for _, up := range []bool{false, true} {
			if n := is(ratio.Part(one, at, up)); n != at {
				t.Errorf("Part(One, %d, %v) = %d", at, up, n)
			}
		}
	}
}

func TestPartsTogether(t *testing.T) {
	is := must(t)
	ratios := []int{0, 1, 2, 349525, 349526, 524287, 524288, 524289, 699050, one - 1, one, one + 1, 5 * one}
	for _, a := range ratios {
		for _, b := range ratios {
			sum := is(ratio.Sum(a, b))
			for _, at := range append(periods(), 0) {
				apart := is(ratio.Part(a, at, false)) + is(ratio.Part(b, at, false))
				if whole := is(ratio.Part(sum, at, false)); apart > whole || apart < whole-1 {
					t.Errorf("of %d and %d in %d, down: %d, together %d", a, b, at, apart, whole)
				}
				apart = is(ratio.Part(a, at, true)) + is(ratio.Part(b, at, true))
				if whole := is(ratio.Part(sum, at, true)); apart < whole || apart > whole+1 {
					t.Errorf("of %d and %d in %d, up: %d, together %d", a, b, at, apart, whole)
				}
			}
		}
	}
}

func TestUseNoMoreThanDense(t *testing.T) {
	is := must(t)
	for _, q := range periods() {
		for _, d := range periods() {
			for _, by := range periods() {
				if q > d || d > by {
					continue
				}
				p := api.Params{Q: q, D: d, T: by}
				use, dense := is(ratio.Use(p)), is(ratio.Dense(p))
				if use < 1 || use > dense || dense > one {
					t.Errorf("of %v: use %d, dense %d", p, use, dense)
				}
			}
		}
	}
}

// R2: what is handed in is not written into, nor what stands behind its length.
func TestSumLeavesItsNumbers(t *testing.T) {
	for _, l := range [][]int{{3, 9, 4, 7, 7}, {3, -9, 4, 7, 7}, {math.MaxInt, 1, 4, 7, 7}} {
		kept := slices.Clone(l)
		ratio.Sum(l[:3]...)
		ratio.Sums(slices.Values(l[:3]))
		if !slices.Equal(l, kept) {
			t.Errorf("%v has become %v", kept, l)
		}
	}
}

// R3: what was asked ahead does not count.
func TestSameAgain(t *testing.T) {
	l := slices.Values([]int{3, 9, 4})
	for range 3 {
		if sum, most, e := ratio.Sums(l); sum != 16 || most != 9 || e != api.OK {
			t.Errorf("Sums = %d, %d, %v", sum, most, e)
		}
		ratio.Sums(stubborn(-1, 5))
		ratio.Sum(math.MaxInt, 1)
	}
}
