package num_test

import (
	"math"
	"math/big"
	"slices"
	"testing"

	"metronome/api"
	"metronome/num"
)

const horizon = 1099511627776 // the document's number, not the package's

// edges are the numbers near which answers turn: around 0, the times' end, the halves of 64 bits, and the ends of int.
func edges() []int {
	return []int{
		math.MinInt, math.MinInt + 1, -1 << 62, -1<<32 - 1, -1 << 32, -1 << 31, -3, -2, -1,
		0, 1, 2, 3, 7, 10, 1<<31 - 1, 1 << 31, 3037000499, 3037000500, 1<<32 - 1, 1 << 32, 1<<32 + 1,
		horizon - 1, horizon, horizon + 1, 1<<62 - 1, 1 << 62, 1<<62 + 1, math.MaxInt - 1, math.MaxInt,
	}
}

// atLeast0 are the edges that are no less than 0.
func atLeast0() []int {
	return slices.DeleteFunc(edges(), func(n int) bool { return n < 0 })
}

func wideEdges() []num.Wide {
	halves := []uint64{0, 1, 2, 1<<63 - 1, 1 << 63, math.MaxUint64 - 1, math.MaxUint64}
	var l []num.Wide
	for _, high := range halves {
		for _, low := range halves {
			l = append(l, num.Wide{High: high, Low: low})
		}
	}
	return l
}

func exact(n int) *big.Int { return big.NewInt(int64(n)) }

func exactProduct(a, b int) *big.Int { return new(big.Int).Mul(exact(a), exact(b)) }

func exactWide(w num.Wide) *big.Int {
	n := new(big.Int).SetUint64(w.High)
	n.Lsh(n, 64)
	return n.Add(n, new(big.Int).SetUint64(w.Low))
}

// fitting is what a call must answer whose exact answer is n.
func fitting(n *big.Int) (int, api.Errno) {
	if !n.IsInt64() {
		return 0, api.ErrOver
	}
	return int(n.Int64()), api.OK
}

// P1.1

func TestSum(t *testing.T) {
	for _, c := range []struct {
		l    []int
		want int
		e    api.Errno
	}{
		{nil, 0, api.OK},
		{[]int{}, 0, api.OK},
		{[]int{-7}, -7, api.OK},
		{[]int{1, 2, 3, -10}, -4, api.OK},
		{[]int{math.MaxInt}, math.MaxInt, api.OK},
		{[]int{math.MinInt}, math.MinInt, api.OK},
		{[]int{math.MaxInt - 1, 1}, math.MaxInt, api.OK},
		{[]int{math.MaxInt, 0}, math.MaxInt, api.OK},
		{[]int{math.MaxInt, 1}, 0, api.ErrOver},
		{[]int{math.MinInt + 1, -1}, math.MinInt, api.OK},
		{[]int{math.MinInt, 0}, math.MinInt, api.OK},
		{[]int{math.MinInt, -1}, 0, api.ErrOver},
		{[]int{math.MinInt, math.MinInt}, 0, api.ErrOver},
		{[]int{math.MaxInt, math.MaxInt}, 0, api.ErrOver},
		{[]int{math.MinInt, math.MaxInt, 1}, 0, api.OK},
	} {
		if n, e := num.Sum(c.l...); n != c.want || e != c.e {
			t.Errorf("Sum(%v) = %d, %v; want %d, %v", c.l, n, e, c.want, c.e)
		}
	}
}

// TestSumOfFirstOnes: what does not fit on the way is not mended by what comes behind.
func TestSumOfFirstOnes(t *testing.T) {
	for _, c := range []struct {
		l    []int
		want int
		e    api.Errno
	}{
		{[]int{math.MaxInt, 1, -1}, 0, api.ErrOver},
		{[]int{math.MaxInt, -1, 1}, math.MaxInt, api.OK},
		{[]int{math.MinInt, -1, 1}, 0, api.ErrOver},
		{[]int{math.MinInt, 1, -1}, math.MinInt, api.OK},
		{[]int{5, math.MaxInt, math.MinInt}, 0, api.ErrOver},
		{[]int{5, math.MinInt, math.MaxInt}, 4, api.OK},
	} {
		if n, e := num.Sum(c.l...); n != c.want || e != c.e {
			t.Errorf("Sum(%v) = %d, %v; want %d, %v", c.l, n, e, c.want, c.e)
		}
	}
}

func exactSum(l ...int) (int, api.Errno) {
	sum := new(big.Int)
	for _, n := range l {
		if sum.Add(sum, exact(n)); !sum.IsInt64() {
			return 0, api.ErrOver
		}
	}
	return fitting(sum)
}

func TestSumAtEdges(t *testing.T) {
	for _, a := range edges() {
		for _, b := range edges() {
			for _, c := range edges() {
				want, wantE := exactSum(a, b, c)
				if n, e := num.Sum(a, b, c); n != want || e != wantE {
					t.Fatalf("Sum(%d, %d, %d) = %d, %v; want %d, %v", a, b, c, n, e, want, wantE)
				}
			}
		}
	}
}

func TestMul(t *testing.T) {
	for _, c := range []struct {
		a, b, want int
		e          api.Errno
	}{
		{6, 7, 42, api.OK},
		{-6, 7, -42, api.OK},
		{-6, -7, 42, api.OK},
		{0, math.MaxInt, 0, api.OK},
		{math.MinInt, 0, 0, api.OK},
		{1 << 40, 1 << 30, 0, api.ErrOver},
		{1 << 31, 1 << 31, 1 << 62, api.OK},
		{1 << 32, 1 << 31, 0, api.ErrOver},
		{-1 << 32, 1 << 31, math.MinInt, api.OK},
		{1 << 32, -1 << 31, math.MinInt, api.OK},
		{-1 << 32, -1 << 31, 0, api.ErrOver},
		{-1<<32 - 1, 1 << 31, 0, api.ErrOver},
		{1 << 32, 1 << 32, 0, api.ErrOver}, // its low 64 bits are 0
		{math.MaxInt, 1, math.MaxInt, api.OK},
		{math.MaxInt, -1, -math.MaxInt, api.OK},
		{math.MinInt, 1, math.MinInt, api.OK},
		{math.MinInt, -1, 0, api.ErrOver},
		{-1, math.MinInt, 0, api.ErrOver},
		{math.MinInt, math.MinInt, 0, api.ErrOver},
		{math.MaxInt, math.MaxInt, 0, api.ErrOver},
		{3037000499, 3037000499, 9223372030926249001, api.OK}, // the greatest square that fits
		{3037000500, 3037000500, 0, api.ErrOver},
	} {
		if n, e := num.Mul(c.a, c.b); n != c.want || e != c.e {
			t.Errorf("Mul(%d, %d) = %d, %v; want %d, %v", c.a, c.b, n, e, c.want, c.e)
		}
	}
}

func TestMulAtEdges(t *testing.T) {
	for _, a := range edges() {
		for _, b := range edges() {
			want, wantE := fitting(exactProduct(a, b))
			if n, e := num.Mul(a, b); n != want || e != wantE {
				t.Errorf("Mul(%d, %d) = %d, %v; want %d, %v", a, b, n, e, want, wantE)
			}
		}
	}
}

// P1.2

func TestProduct(t *testing.T) {
	for _, c := range []struct {
		a, b int
		want num.Wide
		e    api.Errno
	}{
		{6, 7, num.Wide{Low: 42}, api.OK},
		{0, 0, num.Wide{}, api.OK},
		{0, math.MaxInt, num.Wide{}, api.OK},
		{1 << 62, 2, num.Wide{Low: 1 << 63}, api.OK},
		{1 << 62, 4, num.Wide{High: 1}, api.OK},
		{math.MaxInt, math.MaxInt, num.Wide{High: 1<<62 - 1, Low: 1}, api.OK},
		{-1, 7, num.Wide{}, api.ErrRange},
		{7, -1, num.Wide{}, api.ErrRange},
		{-1, -1, num.Wide{}, api.ErrRange},
		{0, -1, num.Wide{}, api.ErrRange},
		{math.MinInt, 0, num.Wide{}, api.ErrRange},
		{math.MinInt, math.MinInt, num.Wide{}, api.ErrRange},
	} {
		if w, e := num.Product(c.a, c.b); w != c.want || e != c.e {
			t.Errorf("Product(%d, %d) = %v, %v; want %v, %v", c.a, c.b, w, e, c.want, c.e)
		}
	}
}

func TestProductAtEdges(t *testing.T) {
	for _, a := range edges() {
		for _, b := range edges() {
			w, e := num.Product(a, b)
			if a < 0 || b < 0 {
				if w != (num.Wide{}) || e != api.ErrRange {
					t.Errorf("Product(%d, %d) = %v, %v", a, b, w, e)
				}
			} else if e != api.OK || exactWide(w).Cmp(exactProduct(a, b)) != 0 {
				t.Errorf("Product(%d, %d) = %v, %v", a, b, w, e)
			}
		}
	}
}

func TestWideAdd(t *testing.T) {
	const most = math.MaxUint64
	for _, c := range []struct {
		w, x, want num.Wide
		e          api.Errno
	}{
		{num.Wide{}, num.Wide{}, num.Wide{}, api.OK},
		{num.Wide{High: 1, Low: 2}, num.Wide{High: 3, Low: 4}, num.Wide{High: 4, Low: 6}, api.OK},
		{num.Wide{Low: most}, num.Wide{Low: 1}, num.Wide{High: 1}, api.OK},
		{num.Wide{High: most, Low: most}, num.Wide{}, num.Wide{High: most, Low: most}, api.OK},
		{num.Wide{High: most, Low: most - 1}, num.Wide{Low: 1}, num.Wide{High: most, Low: most}, api.OK},
		{num.Wide{High: most, Low: most}, num.Wide{Low: 1}, num.Wide{}, api.ErrOver}, // 2 to the 128th
		{num.Wide{High: 1 << 63}, num.Wide{High: 1 << 63}, num.Wide{}, api.ErrOver},  // and without a carry
		{num.Wide{High: most, Low: most}, num.Wide{High: most, Low: most}, num.Wide{}, api.ErrOver},
	} {
		if w, e := c.w.Add(c.x); w != c.want || e != c.e {
			t.Errorf("%v.Add(%v) = %v, %v; want %v, %v", c.w, c.x, w, e, c.want, c.e)
		}
	}
}

func TestWideAtEdges(t *testing.T) {
	for _, w := range wideEdges() {
		for _, x := range wideEdges() {
			if w.Less(x) != (exactWide(w).Cmp(exactWide(x)) < 0) {
				t.Errorf("%v.Less(%v) = %v", w, x, w.Less(x))
			}
			want := new(big.Int).Add(exactWide(w), exactWide(x))
			sum, e := w.Add(x)
			if want.BitLen() > 128 {
				if sum != (num.Wide{}) || e != api.ErrOver {
					t.Errorf("%v.Add(%v) = %v, %v; want ErrOver", w, x, sum, e)
				}
			} else if e != api.OK || exactWide(sum).Cmp(want) != 0 {
				t.Errorf("%v.Add(%v) = %v, %v; want %v", w, x, sum, e, want)
			}
		}
	}
}

func TestLess(t *testing.T) {
	for _, c := range []struct {
		a, b, c, d int
		want       bool
		e          api.Errno
	}{
		{2, 3, 7, 1, true, api.OK},
		{2, 3, 6, 1, false, api.OK},
		{2, 3, 5, 1, false, api.OK},
		{0, 0, 0, 0, false, api.OK},
		{1 << 40, 1 << 40, 1 << 41, 1 << 39, false, api.OK},
		{1 << 40, 1 << 40, 1 << 41, 1<<39 + 1, true, api.OK},
		{1 << 41, 1<<39 + 1, 1 << 40, 1 << 40, false, api.OK},
		{math.MaxInt, math.MaxInt - 1, math.MaxInt, math.MaxInt, true, api.OK},
		{math.MaxInt, 1, 1 << 62, 4, true, api.OK}, // the second one's low half is 0
		{-1, 1, 1, 1, false, api.ErrRange},
		{1, -1, 1, 1, false, api.ErrRange},
		{1, 1, -1, 1, false, api.ErrRange},
		{1, 1, 1, -1, false, api.ErrRange},
		{-1, 0, 0, 0, false, api.ErrRange},
		{0, 0, 0, -1, false, api.ErrRange},
		{math.MinInt, math.MinInt, 1, 1, false, api.ErrRange},
	} {
		if less, e := num.Less(c.a, c.b, c.c, c.d); less != c.want || e != c.e {
			t.Errorf("Less(%d, %d, %d, %d) = %v, %v; want %v, %v", c.a, c.b, c.c, c.d, less, e, c.want, c.e)
		}
	}
}

func TestLessAtEdges(t *testing.T) {
	for _, a := range atLeast0() {
		for _, b := range atLeast0() {
			for _, c := range atLeast0() {
				for _, d := range atLeast0() {
					want := exactProduct(a, b).Cmp(exactProduct(c, d)) < 0
					if less, e := num.Less(a, b, c, d); less != want || e != api.OK {
						t.Fatalf("Less(%d, %d, %d, %d) = %v, %v", a, b, c, d, less, e)
					}
				}
			}
		}
	}
}

func TestDiv(t *testing.T) {
	for _, c := range []struct {
		a, b, c    int
		down, up   int
		downE, upE api.Errno
	}{
		{7, 3, 2, 10, 11, api.OK, api.OK},
		{6, 4, 3, 8, 8, api.OK, api.OK},
		{0, 5, 7, 0, 0, api.OK, api.OK},
		{1, 1, math.MaxInt, 0, 1, api.OK, api.OK},
		{math.MaxInt, math.MaxInt, math.MaxInt, math.MaxInt, math.MaxInt, api.OK, api.OK},
		{math.MaxInt, 3, 3, math.MaxInt, math.MaxInt, api.OK, api.OK},
		{math.MaxInt, math.MaxInt - 1, math.MaxInt, math.MaxInt - 1, math.MaxInt - 1, api.OK, api.OK},
		{math.MaxInt, 1, 1, math.MaxInt, math.MaxInt, api.OK, api.OK},
		{1 << 62, 2, 1, 0, 0, api.ErrOver, api.ErrOver},                           // just does not fit
		{1 << 62, 4, 2, 0, 0, api.ErrOver, api.ErrOver},                           // nor through the high half
		{1 << 62, 4, 1, 0, 0, api.ErrOver, api.ErrOver},                           // more than 64 bits
		{math.MaxInt, math.MaxInt, 1, 0, 0, api.ErrOver, api.ErrOver},             // more than 64 bits
		{math.MaxInt, math.MaxInt, 1<<62 - 1, 0, 0, api.ErrOver, api.ErrOver},     // more than 64 bits
		{math.MaxInt, math.MaxInt, 1 << 62, 0, 0, api.ErrOver, api.ErrOver},       // 64 bits, with something left over
		{1<<33 - 1, 1<<33 + 1, 4, 0, 0, api.ErrOver, api.ErrOver},                 // all of 64 bits, and up would wrap round to 0
		{1<<62 + 1<<61, 4, 3, 0, 0, api.ErrOver, api.ErrOver},                     // 2 to the 63rd, nothing left over
		{6917529027641081855, 4, 3, math.MaxInt - 1, math.MaxInt, api.OK, api.OK}, // up to the greatest int
	} {
		if n, e := num.Div(c.a, c.b, c.c, false); n != c.down || e != c.downE {
			t.Errorf("Div(%d, %d, %d, down) = %d, %v; want %d, %v", c.a, c.b, c.c, n, e, c.down, c.downE)
		}
		if n, e := num.Div(c.a, c.b, c.c, true); n != c.up || e != c.upE {
			t.Errorf("Div(%d, %d, %d, up) = %d, %v; want %d, %v", c.a, c.b, c.c, n, e, c.up, c.upE)
		}
	}
}

// TestDivUpOver: what fits when it is rounded down need not fit when it is rounded up.
func TestDivUpOver(t *testing.T) {
	// The product is twice the greatest int, and 1.
	a, b, c := 3, 6148914691236517205, 2
	if n, e := num.Div(a, b, c, false); n != math.MaxInt || e != api.OK {
		t.Errorf("Div(down) = %d, %v", n, e)
	}
	if n, e := num.Div(a, b, c, true); n != 0 || e != api.ErrOver {
		t.Errorf("Div(up) = %d, %v; want ErrOver", n, e)
	}
}

func TestDivWrong(t *testing.T) {
	for _, c := range []struct {
		a, b, c int
		e       api.Errno
	}{
		{-1, 5, 3, api.ErrRange},
		{5, -1, 3, api.ErrRange},
		{5, 5, -1, api.ErrRange},
		{-1, -1, -1, api.ErrRange},
		{-1, 5, 0, api.ErrRange},
		{5, -1, 0, api.ErrRange},
		{0, 0, math.MinInt, api.ErrRange},
		{math.MaxInt, math.MaxInt, -1, api.ErrRange},
		{5, 5, 0, api.ErrZero},
		{0, 0, 0, api.ErrZero},
		{math.MaxInt, math.MaxInt, 0, api.ErrZero},
	} {
		for _, up := range []bool{false, true} {
			if n, e := num.Div(c.a, c.b, c.c, up); n != 0 || e != c.e {
				t.Errorf("Div(%d, %d, %d, %v) = %d, %v; want %v", c.a, c.b, c.c, up, n, e, c.e)
			}
		}
	}
}

func exactDiv(a, b, c int, up bool) (int, api.Errno) {
	if a < 0 || b < 0 || c < 0 {
		return 0, api.ErrRange
	}
	if c == 0 {
		return 0, api.ErrZero
	}
	n, rest := new(big.Int).QuoRem(exactProduct(a, b), exact(c), new(big.Int))
	if up && rest.Sign() > 0 {
		n.Add(n, big.NewInt(1))
	}
	return fitting(n)
}

func TestDivAtEdges(t *testing.T) {
	for _, a := range edges() {
		for _, b := range edges() {
			for _, c := range edges() {
				for _, up := range []bool{false, true} {
					want, wantE := exactDiv(a, b, c, up)
					if n, e := num.Div(a, b, c, up); n != want || e != wantE {
						t.Fatalf("Div(%d, %d, %d, %v) = %d, %v; want %d, %v", a, b, c, up, n, e, want, wantE)
					}
				}
			}
		}
	}
}

// P1.3

func TestTime(t *testing.T) {
	for _, c := range []struct {
		t int
		e api.Errno
	}{
		{0, api.OK},
		{1, api.OK},
		{horizon - 1, api.OK},
		{horizon, api.ErrHorizon},
		{horizon + 1, api.ErrHorizon},
		{math.MaxInt, api.ErrHorizon},
		{-1, api.ErrRange},
		{-horizon, api.ErrRange},
		{math.MinInt, api.ErrRange},
	} {
		if e := num.Time(c.t); e != c.e {
			t.Errorf("Time(%d) = %v; want %v", c.t, e, c.e)
		}
	}
}

func TestAfter(t *testing.T) {
	for _, c := range []struct {
		t, by, want int
		e           api.Errno
	}{
		{0, 0, 0, api.OK},
		{5, 6, 11, api.OK},
		{0, horizon - 1, horizon - 1, api.OK},
		{0, horizon, 0, api.ErrHorizon},
		{1, horizon - 2, horizon - 1, api.OK},
		{1, horizon - 1, 0, api.ErrHorizon},
		{horizon - 1, 0, horizon - 1, api.OK},
		{horizon - 1, 1, 0, api.ErrHorizon},
		{5, math.MaxInt, 0, api.ErrHorizon}, // together they do not fit
		{5, -1, 0, api.ErrRange},            // though together they are a time
		{5, math.MinInt, 0, api.ErrRange},
		{-1, 6, 0, api.ErrRange}, // though together they are a time
		{horizon, 0, 0, api.ErrHorizon},
		{math.MaxInt, math.MaxInt, 0, api.ErrHorizon},
		{horizon, -1, 0, api.ErrHorizon}, // the time's error is named first
		{math.MaxInt, math.MinInt, 0, api.ErrHorizon},
		{-1, horizon, 0, api.ErrRange},
		{-1, math.MaxInt, 0, api.ErrRange},
		{-1, -1, 0, api.ErrRange},
	} {
		if n, e := num.After(c.t, c.by); n != c.want || e != c.e {
			t.Errorf("After(%d, %d) = %d, %v; want %d, %v", c.t, c.by, n, e, c.want, c.e)
		}
	}
}

func exactAfter(t, by int) (int, api.Errno) {
	if e := num.Time(t); e != api.OK {
		return 0, e
	}
	if by < 0 {
		return 0, api.ErrRange
	}
	both := new(big.Int).Add(exact(t), exact(by))
	if both.Cmp(exact(horizon)) >= 0 {
		return 0, api.ErrHorizon
	}
	return fitting(both)
}

func TestAfterAtEdges(t *testing.T) {
	for _, at := range edges() {
		for _, by := range edges() {
			want, wantE := exactAfter(at, by)
			if n, e := num.After(at, by); n != want || e != wantE {
				t.Errorf("After(%d, %d) = %d, %v; want %d, %v", at, by, n, e, want, wantE)
			}
		}
	}
}

// P1.4

func TestOrderDoesNotMatter(t *testing.T) {
	for _, a := range edges() {
		for _, b := range edges() {
			ab, e := num.Sum(a, b)
			if ba, f := num.Sum(b, a); ab != ba || e != f {
				t.Errorf("Sum of %d and %d hangs on the order", a, b)
			}
			ab, e = num.Mul(a, b)
			if ba, f := num.Mul(b, a); ab != ba || e != f {
				t.Errorf("Mul of %d and %d hangs on the order", a, b)
			}
			w, e := num.Product(a, b)
			if x, f := num.Product(b, a); w != x || e != f {
				t.Errorf("Product of %d and %d hangs on the order", a, b)
			}
		}
	}
	for _, w := range wideEdges() {
		for _, x := range wideEdges() {
			wx, e := w.Add(x)
			if xw, f := x.Add(w); wx != xw || e != f {
				t.Errorf("Add of %v and %v hangs on the order", w, x)
			}
		}
	}
}

// TestSumOfThreeInAnyOrder: where two orders both fit, they answer the same.
func TestSumOfThreeInAnyOrder(t *testing.T) {
	for _, a := range edges() {
		for _, b := range edges() {
			for _, c := range edges() {
				n, e := num.Sum(a, b, c)
				m, f := num.Sum(c, b, a)
				if e == api.OK && f == api.OK && n != m {
					t.Fatalf("Sum of %d, %d and %d hangs on the order", a, b, c)
				}
			}
		}
	}
}

func TestDividedTimesDivisor(t *testing.T) {
	for _, a := range atLeast0() {
		for _, b := range atLeast0() {
			product, _ := num.Product(a, b)
			for _, c := range atLeast0() {
				if down, e := num.Div(a, b, c, false); e == api.OK {
					if back, _ := num.Product(down, c); product.Less(back) {
						t.Fatalf("Div(%d, %d, %d, down) = %d is too much", a, b, c, down)
					}
				}
				if up, e := num.Div(a, b, c, true); e == api.OK {
					if back, _ := num.Product(up, c); back.Less(product) {
						t.Fatalf("Div(%d, %d, %d, up) = %d is too little", a, b, c, up)
					}
				}
			}
		}
	}
}

func TestLaterIsLater(t *testing.T) {
	for _, at := range atLeast0() {
		for _, by := range atLeast0() {
			later, e := num.After(at, by)
			if e != api.OK {
				continue
			}
			if later < at || by > 0 && later == at || num.Time(later) != api.OK {
				t.Errorf("After(%d, %d) = %d", at, by, later)
			}
		}
	}
}

// R2 and R3

func TestSumLeavesItsNumbers(t *testing.T) {
	for _, room := range [][]int{{1, 2, 3, 4, 5}, {math.MaxInt, 1, 2, 3, 4}} {
		was := slices.Clone(room)
		n, e := num.Sum(room[:3]...)
		if !slices.Equal(room, was) {
			t.Errorf("Sum made %v of %v", room, was)
		}
		if m, f := num.Sum(room[:3]...); m != n || f != e {
			t.Errorf("Sum(%v) = %d, %v and then %d, %v", room[:3], n, e, m, f)
		}
	}
}
