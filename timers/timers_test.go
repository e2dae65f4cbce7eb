package timers_test

import (
	"cmp"
	"iter"
	"math"
	"slices"
	"testing"

	"metronome/api"
	"metronome/timers"
)

const horizon = 1099511627776 // the document's number, not the package's

// timer is a number, and its time.
type timer struct{ id, at int }

// state is all that a queue can be asked for; timers in order.
type state struct {
	now, worst int
	armed      []timer
}

func made(t *testing.T, most int, l ...timer) *timers.Queue {
	t.Helper()
	q, e := timers.New(most)
	if q == nil || e != api.OK {
		t.Fatalf("New(%d) = %v, %v", most, q, e)
	}
	for _, x := range l {
		if e := q.Arm(x.id, x.at); e != api.OK {
			t.Fatalf("Arm(%d, %d) = %v", x.id, x.at, e)
		}
	}
	return q
}

func collect(s iter.Seq2[int, int]) []timer {
	var l []timer
	for id, at := range s {
		l = append(l, timer{id, at})
	}
	return l
}

// holds checks all that a queue answers; it leaves the queue as it is.
func holds(t *testing.T, q *timers.Queue, want state) {
	t.Helper()
	if q.Now() != want.now || q.Worst() != want.worst {
		t.Fatalf("Now %d, Worst %d; want %d, %d", q.Now(), q.Worst(), want.now, want.worst)
	}
	if got := collect(q.Armed()); !slices.Equal(got, want.armed) {
		t.Fatalf("Armed = %v; want %v", got, want.armed)
	}
	at, e := q.Next()
	if len(want.armed) == 0 && (at != 0 || e != api.ErrNone) {
		t.Fatalf("Next = %d, %v; want ErrNone", at, e)
	}
	if len(want.armed) > 0 && (at != want.armed[0].at || e != api.OK) {
		t.Fatalf("Next = %d, %v; want %d", at, e, want.armed[0].at)
	}
	for _, x := range want.armed {
		if at, e := q.When(x.id); at != x.at || e != api.OK {
			t.Fatalf("When(%d) = %d, %v; want %d", x.id, at, e, x.at)
		}
	}
}

// due checks one Due that is no error.
func due(t *testing.T, q *timers.Queue, now int, want ...timers.Fired) {
	t.Helper()
	if l, e := q.Due(now); e != api.OK || !slices.Equal(l, want) {
		t.Fatalf("Due(%d) = %v, %v; want %v", now, l, e, want)
	}
}

// sorted is the order of the document, by a sort of its own.
func sorted(there map[int]int) []timer {
	var out []timer
	for id, at := range there {
		out = append(out, timer{id, at})
	}
	slices.SortFunc(out, func(a, b timer) int {
		return cmp.Or(cmp.Compare(a.at, b.at), cmp.Compare(a.id, b.id))
	})
	return out
}

// TestExample is the document's.
func TestExample(t *testing.T) {
	q := made(t, 3, timer{3, 10}, timer{1, 10}, timer{2, 4})
	due(t, q, 12, timers.Fired{ID: 2, At: 4, Late: 8}, timers.Fired{ID: 1, At: 10, Late: 2}, timers.Fired{ID: 3, At: 10, Late: 2})
	holds(t, q, state{now: 12, worst: 8})
}

// P5.1

func TestNew(t *testing.T) {
	for _, c := range []struct {
		most int
		e    api.Errno
	}{
		{math.MinInt, api.ErrArg}, {-1024, api.ErrArg}, {-1, api.ErrArg}, {0, api.ErrArg},
		{1, api.OK}, {2, api.OK}, {64, api.OK}, {1023, api.OK}, {1024, api.OK},
		{1025, api.ErrArg}, {math.MaxInt, api.ErrArg},
	} {
		q, e := timers.New(c.most)
		if e != c.e || (q == nil) != (e != api.OK) {
			t.Errorf("New(%d) = %v, %v; want %v", c.most, q, e, c.e)
		}
		if e == api.OK {
			holds(t, q, state{})
		}
	}
}

// TestMost: a queue has room for so many as New was told, and for no more.
func TestMost(t *testing.T) {
	for _, most := range []int{1, 2, 3, 64, 1023, 1024} {
		q := made(t, most)
		var want []timer
		for n := range most {
			want = append(want, timer{n, n / 2})
			if e := q.Arm(n, n/2); e != api.OK {
				t.Fatalf("most %d: Arm number %d = %v", most, n, e)
			}
		}
		for _, id := range []int{most, most + 1, math.MaxInt} {
			if e := q.Arm(id, 0); e != api.ErrFull {
				t.Errorf("most %d: one more = %v; want ErrFull", most, e)
			}
		}
		holds(t, q, state{armed: want})
		// Room comes back, by Cancel and by Due.
		if e := q.Cancel(most - 1); e != api.OK {
			t.Errorf("most %d: Cancel = %v", most, e)
		}
		if e, f := q.Arm(most, 9), q.Arm(most+1, 9); e != api.OK || f != api.ErrFull {
			t.Errorf("most %d: behind Cancel %v and %v; want OK and ErrFull", most, e, f)
		}
		if l, e := q.Due(horizon - 1); len(l) != most || e != api.OK {
			t.Errorf("most %d: %d are due, %v", most, len(l), e)
		}
		for n := range most {
			if e := q.Arm(n+most, 5); e != api.OK {
				t.Fatalf("most %d: behind Due Arm number %d = %v", most, n, e)
			}
		}
		if e := q.Arm(0, 5); e != api.ErrFull {
			t.Errorf("most %d: behind Due one more = %v; want ErrFull", most, e)
		}
	}
}

func TestArm(t *testing.T) {
	q := made(t, 9)
	for _, c := range []struct {
		x    timer
		want []timer
	}{
		{timer{3, 10}, []timer{{3, 10}}},
		{timer{1, 10}, []timer{{1, 10}, {3, 10}}},
		{timer{2, 4}, []timer{{2, 4}, {1, 10}, {3, 10}}},
		{timer{0, 0}, []timer{{0, 0}, {2, 4}, {1, 10}, {3, 10}}},
		{timer{math.MaxInt, horizon - 1}, []timer{{0, 0}, {2, 4}, {1, 10}, {3, 10}, {math.MaxInt, horizon - 1}}},
		// anew: earlier, later, at its own time, to the end of time and back
		{timer{3, 3}, []timer{{0, 0}, {3, 3}, {2, 4}, {1, 10}, {math.MaxInt, horizon - 1}}},
		{timer{3, 11}, []timer{{0, 0}, {2, 4}, {1, 10}, {3, 11}, {math.MaxInt, horizon - 1}}},
		{timer{3, 11}, []timer{{0, 0}, {2, 4}, {1, 10}, {3, 11}, {math.MaxInt, horizon - 1}}},
		{timer{2, 10}, []timer{{0, 0}, {1, 10}, {2, 10}, {3, 11}, {math.MaxInt, horizon - 1}}},
		{timer{0, horizon - 1}, []timer{{1, 10}, {2, 10}, {3, 11}, {0, horizon - 1}, {math.MaxInt, horizon - 1}}},
		{timer{0, 0}, []timer{{0, 0}, {1, 10}, {2, 10}, {3, 11}, {math.MaxInt, horizon - 1}}},
		{timer{0, 0}, []timer{{0, 0}, {1, 10}, {2, 10}, {3, 11}, {math.MaxInt, horizon - 1}}},
	} {
		if e := q.Arm(c.x.id, c.x.at); e != api.OK {
			t.Errorf("Arm(%v) = %v", c.x, e)
		}
		holds(t, q, state{armed: c.want})
	}
}

// TestArmAnewWhenFull: one that is armed needs no room.
func TestArmAnewWhenFull(t *testing.T) {
	one := made(t, 1, timer{0, 0})
	for _, at := range []int{0, 7, 7, 3, horizon - 1, 0} {
		if e := one.Arm(0, at); e != api.OK {
			t.Errorf("Arm(0, %d) = %v", at, e)
		}
		holds(t, one, state{armed: []timer{{0, at}}})
	}
	q := made(t, 3, timer{3, 10}, timer{1, 10}, timer{2, 4})
	for _, c := range []struct {
		x    timer
		want []timer
	}{
		{timer{1, 10}, []timer{{2, 4}, {1, 10}, {3, 10}}},
		{timer{3, 1}, []timer{{3, 1}, {2, 4}, {1, 10}}},
		{timer{2, 12}, []timer{{3, 1}, {1, 10}, {2, 12}}},
		{timer{1, 12}, []timer{{3, 1}, {1, 12}, {2, 12}}},
	} {
		if e := q.Arm(c.x.id, c.x.at); e != api.OK {
			t.Errorf("Arm(%v) = %v", c.x, e)
		}
		holds(t, q, state{armed: c.want})
		if e := q.Arm(0, 0); e != api.ErrFull {
			t.Errorf("behind Arm(%v) one more = %v; want ErrFull", c.x, e)
		}
	}
}

// TestArmWrong: what may not be armed, into a queue with room and into a full one; nothing is changed.
func TestArmWrong(t *testing.T) {
	for _, c := range []struct {
		id, at     int
		room, full api.Errno
	}{
		{-1, 5, api.ErrArg, api.ErrArg},
		{math.MinInt, 5, api.ErrArg, api.ErrArg},
		{1, -1, api.ErrRange, api.ErrRange},
		{1, math.MinInt, api.ErrRange, api.ErrRange},
		{1, horizon, api.ErrHorizon, api.ErrHorizon},
		{1, math.MaxInt, api.ErrHorizon, api.ErrHorizon},
		// Several apply: the one that is named first is answered.
		{-1, -1, api.ErrArg, api.ErrArg},
		{-1, horizon, api.ErrArg, api.ErrArg},
		{math.MinInt, math.MinInt, api.ErrArg, api.ErrArg},
		{8, -1, api.ErrRange, api.ErrRange},
		{8, horizon, api.ErrHorizon, api.ErrHorizon},
		{8, 5, api.OK, api.ErrFull},
	} {
		want := state{now: 6, worst: 4, armed: []timer{{2, 4}, {1, 10}, {3, 10}}}
		for _, most := range []int{3, 4} {
			q := made(t, most, timer{1, 2}, timer{3, 10})
			q.Due(6)
			q.Arm(2, 4)
			q.Arm(1, 10)
			e := q.Arm(c.id, c.at)
			if most == 3 && e != c.full || most == 4 && e != c.room {
				t.Errorf("Arm(%d, %d) of most %d = %v; want %v, or when full %v", c.id, c.at, most, e, c.room, c.full)
			}
			if e != api.OK {
				holds(t, q, want)
			}
		}
	}
}

// TestArmAroundTheClock: a time behind the clock, at it and ahead of it may be a timer's.
func TestArmAroundTheClock(t *testing.T) {
	q := made(t, 9)
	due(t, q, 20)
	for _, x := range []timer{{1, 21}, {2, 20}, {3, 19}, {4, 0}, {5, horizon - 1}} {
		if e := q.Arm(x.id, x.at); e != api.OK {
			t.Errorf("Arm(%v) = %v", x, e)
		}
	}
	holds(t, q, state{now: 20, armed: []timer{{4, 0}, {3, 19}, {2, 20}, {1, 21}, {5, horizon - 1}}})
	due(t, q, 20, timers.Fired{ID: 4, At: 0, Late: 20}, timers.Fired{ID: 3, At: 19, Late: 1}, timers.Fired{ID: 2, At: 20})
	holds(t, q, state{now: 20, worst: 20, armed: []timer{{1, 21}, {5, horizon - 1}}})
	// One that is armed anew behind the clock is due, and one that is put off is not.
	q.Arm(5, 3)
	q.Arm(1, 22)
	due(t, q, 21, timers.Fired{ID: 5, At: 3, Late: 18})
	holds(t, q, state{now: 21, worst: 20, armed: []timer{{1, 22}}})
}

func TestCancel(t *testing.T) {
	q := made(t, 4, timer{3, 10}, timer{1, 10}, timer{2, 4}, timer{0, 0})
	for _, c := range []struct {
		id   int
		e    api.Errno
		want []timer
	}{
		{4, api.ErrNone, []timer{{0, 0}, {2, 4}, {1, 10}, {3, 10}}},
		{-1, api.ErrNone, []timer{{0, 0}, {2, 4}, {1, 10}, {3, 10}}},
		{math.MinInt, api.ErrNone, []timer{{0, 0}, {2, 4}, {1, 10}, {3, 10}}},
		{math.MaxInt, api.ErrNone, []timer{{0, 0}, {2, 4}, {1, 10}, {3, 10}}},
		{1, api.OK, []timer{{0, 0}, {2, 4}, {3, 10}}},
		{1, api.ErrNone, []timer{{0, 0}, {2, 4}, {3, 10}}},
		{0, api.OK, []timer{{2, 4}, {3, 10}}},
		{3, api.OK, []timer{{2, 4}}},
		{2, api.OK, nil},
		{2, api.ErrNone, nil},
	} {
		if e := q.Cancel(c.id); e != c.e {
			t.Errorf("Cancel(%d) = %v; want %v", c.id, e, c.e)
		}
		if _, e := q.When(c.id); e != api.ErrNone {
			t.Errorf("behind Cancel(%d) When = %v; want ErrNone", c.id, e)
		}
		holds(t, q, state{armed: c.want})
	}
	due(t, q, 50)
	holds(t, q, state{now: 50})
}

// TestNotArmed: one that never was, one that was due, and one that is cancelled.
func TestNotArmed(t *testing.T) {
	q := made(t, 4, timer{1, 5}, timer{2, 9}, timer{3, 9})
	due(t, q, 5, timers.Fired{ID: 1, At: 5})
	q.Cancel(2)
	for _, id := range []int{0, 1, 2, 4, -1, math.MinInt, math.MaxInt} {
		if at, e := q.When(id); at != 0 || e != api.ErrNone {
			t.Errorf("When(%d) = %d, %v; want ErrNone", id, at, e)
		}
		if e := q.Cancel(id); e != api.ErrNone {
			t.Errorf("Cancel(%d) = %v; want ErrNone", id, e)
		}
		holds(t, q, state{now: 5, armed: []timer{{3, 9}}})
	}
}

// TestNoTimers: a queue that never had any, and queues that have none any more.
func TestNoTimers(t *testing.T) {
	cancelled := made(t, 2, timer{1, 5}, timer{2, 6})
	cancelled.Cancel(1)
	cancelled.Cancel(2)
	answered := made(t, 2, timer{1, 5}, timer{2, 6})
	due(t, answered, 6, timers.Fired{ID: 1, At: 5, Late: 1}, timers.Fired{ID: 2, At: 6})
	for name, c := range map[string]struct {
		q    *timers.Queue
		want state
	}{
		"new":       {made(t, 2), state{}},
		"cancelled": {cancelled, state{}},
		"answered":  {answered, state{now: 6, worst: 1}},
	} {
		holds(t, c.q, c.want)
		if armed := c.q.Armed(); armed == nil || len(collect(armed)) != 0 {
			t.Errorf("%s: Armed is nil, or goes through something", name)
		}
		holds(t, c.q.Copy(), c.want)
		due(t, c.q, c.want.now)
		due(t, c.q, 8)
		c.want.now = 8
		holds(t, c.q, c.want)
		if e := c.q.Arm(1, 9); e != api.OK {
			t.Errorf("%s: nothing can be armed: %v", name, e)
		}
	}
}

// TestOneTime: of one time the smaller number is ahead, however they came.
func TestOneTime(t *testing.T) {
	want := []timer{{0, 4}, {1, 4}, {2, 4}, {3, 4}, {40, 4}}
	for turn := range want {
		l := slices.Concat(want[turn:], want[:turn])
		holds(t, made(t, 5, l...), state{armed: want})
		slices.Reverse(l)
		q := made(t, 5, l...)
		holds(t, q, state{armed: want})
		due(t, q, 4, timers.Fired{ID: 0, At: 4}, timers.Fired{ID: 1, At: 4}, timers.Fired{ID: 2, At: 4}, timers.Fired{ID: 3, At: 4}, timers.Fired{ID: 40, At: 4})
	}
}

// TestNext: the time of the first one, ahead of a Due and behind it.
func TestNext(t *testing.T) {
	q := made(t, 5, timer{1, 30}, timer{2, 10}, timer{3, 20})
	for _, c := range []struct {
		now, next int
		e         api.Errno
	}{
		{0, 10, api.OK}, {9, 10, api.OK}, {10, 20, api.OK}, {19, 20, api.OK}, {25, 30, api.OK}, {29, 30, api.OK}, {30, 0, api.ErrNone}, {31, 0, api.ErrNone},
	} {
		if _, e := q.Due(c.now); e != api.OK {
			t.Errorf("Due(%d) = %v", c.now, e)
		}
		for range 2 { // asking changes nothing
			if at, e := q.Next(); at != c.next || e != c.e {
				t.Errorf("behind Due(%d) Next = %d, %v; want %d, %v", c.now, at, e, c.next, c.e)
			}
		}
	}
	// Next is the first one's time though the clock is past it.
	q.Arm(1, 3)
	if at, e := q.Next(); at != 3 || e != api.OK {
		t.Errorf("Next = %d, %v; want 3", at, e)
	}
	q.Arm(2, 0)
	if at, e := q.Next(); at != 0 || e != api.OK {
		t.Errorf("Next = %d, %v; want 0", at, e)
	}
}

// changes are what may be done to a queue with the timers 2 at 4, 1 and 3 at 10, and 4 at the last time.
func changes() map[string]func(q *timers.Queue) api.Errno {
	return map[string]func(q *timers.Queue) api.Errno{
		"nothing":        func(*timers.Queue) api.Errno { return api.OK },
		"armed":          func(q *timers.Queue) api.Errno { return q.Arm(9, 5) },
		"armed anew":     func(q *timers.Queue) api.Errno { return q.Arm(3, 1) },
		"put off":        func(q *timers.Queue) api.Errno { return q.Arm(2, 50) },
		"cancelled":      func(q *timers.Queue) api.Errno { return q.Cancel(1) },
		"cancelled last": func(q *timers.Queue) api.Errno { return q.Cancel(4) },
		"some due":       func(q *timers.Queue) api.Errno { _, e := q.Due(10); return e },
		"all due":        func(q *timers.Queue) api.Errno { _, e := q.Due(horizon - 1); return e },
	}
}

func TestArmedAsItWas(t *testing.T) {
	want := []timer{{2, 4}, {1, 10}, {3, 10}, {4, horizon - 1}}
	for name, change := range changes() {
		q := made(t, 5, want...)
		armed := q.Armed()
		if e := change(q); e != api.OK {
			t.Errorf("%s: %v", name, e)
		}
		for range 2 { // it may be gone through again
			if got := collect(armed); !slices.Equal(got, want) {
				t.Errorf("%s: Armed = %v; want %v", name, got, want)
			}
		}
	}
	q := made(t, 5)
	armed := q.Armed()
	q.Arm(1, 1)
	if got := collect(armed); len(got) != 0 {
		t.Errorf("Armed of none = %v", got)
	}
}

// TestArmedChangedOnTheWay: a loop through Armed may turn the queue under it.
func TestArmedChangedOnTheWay(t *testing.T) {
	q := made(t, 8, timer{2, 4}, timer{1, 10}, timer{3, 10}, timer{4, 12})
	var got []timer
	for id, at := range q.Armed() {
		got = append(got, timer{id, at})
		q.Cancel(id)
		q.Arm(id+10, 20)
		q.Due(5)
	}
	if want := []timer{{2, 4}, {1, 10}, {3, 10}, {4, 12}}; !slices.Equal(got, want) {
		t.Errorf("Armed = %v; want %v", got, want)
	}
	holds(t, q, state{now: 5, armed: []timer{{11, 20}, {12, 20}, {13, 20}, {14, 20}}})
}

func TestArmedLeftEarly(t *testing.T) {
	want := []timer{{2, 4}, {1, 10}, {3, 10}, {4, 12}}
	q := made(t, 4, want...)
	armed := q.Armed()
	for n := 1; n <= len(want); n++ {
		var got []timer
		// Called by hand: a range would panic where it goes on though it is told to stop.
		armed(func(id, at int) bool {
			got = append(got, timer{id, at})
			return len(got) < n
		})
		if !slices.Equal(got, want[:n]) {
			t.Errorf("Armed, left behind %d, = %v; want %v", n, got, want[:n])
		}
	}
	holds(t, q, state{armed: want})
}

// P5.2

func TestDue(t *testing.T) {
	q := made(t, 9, timer{3, 10}, timer{1, 10}, timer{2, 4}, timer{0, 0}, timer{7, 30}, timer{8, horizon - 1})
	for _, c := range []struct {
		now  int
		l    []timers.Fired
		want state
	}{
		{0, []timers.Fired{{ID: 0}}, state{armed: []timer{{2, 4}, {1, 10}, {3, 10}, {7, 30}, {8, horizon - 1}}}},
		{0, nil, state{armed: []timer{{2, 4}, {1, 10}, {3, 10}, {7, 30}, {8, horizon - 1}}}},
		{3, nil, state{now: 3, armed: []timer{{2, 4}, {1, 10}, {3, 10}, {7, 30}, {8, horizon - 1}}}},
		{4, []timers.Fired{{ID: 2, At: 4}}, state{now: 4, armed: []timer{{1, 10}, {3, 10}, {7, 30}, {8, horizon - 1}}}},
		{4, nil, state{now: 4, armed: []timer{{1, 10}, {3, 10}, {7, 30}, {8, horizon - 1}}}},
		{9, nil, state{now: 9, armed: []timer{{1, 10}, {3, 10}, {7, 30}, {8, horizon - 1}}}},
		{11, []timers.Fired{{ID: 1, At: 10, Late: 1}, {ID: 3, At: 10, Late: 1}}, state{now: 11, worst: 1, armed: []timer{{7, 30}, {8, horizon - 1}}}},
		{horizon - 2, []timers.Fired{{ID: 7, At: 30, Late: horizon - 32}}, state{now: horizon - 2, worst: horizon - 32, armed: []timer{{8, horizon - 1}}}},
		{horizon - 1, []timers.Fired{{ID: 8, At: horizon - 1}}, state{now: horizon - 1, worst: horizon - 32}},
		{horizon - 1, nil, state{now: horizon - 1, worst: horizon - 32}},
	} {
		due(t, q, c.now, c.l...)
		holds(t, q, c.want)
	}
}

// TestDueOfAll: all at once, in order.
func TestDueOfAll(t *testing.T) {
	q := made(t, 1024)
	for id := range 1024 {
		q.Arm(id, id*389%512)
	}
	l, e := q.Due(600)
	if e != api.OK || len(l) != 1024 {
		t.Fatalf("Due = %d, %v", len(l), e)
	}
	for i, f := range l {
		if f.At != i/2 || f.Late != 600-f.At || f.ID*389%512 != f.At || i%2 == 1 && f.ID != l[i-1].ID+512 {
			t.Fatalf("number %d is %v", i, f)
		}
	}
	holds(t, q, state{now: 600, worst: 600})
}

// TestDueAtTheClockTwice: the clock's own time may be asked again, and answers what was armed since.
func TestDueAtTheClockTwice(t *testing.T) {
	q := made(t, 4, timer{1, 5}, timer{2, 8})
	due(t, q, 5, timers.Fired{ID: 1, At: 5})
	due(t, q, 5)
	q.Arm(1, 5)
	q.Arm(3, 2)
	due(t, q, 5, timers.Fired{ID: 3, At: 2, Late: 3}, timers.Fired{ID: 1, At: 5})
	due(t, q, 5)
	holds(t, q, state{now: 5, worst: 3, armed: []timer{{2, 8}}})
}

func TestDueWrong(t *testing.T) {
	for _, c := range []struct {
		now int
		e   api.Errno
	}{
		{19, api.ErrRange},
		{0, api.ErrRange},
		{-1, api.ErrRange},
		{math.MinInt, api.ErrRange},
		{horizon, api.ErrHorizon},
		{math.MaxInt, api.ErrHorizon},
	} {
		q := made(t, 4, timer{1, 15}, timer{2, 30})
		q.Due(20)
		q.Arm(3, 2)
		if l, e := q.Due(c.now); len(l) != 0 || e != c.e {
			t.Errorf("Due(%d) = %v, %v; want %v", c.now, l, e, c.e)
		}
		holds(t, q, state{now: 20, worst: 5, armed: []timer{{3, 2}, {2, 30}}})
	}
	q := made(t, 4, timer{1, 0})
	for now, want := range map[int]api.Errno{-1: api.ErrRange, horizon: api.ErrHorizon} {
		if l, e := q.Due(now); len(l) != 0 || e != want {
			t.Errorf("Due(%d) of a new clock = %v, %v; want %v", now, l, e, want)
		}
		holds(t, q, state{armed: []timer{{1, 0}}})
	}
}

// TestDueIsTheCallers: writing into an answer changes neither the queue nor another answer.
func TestDueIsTheCallers(t *testing.T) {
	q := made(t, 4, timer{1, 5}, timer{2, 6}, timer{3, 9})
	a, _ := q.Due(7)
	_ = append(a, timers.Fired{ID: 7, At: 7, Late: 7})
	a[0] = timers.Fired{ID: 9, At: 9, Late: 9}
	q.Arm(1, 5)
	b, _ := q.Due(10)
	b[1] = timers.Fired{}
	holds(t, q, state{now: 10, worst: 5})
	if !slices.Equal(a, []timers.Fired{{ID: 9, At: 9, Late: 9}, {ID: 2, At: 6, Late: 1}}) || !slices.Equal(b, []timers.Fired{{ID: 1, At: 5, Late: 5}, {}}) {
		t.Errorf("answers %v and %v", a, b)
	}
}

// TestWorst: the latest one that was ever answered, be it neither the last one nor the first.
func TestWorst(t *testing.T) {
	q := made(t, 4)
	for _, c := range []struct{ at, now, worst int }{
		{5, 5, 0}, {7, 10, 3}, {11, 12, 3}, {10, 13, 3}, {10, 14, 4}, {20, 20, 4}, {0, 20, 20}, {20, 30, 20},
	} {
		q.Arm(1, c.at)
		due(t, q, c.now, timers.Fired{ID: 1, At: c.at, Late: c.now - c.at})
		holds(t, q, state{now: c.now, worst: c.worst})
	}
	// One that is cancelled, or put off, was not answered, however late it would have been.
	q.Arm(1, 0)
	q.Cancel(1)
	q.Arm(2, 0)
	q.Arm(2, 40)
	due(t, q, 40, timers.Fired{ID: 2, At: 40})
	holds(t, q, state{now: 40, worst: 20})
	// What is armed behind the clock is not yet answered.
	q.Arm(3, 1)
	holds(t, q, state{now: 40, worst: 20, armed: []timer{{3, 1}}})
}

func TestCopy(t *testing.T) {
	q := made(t, 4, timer{9, 3}, timer{1, 10}, timer{2, 12})
	due(t, q, 5, timers.Fired{ID: 9, At: 3, Late: 2})
	q.Arm(3, 12)
	was := state{now: 5, worst: 2, armed: []timer{{1, 10}, {2, 12}, {3, 12}}}
	c := q.Copy()
	if c == nil || c == q {
		t.Fatal("a copy is nil, or the same queue")
	}
	holds(t, c, was)
	armed := c.Armed()
	c.Arm(1, 30)
	c.Cancel(2)
	c.Arm(7, 6)
	due(t, c, 13, timers.Fired{ID: 7, At: 6, Late: 7}, timers.Fired{ID: 3, At: 12, Late: 1})
	turned := state{now: 13, worst: 7, armed: []timer{{1, 30}}}
	holds(t, c, turned)
	holds(t, q, was)
	due(t, q, 11, timers.Fired{ID: 1, At: 10, Late: 1})
	q.Arm(8, 40)
	q.Arm(2, 41)
	holds(t, q, state{now: 11, worst: 2, armed: []timer{{3, 12}, {8, 40}, {2, 41}}})
	holds(t, c, turned)
	if got := collect(armed); !slices.Equal(got, was.armed) {
		t.Errorf("Armed of the copy = %v; want %v", got, was.armed)
	}
	holds(t, c.Copy(), turned)
}

// TestCopyHasItsMost: a copy has room for as many, and each its own room.
func TestCopyHasItsMost(t *testing.T) {
	q := made(t, 2, timer{1, 5})
	c := q.Copy()
	for name, x := range map[string]*timers.Queue{"origin": q, "copy": c} {
		if e, f := x.Arm(2, 6), x.Arm(3, 7); e != api.OK || f != api.ErrFull {
			t.Errorf("%s: %v and %v; want OK and ErrFull", name, e, f)
		}
		holds(t, x, state{armed: []timer{{1, 5}, {2, 6}}})
	}
}

func TestNil(t *testing.T) {
	var q *timers.Queue
	// Wrong inputs too: ErrNil is ahead of all other errors.
	for _, id := range []int{0, 1, -1, math.MinInt, math.MaxInt} {
		for _, at := range []int{0, 1, -1, horizon, math.MinInt, math.MaxInt} {
			if e := q.Arm(id, at); e != api.ErrNil {
				t.Errorf("Arm(%d, %d) = %v; want ErrNil", id, at, e)
			}
			if l, e := q.Due(at); len(l) != 0 || e != api.ErrNil {
				t.Errorf("Due(%d) = %v, %v; want ErrNil", at, l, e)
			}
		}
		if e := q.Cancel(id); e != api.ErrNil {
			t.Errorf("Cancel(%d) = %v; want ErrNil", id, e)
		}
		if at, e := q.When(id); at != 0 || e != api.ErrNil {
			t.Errorf("When(%d) = %d, %v; want ErrNil", id, at, e)
		}
	}
	if at, e := q.Next(); at != 0 || e != api.ErrNil {
		t.Errorf("Next = %d, %v; want ErrNil", at, e)
	}
	if q.Now() != 0 || q.Worst() != 0 {
		t.Errorf("Now %d, Worst %d; want 0", q.Now(), q.Worst())
	}
	if armed := q.Armed(); armed == nil || len(collect(armed)) != 0 {
		t.Error("Armed is nil, or goes through something")
	}
	if c := q.Copy(); c != nil {
		t.Errorf("Copy = %v; want nil", c)
	}
}

// P5.3

// TestAnsweredOnce: at the first Due of a time that is no earlier, and at no other, as long as it is neither cancelled nor armed anew.
func TestAnsweredOnce(t *testing.T) {
	for at := range 12 {
		q := made(t, 4, timer{1, at}, timer{2, at}, timer{3, at})
		q.Cancel(2)
		q.Arm(3, at+5)
		times := map[int][]int{}
		for _, now := range []int{0, 0, 2, 3, 3, 7, 8, 15, 15, 30} {
			l, e := q.Due(now)
			if e != api.OK {
				t.Fatalf("Due(%d) = %v", now, e)
			}
			for _, f := range l {
				times[f.ID] = append(times[f.ID], now)
			}
		}
		first := func(at int) []int {
			for _, now := range []int{0, 2, 3, 7, 8, 15, 30} {
				if now >= at {
					return []int{now}
				}
			}
			return nil
		}
		if !slices.Equal(times[1], first(at)) || len(times[2]) != 0 || !slices.Equal(times[3], first(at+5)) {
			t.Errorf("armed at %d: %v", at, times)
		}
	}
}

// TestDueAtEachNext: nothing is late that was not armed behind the clock.
func TestDueAtEachNext(t *testing.T) {
	throw := dice()
	q := made(t, 20)
	for n := range 2000 {
		for range throw(3) {
			q.Arm(throw(30), q.Now()+throw(50))
		}
		if throw(4) == 0 {
			q.Cancel(throw(30))
		}
		at, e := q.Next()
		if e != api.OK {
			continue
		}
		l, e := q.Due(at)
		if e != api.OK || len(l) == 0 {
			t.Fatalf("step %d: Due at Next, %d, = %v, %v", n, at, l, e)
		}
		for _, f := range l {
			if f.At != at || f.Late != 0 {
				t.Fatalf("step %d: Due(%d) answers %v", n, at, f)
			}
		}
	}
	if q.Worst() != 0 || q.Now() == 0 {
		t.Errorf("Now %d, Worst %d; want 0", q.Now(), q.Worst())
	}
	// Armed behind the clock it is late at once, though it is asked for as soon as can be.
	now := q.Now()
	q.Arm(0, now-7)
	l, e := q.Due(now)
	if e != api.OK || len(l) == 0 || l[0] != (timers.Fired{ID: 0, At: now - 7, Late: 7}) || q.Worst() != 7 {
		t.Errorf("behind the clock: %v, %v; Worst %d", l, e, q.Worst())
	}
}

// dice are numbers that look like thrown ones, the same in every run.
func dice() func(n int) int {
	state := uint64(1)
	return func(n int) int {
		state = state*6364136223846793005 + 1442695040888963407
		return int(state>>33) % n
	}
}

// model is a queue as plain as can be, to hold the other one against.
type model struct {
	most, now, worst int
	there            map[int]int
}

func timeError(at int) api.Errno {
	switch {
	case at < 0:
		return api.ErrRange
	case at >= horizon:
		return api.ErrHorizon
	}
	return api.OK
}

func (m *model) arm(id, at int) api.Errno {
	if id < 0 {
		return api.ErrArg
	}
	if e := timeError(at); e != api.OK {
		return e
	}
	if _, there := m.there[id]; !there && len(m.there) == m.most {
		return api.ErrFull
	}
	m.there[id] = at
	return api.OK
}

func (m *model) cancel(id int) api.Errno {
	if _, there := m.there[id]; !there {
		return api.ErrNone
	}
	delete(m.there, id)
	return api.OK
}

func (m *model) due(now int) ([]timers.Fired, api.Errno) {
	if e := timeError(now); e != api.OK {
		return nil, e
	}
	if now < m.now {
		return nil, api.ErrRange
	}
	m.now = now
	var l []timers.Fired
	for _, x := range sorted(m.there) {
		if x.at <= now {
			l = append(l, timers.Fired{ID: x.id, At: x.at, Late: now - x.at})
			m.worst = max(m.worst, now-x.at)
			delete(m.there, x.id)
		}
	}
	return l, api.OK
}

func (m *model) state() state {
	return state{now: m.now, worst: m.worst, armed: sorted(m.there)}
}

// thrown is a time about the clock, at times one that may not be.
func thrown(throw func(n int) int, now int) int {
	switch throw(40) {
	case 0:
		return -1 - throw(3)
	case 1:
		return horizon + throw(3)
	}
	return max(now+throw(30)-10, 0)
}

// step does one thing to both, and tells whether they answered the same.
func step(q *timers.Queue, m *model, throw func(n int) int) bool {
	id := throw(m.most*3/2+2) - throw(20)/19
	switch throw(8) {
	case 0, 1, 2, 3:
		at := thrown(throw, m.now)
		return q.Arm(id, at) == m.arm(id, at)
	case 4, 5:
		return q.Cancel(id) == m.cancel(id)
	case 6:
		now := thrown(throw, m.now)
		l, e := q.Due(now)
		want, wantE := m.due(now)
		return slices.Equal(l, want) && e == wantE
	}
	at, e := q.When(id)
	want, there := m.there[id]
	return at == want && (e == api.OK) == there && (e == api.ErrNone) == !there
}

// TestAgainstModel: long rows of calls, wrong ones among them, with room for few and for many.
func TestAgainstModel(t *testing.T) {
	for _, most := range []int{1, 2, 8, 40} {
		throw := dice()
		q, m := made(t, most), &model{most: most, there: map[int]int{}}
		for n := range 4000 {
			if !step(q, m, throw) {
				t.Fatalf("most %d, call %d is answered otherwise", most, n)
			}
			holds(t, q, m.state())
			if n%100 == 0 {
				holds(t, q.Copy(), m.state())
			}
		}
		if m.now == 0 || m.worst == 0 {
			t.Errorf("most %d: the clock stood at %d, Worst %d", most, m.now, m.worst)
		}
	}
}

// R3

// TestApart: two queues do not know of each other.
func TestApart(t *testing.T) {
	a, b := made(t, 2, timer{1, 5}), made(t, 2, timer{1, 6})
	a.Arm(2, 4)
	due(t, b, 9, timers.Fired{ID: 1, At: 6, Late: 3})
	holds(t, a, state{armed: []timer{{2, 4}, {1, 5}}})
	holds(t, b, state{now: 9, worst: 3})
}
