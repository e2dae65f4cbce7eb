package ledger_test

import (
	"cmp"
	"fmt"
	"iter"
	"math"
	"reflect"
	"slices"
	"testing"

	"metronome/admit"
	"metronome/api"
	"metronome/ledger"
)

// The document's numbers, not the packages'.
const (
	one        = 1048576
	maxWorkers = 16
	maxThreads = 64
	maxDomains = 8
	maxPeriod  = 1073741824
	horizon    = 1099511627776
	last       = horizon - 1
)

// dice is a row of numbers that is the same in every run.
func dice(seed uint64) func(n int) int {
	state := 88172645463325252 + seed
	return func(n int) int {
		state ^= state << 13
		state ^= state >> 7
		state ^= state << 17
		return int(state>>1) % n
	}
}

func params(q, d, t int) api.Params { return api.Params{Q: q, D: d, T: t} }

// even asks for n of any rule.
func even(n int) api.Params { return params(n, one, one) }

// early asks for n of a rule that is Hard, and of half as much of others.
func early(n int) api.Params { return params(n, one, 2*one) }

// tenths ask for a little more than so many tenths.
func tenths(n int) api.Params { return params(n, 10, 10) }

func owe(id, at int, p api.Params) ledger.Owe { return ledger.Owe{ID: id, At: at, P: p} }

// Numbers that may not be.

func wrongParams() []api.Params {
	return []api.Params{
		{},
		params(0, 1, 1),
		params(-1, 1, 1),
		params(math.MinInt, 1, 1),
		params(2, 1, 2),
		params(2, 2, 1),
		params(1, 3, 2),
		params(1, 0, 1),
		params(1, 1, 0),
		params(1, 1, maxPeriod+1),
		params(1, 1, math.MaxInt),
		params(math.MaxInt, math.MaxInt, math.MaxInt),
		params(math.MinInt, math.MinInt, math.MinInt),
	}
}

func noServers() []int { return []int{math.MinInt, -64, -1, maxThreads, maxThreads + 1, math.MaxInt} }

func noTimes() []int { return []int{math.MinInt, -horizon, -1, horizon, horizon + 1, math.MaxInt} }

// noDomains are numbers that no domain has, where there are n.
func noDomains(n int) []int { return []int{math.MinInt, -1, n, n + 1, maxDomains, math.MaxInt} }

// What a ledger tells.

type member struct {
	id int
	p  api.Params
}

// place is a domain; lists without elements are nil.
type place struct {
	rule    admit.Rule
	members []member
	owed    []ledger.Owe
	workers []int
}

type state struct {
	now    int
	places []place
}

func members(s iter.Seq2[int, api.Params]) []member {
	var l []member
	for id, p := range s {
		l = append(l, member{id, p})
	}
	return l
}

func copied[T any](l []T) []T { return append([]T(nil), l...) }

// tell is all that a ledger tells of its domains. It checks that nothing is told of what is not there, and that its calls that tell agree.
func tell(t *testing.T, l *ledger.Ledger) state {
	t.Helper()
	s := state{now: l.Now()}
	in := map[int]int{}
	homes := map[int]int{}
	for d := 0; ; d++ {
		r, e := l.Rule(d)
		if e != api.OK {
			break
		}
		p := place{rule: r, members: members(l.Members(d)), owed: copied(l.Owed(d)), workers: copied(l.Workers(d))}
		if r.Workers != len(p.workers) {
			t.Fatalf("Rule(%d) = %+v, and Workers = %v", d, r, p.workers)
		}
		for _, m := range p.members {
			if was, two := in[m.id]; two {
				t.Fatalf("server %d is a member of %d and of %d", m.id, was, d)
			}
			in[m.id] = d
			if at, q, e := l.Where(m.id); at != d || q != m.p || e != api.OK {
				t.Fatalf("Where(%d) = %d, %v, %v, and it is a member of %d with %v", m.id, at, q, e, d, m.p)
			}
		}
		for _, w := range p.workers {
			if was, two := homes[w]; two {
				t.Fatalf("worker %d is in %d and in %d", w, was, d)
			}
			homes[w] = d
		}
		s.places = append(s.places, p)
	}
	for w := range homes {
		if w < 0 || w >= len(homes) {
			t.Fatalf("of %d workers one is %d", len(homes), w)
		}
	}
	nowhere(t, l, in)
	noSuchDomain(t, l, len(s.places))
	return s
}

// nowhere checks that servers that are no members are told to be none.
func nowhere(t *testing.T, l *ledger.Ledger, in map[int]int) {
	t.Helper()
	for id := range maxThreads {
		if _, there := in[id]; there {
			continue
		}
		if d, p, e := l.Where(id); d != 0 || p != (api.Params{}) || e != api.ErrNone {
			t.Fatalf("Where(%d) = %d, %v, %v, and it is no member", id, d, p, e)
		}
	}
	for _, id := range noServers() {
		if d, p, e := l.Where(id); d != 0 || p != (api.Params{}) || e != api.ErrRange {
			t.Fatalf("Where(%d) = %d, %v, %v; want ErrRange", id, d, p, e)
		}
	}
}

// noSuchDomain checks that nothing is told of domains that are not there, where there are n.
func noSuchDomain(t *testing.T, l *ledger.Ledger, n int) {
	t.Helper()
	for _, d := range noDomains(n) {
		if r, e := l.Rule(d); r != (admit.Rule{}) || e != api.ErrNone {
			t.Fatalf("Rule(%d) of %d = %+v, %v", d, n, r, e)
		}
		if l.Members(d) == nil || len(members(l.Members(d))) != 0 || len(l.Owed(d)) != 0 || len(l.Workers(d)) != 0 {
			t.Fatalf("of %d domains %d has members %v, owes %v, has workers %v", n, d, members(l.Members(d)), l.Owed(d), l.Workers(d))
		}
	}
}

func holds(t *testing.T, l *ledger.Ledger, want state) {
	t.Helper()
	if got := tell(t, l); !reflect.DeepEqual(got, want) {
		t.Fatalf("it tells\n%+v; want\n%+v", got, want)
	}
}

// What is done to a ledger.

// step is one call, and which error it has.
type step struct {
	text string
	do   func(l *ledger.Ledger) api.Errno
	want api.Errno
}

func call(do func(l *ledger.Ledger) api.Errno, name string, l ...any) step {
	return step{text: name + "(" + fmt.Sprint(l...) + ")", do: do}
}

// not is the same call, which is refused.
func (s step) not(e api.Errno) step {
	s.want = e
	return s
}

func domain(hard bool, most int) step {
	return call(func(l *ledger.Ledger) api.Errno { _, e := l.Domain(hard, most); return e }, "Domain", hard, most)
}

func worker(w, d int) step {
	return call(func(l *ledger.Ledger) api.Errno { return l.Worker(w, d) }, "Worker", w, d)
}

func join(id, d int, p api.Params) step {
	return call(func(l *ledger.Ledger) api.Errno { return l.Join(id, d, p) }, "Join", id, d, p)
}

func change(id int, p api.Params) step {
	return call(func(l *ledger.Ledger) api.Errno { return l.Change(id, p) }, "Change", id, p)
}

func leave(id, at int) step {
	return call(func(l *ledger.Ledger) api.Errno { return l.Leave(id, at) }, "Leave", id, at)
}

func move(id, d, at int) step {
	return call(func(l *ledger.Ledger) api.Errno { return l.Move(id, d, at) }, "Move", id, d, at)
}

func goTo(now int) step {
	return call(func(l *ledger.Ledger) api.Errno { _, e := l.Go(now); return e }, "Go", now)
}

// play does one step behind the other, and checks that what is refused turns nothing.
func play(t *testing.T, l *ledger.Ledger, steps ...step) {
	t.Helper()
	for i, s := range steps {
		was := tell(t, l)
		if e := s.do(l); e != s.want {
			t.Fatalf("step %d, %s = %v; want %v; it was\n%+v", i, s.text, e, s.want, was)
		}
		if s.want != api.OK {
			holds(t, l, was)
		}
		passes(t, l)
	}
}

// passes checks P10.4: each domain that has members, or owes, passes with all of it.
func passes(t *testing.T, l *ledger.Ledger) {
	t.Helper()
	for d, p := range tell(t, l).places {
		var all []api.Params
		for _, m := range p.members {
			all = append(all, m.p)
		}
		for _, o := range p.owed {
			all = append(all, o.P)
		}
		if e := admit.Test(p.rule, all...); len(all) > 0 && e != api.OK {
			t.Fatalf("domain %d does not pass: %+v, %v", d, p, e)
		}
	}
}

func made(t *testing.T, workers int, steps ...step) *ledger.Ledger {
	t.Helper()
	l, e := ledger.New(workers)
	if l == nil || e != api.OK {
		t.Fatalf("New(%d) = %v, %v", workers, l, e)
	}
	play(t, l, steps...)
	return l
}

func gone(t *testing.T, l *ledger.Ledger, now, want int) {
	t.Helper()
	if n, e := l.Go(now); n != want || e != api.OK || l.Now() != now {
		t.Fatalf("Go(%d) = %d, %v, and Now is %d; want %d", now, n, e, l.Now(), want)
	}
}

func count(n int) []int {
	var l []int
	for i := range n {
		l = append(l, i)
	}
	return l
}

// TestExample is the document's.
func TestExample(t *testing.T) {
	l := made(t, 1,
		join(0, 0, tenths(6)),
		join(1, 0, tenths(5)).not(api.ErrAdmit),
		leave(0, 10),
		join(1, 0, tenths(5)).not(api.ErrAdmit),
	)
	gone(t, l, 10, 1)
	play(t, l, join(1, 0, tenths(5)))
	holds(t, l, state{now: 10, places: []place{{rule: admit.Rule{Cap: one, Workers: 1}, members: []member{{1, tenths(5)}}, workers: []int{0}}}})
}

// P10.1: New and Domain

func TestNew(t *testing.T) {
	for n := 1; n <= maxWorkers; n++ {
		l := made(t, n)
		holds(t, l, state{places: []place{{rule: admit.Rule{Cap: one, Workers: n}, workers: count(n)}}})
	}
	for _, n := range []int{math.MinInt, -16, -1, 0, maxWorkers + 1, maxWorkers + 2, math.MaxInt} {
		if l, e := ledger.New(n); l != nil || e != api.ErrRange {
			t.Errorf("New(%d) = %v, %v; want ErrRange", n, l, e)
		}
	}
}

// TestLedgersApart: what is done to one is not done to another.
func TestLedgersApart(t *testing.T) {
	a, b := made(t, 2), made(t, 2)
	was := tell(t, b)
	play(t, a, domain(true, 5), worker(0, 1), join(3, 0, even(5)), join(4, 0, even(6)), leave(4, 9), goTo(3))
	holds(t, b, was)
}

func TestDomain(t *testing.T) {
	l := made(t, 1)
	want := []place{{rule: admit.Rule{Cap: one, Workers: 1}, workers: []int{0}}}
	for i, c := range []struct {
		hard bool
		most int
	}{{false, 0}, {true, 0}, {false, 1}, {true, one}, {false, one}, {true, 7}, {false, one - 1}} {
		for _, most := range []int{math.MinInt, -one, -1, one + 1, 2 * one, math.MaxInt} {
			for _, hard := range []bool{false, true} {
				if d, e := l.Domain(hard, most); d != 0 || e != api.ErrArg {
					t.Errorf("Domain(%t, %d) = %d, %v; want ErrArg", hard, most, d, e)
				}
			}
		}
		if d, e := l.Domain(c.hard, c.most); d != i+1 || e != api.OK {
			t.Errorf("Domain(%t, %d) = %d, %v; want %d", c.hard, c.most, d, e, i+1)
		}
		want = append(want, place{rule: admit.Rule{Hard: c.hard, Cap: c.most}})
		holds(t, l, state{places: want})
	}
	if len(want) != maxDomains {
		t.Fatalf("%d domains", len(want))
	}
	for _, hard := range []bool{false, true} {
		for _, most := range []int{0, 1, one} {
			if d, e := l.Domain(hard, most); d != 0 || e != api.ErrFull {
				t.Errorf("the ninth: Domain(%t, %d) = %d, %v; want ErrFull", hard, most, d, e)
			}
		}
		for _, most := range []int{math.MinInt, -1, one + 1, math.MaxInt} { // is named ahead
			if d, e := l.Domain(hard, most); d != 0 || e != api.ErrArg {
				t.Errorf("the ninth: Domain(%t, %d) = %d, %v; want ErrArg", hard, most, d, e)
			}
		}
	}
	holds(t, l, state{places: want})
	play(t, l, join(3, 7, even(1)).not(api.ErrState), worker(0, 7), join(3, 7, even(one-1)), join(4, 7, even(1)).not(api.ErrAdmit))
}

// P10.1: Worker

// fullHouse has two workers in each of the domains 0 and 1, one in 2, none in 3; 0 to 2 have members.
func fullHouse(t *testing.T) *ledger.Ledger {
	t.Helper()
	return made(t, 5,
		domain(true, 0), domain(false, one), domain(false, one),
		worker(1, 1), worker(3, 1), worker(2, 2),
		join(0, 0, even(one)), join(1, 0, even(one)),
		join(2, 1, even(one)),
		join(3, 2, even(1)),
	)
}

func TestWorkerWrong(t *testing.T) {
	l := fullHouse(t)
	for _, w := range []int{math.MinInt, -1, 5, 6, maxWorkers, math.MaxInt} {
		for _, d := range []int{0, 1, 3, -1, 4, math.MaxInt, math.MinInt} {
			play(t, l, worker(w, d).not(api.ErrRange))
		}
	}
	for w := range 5 { // ahead of what the worker's own domain would say
		for _, d := range noDomains(4) {
			play(t, l, worker(w, d).not(api.ErrNone))
		}
	}
	for _, s := range []step{worker(0, 0), worker(4, 0), worker(1, 1), worker(3, 1), worker(2, 2)} {
		play(t, l, s.not(api.ErrThere))
	}
	for d := range 4 {
		if d != 0 {
			play(t, l, worker(0, d).not(api.ErrAdmit), worker(4, d).not(api.ErrAdmit))
		}
		if d != 2 {
			play(t, l, worker(2, d).not(api.ErrState))
		}
	}
	play(t, l, worker(1, 3)) // one worker is enough for one server of a whole one, if the rule is Hard
	play(t, l, worker(3, 3).not(api.ErrState))
}

// TestWorkerComesAndGoes: domains have the workers that came, rising, and their bounds grow with them.
func TestWorkerComesAndGoes(t *testing.T) {
	l := made(t, maxWorkers, domain(false, 10))
	soft := func(workers ...int) place {
		return place{rule: admit.Rule{Cap: 10, Workers: len(workers)}, workers: workers}
	}
	first := func(workers ...int) place {
		return place{rule: admit.Rule{Cap: one, Workers: len(workers)}, workers: workers}
	}
	play(t, l, worker(15, 1), worker(3, 1), worker(9, 1))
	holds(t, l, state{places: []place{first(0, 1, 2, 4, 5, 6, 7, 8, 10, 11, 12, 13, 14), soft(3, 9, 15)}})
	play(t, l, join(0, 1, even(30)), join(1, 1, even(1)).not(api.ErrAdmit), worker(0, 1), join(1, 1, even(10)))
	play(t, l, worker(9, 0).not(api.ErrAdmit), leave(1, 0), worker(9, 0), worker(15, 0).not(api.ErrAdmit))
	holds(t, l, state{places: []place{first(1, 2, 4, 5, 6, 7, 8, 9, 10, 11, 12, 13, 14), {rule: admit.Rule{Cap: 10, Workers: 3}, members: []member{{0, even(30)}}, workers: []int{0, 3, 15}}}})
	for w := range maxWorkers {
		if slices.Contains(l.Workers(0), w) {
			play(t, l, worker(w, 1))
		}
	}
	if all := l.Workers(1); !slices.Equal(all, count(maxWorkers)) || len(l.Workers(0)) != 0 {
		t.Errorf("workers %v and %v", l.Workers(0), all)
	}
	play(t, l, join(2, 0, even(1)).not(api.ErrState), join(2, 1, even(130)), join(3, 1, even(1)).not(api.ErrAdmit))
}

// TestLastWorker: it goes from a domain without members that owes nothing, and only from such a one.
func TestLastWorker(t *testing.T) {
	for _, hard := range []bool{false, true} {
		l := made(t, 1, domain(hard, one))
		play(t, l, worker(0, 1), worker(0, 1).not(api.ErrThere), worker(0, 0), worker(0, 1))
		play(t, l, join(5, 1, even(1)), worker(0, 0).not(api.ErrState), worker(0, 1).not(api.ErrThere))
		play(t, l, leave(5, 10), worker(0, 0).not(api.ErrState), goTo(9), worker(0, 0).not(api.ErrState))
		gone(t, l, 10, 1)
		play(t, l, worker(0, 0), worker(0, 1), join(5, 1, even(one)), leave(5, 10), worker(0, 0))
		holds(t, l, state{now: 10, places: []place{{rule: admit.Rule{Cap: one, Workers: 1}, workers: []int{0}}, {rule: admit.Rule{Hard: hard, Cap: one}}}})
	}
	// What others have, and owe, does not keep it.
	l := made(t, 2, domain(false, one), domain(false, one), worker(1, 1), join(0, 1, even(5)), join(1, 1, even(5)), leave(1, 50))
	play(t, l, worker(0, 2), worker(0, 0), worker(0, 1), worker(1, 0))
}

// TestOneWorkerFewer: a domain that has a worker then must pass with it.
func TestOneWorkerFewer(t *testing.T) {
	for _, c := range []struct {
		hard    bool
		most    int
		workers int
		l       []api.Params
		e       api.Errno
	}{
		{false, one, 2, nil, api.OK},
		{false, one, 2, []api.Params{even(one)}, api.OK},
		{false, one, 2, []api.Params{even(one), even(1)}, api.ErrAdmit},
		{false, one, 2, []api.Params{even(one / 2), even(one / 2)}, api.OK},
		{false, one, 2, []api.Params{even(one / 2), even(one/2 + 1)}, api.ErrAdmit},
		{false, one, 2, []api.Params{early(one), early(one)}, api.OK}, // by its use
		{false, one, 16, []api.Params{even(one)}, api.OK},
		{false, 10, 3, []api.Params{even(20)}, api.OK},
		{false, 10, 3, []api.Params{even(21)}, api.ErrAdmit},
		{false, 0, 2, nil, api.OK},
		{true, 0, 2, nil, api.OK},
		{true, 0, 2, []api.Params{even(one)}, api.OK},
		{true, 0, 2, []api.Params{early(one)}, api.OK},
		{true, one, 2, []api.Params{even(one / 2), even(one / 2)}, api.OK},
		{true, 0, 2, []api.Params{even(one / 2), even(one / 2), even(1)}, api.ErrAdmit},
		{true, 0, 2, []api.Params{early(one / 2), early(one / 2), early(1)}, api.ErrAdmit}, // by its density
		{true, 0, 3, []api.Params{even(one / 2), even(one / 2), even(one / 2)}, api.OK},
		{true, 0, 3, []api.Params{even(one / 2), even(one / 2), even(one / 2), even(1)}, api.ErrAdmit},
	} {
		for paid := range len(c.l) + 1 { // members, or owed of members no more
			l := made(t, c.workers, domain(c.hard, c.most))
			for w := range c.workers {
				play(t, l, worker(w, 1))
			}
			for i, p := range c.l {
				play(t, l, join(i, 1, p))
				if i >= paid {
					play(t, l, leave(i, 5))
				}
			}
			play(t, l, worker(0, 1).not(api.ErrThere), worker(0, 0).not(c.e))
			if c.e != api.OK && paid < len(c.l) {
				play(t, l, goTo(4), worker(0, 0).not(c.e), goTo(5), worker(0, 0))
			}
		}
	}
}

// P10.2: Join

func TestJoin(t *testing.T) {
	l := made(t, 1, domain(false, one))
	for _, id := range noServers() { // ahead of all else
		for _, d := range []int{0, 1, 2, -1, math.MinInt, math.MaxInt} {
			play(t, l, join(id, d, even(1)).not(api.ErrRange), join(id, d, api.Params{}).not(api.ErrRange))
		}
	}
	play(t, l, join(63, 0, even(7)), join(0, 0, early(9)), join(31, 0, tenths(1)))
	holds(t, l, state{places: []place{
		{rule: admit.Rule{Cap: one, Workers: 1}, members: []member{{0, early(9)}, {31, tenths(1)}, {63, even(7)}}, workers: []int{0}},
		{rule: admit.Rule{Cap: one}},
	}})
	for _, id := range []int{0, 31, 63} { // there and elsewhere, ahead of all else
		for _, d := range []int{0, 1, 2, -1, math.MinInt, math.MaxInt} {
			play(t, l, join(id, d, even(1)).not(api.ErrThere), join(id, d, even(one)).not(api.ErrThere), join(id, d, api.Params{}).not(api.ErrThere))
		}
	}
	for _, d := range noDomains(2) {
		for _, p := range append(wrongParams(), even(1), even(one)) {
			play(t, l, join(1, d, p).not(api.ErrNone))
		}
	}
	for _, p := range append(wrongParams(), even(1), even(one)) { // a domain without a worker
		play(t, l, join(1, 1, p).not(api.ErrState))
	}
	for _, p := range wrongParams() {
		play(t, l, join(1, 0, p).not(api.ErrArg))
	}
	play(t, l, join(1, 0, even(one)).not(api.ErrAdmit))
	play(t, l, leave(0, 0), leave(31, 0), join(1, 0, even(one-7)))
	for _, p := range wrongParams() { // though there is no room
		play(t, l, join(2, 0, p).not(api.ErrArg))
	}
}

// TestJoinToTheBound: up to just the bound, and no further, with members, and beside what is owed.
func TestJoinToTheBound(t *testing.T) {
	for _, c := range []struct {
		hard    bool
		most    int
		workers int
		l       []api.Params
		more    api.Params // just too much
	}{
		{false, one, 1, []api.Params{even(one)}, even(1)},
		{false, one, 1, []api.Params{even(one - 1)}, even(2)},
		{false, one, 1, []api.Params{even(3), even(5), even(one - 8)}, even(1)},
		{false, one, 1, []api.Params{early(one), early(one)}, params(1, 1, maxPeriod)},
		{false, one, 1, []api.Params{tenths(1), tenths(2), tenths(3)}, tenths(4)},
		{false, one, 2, []api.Params{even(one), even(one)}, even(1)},
		{false, 10, 3, []api.Params{even(30)}, even(1)},
		{false, 1, 1, nil, even(2)},
		{false, 1, 1, []api.Params{even(1)}, even(1)},
		{false, 0, 16, nil, even(1)},
		{false, 0, 1, nil, params(1, 1, maxPeriod)},
		{true, 0, 1, []api.Params{even(one)}, even(1)},
		{true, one, 1, []api.Params{early(one)}, even(1)},
		{true, 0, 2, []api.Params{even(one)}, even(1)},
		{true, 0, 2, []api.Params{even(one / 2), even(one / 2), even(one / 2)}, even(1)},
		{true, 0, 2, []api.Params{even(one / 4), even(one / 2)}, even(one/2 + one/8 + 1)},
		{true, 0, 16, []api.Params{even(1)}, even(one)},
	} {
		for owed := range len(c.l) + 1 {
			l := made(t, c.workers, domain(c.hard, c.most))
			for w := range c.workers {
				play(t, l, worker(w, 1))
			}
			for i, p := range c.l {
				play(t, l, join(2*i, 1, p))
				if i < owed {
					play(t, l, leave(2*i, 5+i))
				}
			}
			play(t, l, join(1, 1, c.more).not(api.ErrAdmit), goTo(4), join(1, 1, c.more).not(api.ErrAdmit))
			if owed > 0 {
				gone(t, l, 5+owed, owed)
				play(t, l, join(1, 1, c.more).not(refused(c.hard, c.most, c.workers, append(slices.Clone(c.l[owed:]), c.more))))
			}
		}
	}
}

func refused(hard bool, most, workers int, l []api.Params) api.Errno {
	return admit.Test(admit.Rule{Hard: hard, Cap: most, Workers: workers}, l...)
}

// TestDomainsApart: what one has, and owes, is not asked of another.
func TestDomainsApart(t *testing.T) {
	l := made(t, 3, domain(false, one), domain(true, 0), worker(1, 1), worker(2, 2))
	for d := range 3 {
		play(t, l, join(3*d, d, even(one/2)), join(3*d+1, d, even(one/2)), leave(3*d, 7))
		for e := range d + 1 {
			play(t, l, join(3*d+2, e, even(1)).not(api.ErrAdmit))
		}
	}
	for d := range 3 {
		if o := l.Owed(d); !slices.Equal(o, []ledger.Owe{owe(3*d, 7, even(one/2))}) {
			t.Errorf("Owed(%d) = %v", d, o)
		}
	}
	gone(t, l, 7, 3)
	for d := range 3 {
		play(t, l, join(3*d+2, d, even(one/2)), join(3*d, d, even(1)).not(api.ErrAdmit))
	}
}

func TestAllServers(t *testing.T) {
	l := made(t, 16, domain(false, one), worker(0, 1))
	var want []member
	for id := maxThreads - 1; id >= 0; id-- {
		play(t, l, join(id, id%2, even(id+1)))
		if id%2 == 0 {
			want = append(want, member{id, even(id + 1)})
		}
	}
	slices.Reverse(want)
	if got := members(l.Members(0)); !slices.Equal(got, want) {
		t.Errorf("members %v; want %v", got, want)
	}
	play(t, l, join(maxThreads, 0, even(1)).not(api.ErrRange), join(0, 0, even(1)).not(api.ErrThere), leave(0, 9), join(0, 1, even(5)))
	if d, p, e := l.Where(0); d != 1 || p != even(5) || e != api.OK {
		t.Errorf("Where(0) = %d, %v, %v", d, p, e)
	}
}

// P10.2: Change

func TestChange(t *testing.T) {
	l := made(t, 2, domain(false, one), worker(1, 1),
		join(0, 0, even(5)), join(1, 1, even(one)), join(2, 0, even(7)), join(3, 0, even(9)), join(63, 0, even(11)))
	for _, id := range noServers() {
		play(t, l, change(id, even(1)).not(api.ErrRange), change(id, api.Params{}).not(api.ErrRange))
	}
	for _, id := range []int{4, 5, 30, 62} {
		for _, p := range append(wrongParams(), even(1), even(one)) {
			play(t, l, change(id, p).not(api.ErrNone))
		}
	}
	all := []int{5, 7, 9, 11}
	for i, id := range []int{0, 2, 3, 63} {
		for _, p := range wrongParams() {
			play(t, l, change(id, p).not(api.ErrArg))
		}
		most := one - 5 - 7 - 9 - 11 + all[i]
		for _, n := range []int{most, 1, most, all[i], all[i], most - 1, all[i] - 1, all[i]} {
			play(t, l, change(id, even(n)), change(id, even(most+1)).not(api.ErrAdmit))
			if d, p, e := l.Where(id); d != 0 || p != even(n) || e != api.OK {
				t.Errorf("Where(%d) = %d, %v, %v; want %v", id, d, p, e, even(n))
			}
		}
	}
	play(t, l, change(1, early(one)), change(1, even(one)), change(1, even(1)), join(40, 1, even(one-1)), change(1, even(2)).not(api.ErrAdmit))
	holds(t, l, state{places: []place{
		{rule: admit.Rule{Cap: one, Workers: 1}, members: []member{{0, even(5)}, {2, even(7)}, {3, even(9)}, {63, even(11)}}, workers: []int{0}},
		{rule: admit.Rule{Cap: one, Workers: 1}, members: []member{{1, even(1)}, {40, even(one - 1)}}, workers: []int{1}},
	}})
}

// TestChangeBesideOwed: what is owed counts, that of the same server too; what is given up by Change is not owed.
func TestChangeBesideOwed(t *testing.T) {
	l := made(t, 1, join(7, 0, even(one/4)), leave(7, 10), join(7, 0, even(one/2)), join(2, 0, even(one/4)))
	play(t, l, change(7, even(one/2+1)).not(api.ErrAdmit), change(2, even(one/4+1)).not(api.ErrAdmit))
	play(t, l, change(7, even(one/4)), change(2, even(one/2)), change(2, even(one/2+1)).not(api.ErrAdmit))
	if o := l.Owed(0); !slices.Equal(o, []ledger.Owe{owe(7, 10, even(one/4))}) {
		t.Errorf("Owed = %v", o)
	}
	play(t, l, goTo(10), change(2, even(one/2+one/4)), change(2, even(one/2+one/4+1)).not(api.ErrAdmit))
}

// TestChangeHard: the bound is that of the one that asks for the most then.
func TestChangeHard(t *testing.T) {
	l := made(t, 2, domain(true, 0), worker(0, 1), worker(1, 1), join(0, 1, even(one/2)), join(1, 1, even(one/2)), join(2, 1, even(one/2)))
	play(t, l, change(1, even(one/2+1)).not(api.ErrAdmit))
	play(t, l, change(0, even(1)), change(1, even(one/2+one/4-1)), change(1, even(one/2+one/4)).not(api.ErrAdmit))
	play(t, l, change(2, even(1)), change(1, even(one-1)), change(1, even(one)).not(api.ErrAdmit))
	play(t, l, change(1, early(one)).not(api.ErrAdmit), leave(2, 0), leave(0, 0), change(1, early(one)), change(1, even(one)))
}

// P10.2: Leave

func TestLeave(t *testing.T) {
	for _, now := range []int{0, 1, 20, last - 1, last} {
		for _, at := range []int{0, 1, now - 1, now, now + 1, now + 50, last - 1, last} {
			if at < 0 || at > last {
				continue
			}
			l := made(t, 1, goTo(now), join(3, 0, tenths(6)), join(4, 0, tenths(3)), leave(3, at), leave(3, at).not(api.ErrNone))
			want := place{rule: admit.Rule{Cap: one, Workers: 1}, members: []member{{4, tenths(3)}}, workers: []int{0}}
			if at > now {
				want.owed = []ledger.Owe{owe(3, at, tenths(6))}
			}
			holds(t, l, state{now: now, places: []place{want}})
			if at > now {
				play(t, l, join(3, 0, tenths(2)).not(api.ErrAdmit), goTo(at-1), join(3, 0, tenths(2)).not(api.ErrAdmit), goTo(at))
			}
			play(t, l, join(3, 0, tenths(6)))
		}
	}
}

func TestLeaveWrong(t *testing.T) {
	l := made(t, 1, goTo(20), join(3, 0, tenths(6)))
	for _, at := range append(noTimes(), 0, 19, 20, 21, last) {
		for _, id := range noServers() {
			play(t, l, leave(id, at).not(api.ErrRange))
		}
	}
	for _, at := range noTimes() {
		for _, id := range []int{0, 3, 63} { // ahead of what is no member
			play(t, l, leave(id, at).not(api.ErrRange))
		}
	}
	for _, at := range []int{0, 19, 20, 21, last} {
		for _, id := range []int{0, 2, 4, 63} {
			play(t, l, leave(id, at).not(api.ErrNone))
		}
	}
}

// P10.2: Move

func TestMove(t *testing.T) {
	l := made(t, 3, domain(false, one), domain(true, 0), worker(1, 1), worker(2, 2), goTo(5), join(9, 0, even(one)))
	// Until a time ahead of now, and until now, nothing is owed; until one later it is.
	play(t, l, move(9, 1, 4), move(9, 2, 5), move(9, 0, 0), move(9, 1, 6))
	soft := func(d int, more place) place {
		more.rule, more.workers = admit.Rule{Cap: one, Workers: 1}, []int{d}
		return more
	}
	hard := place{rule: admit.Rule{Hard: true, Workers: 1}, workers: []int{2}}
	holds(t, l, state{now: 5, places: []place{soft(0, place{owed: []ledger.Owe{owe(9, 6, even(one))}}), soft(1, place{members: []member{{9, even(one)}}}), hard}})
	// There is no room for it any more where it came from, until it is owed no more.
	play(t, l, move(9, 0, 8).not(api.ErrAdmit), join(8, 0, even(1)).not(api.ErrAdmit), move(9, 2, last))
	gone(t, l, 6, 1)
	play(t, l, move(9, 0, 6))
	holds(t, l, state{now: 6, places: []place{soft(0, place{members: []member{{9, even(one)}}}), soft(1, place{owed: []ledger.Owe{owe(9, last, even(one))}}), hard}})
	gone(t, l, last, 1)
	play(t, l, move(9, 1, last), leave(9, last))
	holds(t, l, state{now: last, places: []place{soft(0, place{}), soft(1, place{}), hard}})
}

func TestMoveWrong(t *testing.T) {
	l := made(t, 2, domain(false, one), domain(false, one), worker(1, 1),
		join(1, 0, even(one/2)), join(2, 0, even(one/2)), join(3, 1, even(one/2+1)), goTo(5))
	domains := []int{0, 1, 2, 3, -1, math.MinInt, math.MaxInt}
	for _, d := range domains {
		for _, id := range noServers() {
			for _, at := range append(noTimes(), 0, 5, 6, last) {
				play(t, l, move(id, d, at).not(api.ErrRange))
			}
		}
		for _, id := range []int{0, 1, 3, 63} {
			for _, at := range noTimes() { // ahead of all else
				play(t, l, move(id, d, at).not(api.ErrRange))
			}
		}
		for _, id := range []int{0, 4, 63} {
			for _, at := range []int{0, 5, 6, last} {
				play(t, l, move(id, d, at).not(api.ErrNone))
			}
		}
	}
	for _, at := range []int{0, 5, 6, last} {
		for _, d := range noDomains(3) {
			play(t, l, move(1, d, at).not(api.ErrNone), move(3, d, at).not(api.ErrNone))
		}
		play(t, l, move(1, 0, at).not(api.ErrThere), move(3, 1, at).not(api.ErrThere))
		play(t, l, move(1, 2, at).not(api.ErrState), move(3, 2, at).not(api.ErrState))
		play(t, l, move(1, 1, at).not(api.ErrAdmit), move(3, 0, at).not(api.ErrAdmit)) // and the other way round
	}
	play(t, l, change(3, even(one/2)), move(1, 1, 6), move(3, 0, 6).not(api.ErrAdmit), goTo(6), move(3, 0, 7), move(2, 1, 7).not(api.ErrAdmit), goTo(7), move(2, 1, 7))
}

// TestMoveByTheOtherRule: it is the rule of the domain that it comes to that counts.
func TestMoveByTheOtherRule(t *testing.T) {
	l := made(t, 2, domain(true, 0), domain(false, 10), worker(1, 1),
		join(1, 0, early(one)), join(2, 0, early(one)), join(3, 1, even(1)))
	play(t, l, move(1, 1, 0).not(api.ErrAdmit), change(1, early(one-1)), move(1, 1, 9), move(2, 1, 9).not(api.ErrAdmit))
	if p := members(l.Members(1)); !slices.Equal(p, []member{{1, early(one - 1)}, {3, even(1)}}) {
		t.Errorf("members %v", p)
	}
	play(t, l, goTo(9), leave(1, 0), leave(2, 0), join(5, 0, even(11)), worker(1, 2).not(api.ErrState), move(3, 0, 0), worker(1, 2))
	play(t, l, move(5, 2, 0).not(api.ErrAdmit), change(5, even(10)), move(5, 2, 20))
	if o := l.Owed(0); !slices.Equal(o, []ledger.Owe{owe(5, 20, even(10))}) {
		t.Errorf("Owed = %v", o)
	}
}

// P10.3: Go and Owed

func TestGo(t *testing.T) {
	l := made(t, 2, domain(false, one), worker(1, 1))
	for i, at := range []int{10, 11, 12, 11, last} {
		play(t, l, join(i, i%2, even(1)), leave(i, at))
	}
	for _, c := range []struct {
		now, want int
		owed      []int // at which times
	}{
		{0, 0, []int{10, 12, last, 11, 11}},
		{1, 0, []int{10, 12, last, 11, 11}},
		{9, 0, []int{10, 12, last, 11, 11}}, // one ahead of it
		{10, 1, []int{12, last, 11, 11}},    // just until then
		{10, 0, []int{12, last, 11, 11}},    // the same time
		{13, 3, []int{last}},                // one behind the latest
		{last - 1, 0, []int{last}},          //
		{last, 1, nil}, {last, 0, nil},      // the last time
	} {
		was := l.Now()
		gone(t, l, c.now, c.want)
		var at []int
		for d := range 2 {
			for _, o := range l.Owed(d) {
				at = append(at, o.At)
			}
		}
		if !slices.Equal(at, c.owed) {
			t.Errorf("behind Go(%d) it is owed until %v; want %v", c.now, at, c.owed)
		}
		for _, now := range append(noTimes(), was-1, c.now-1) {
			before := tell(t, l)
			if n, e := l.Go(now); n != 0 || e != api.ErrRange {
				t.Errorf("at %d Go(%d) = %d, %v; want ErrRange", c.now, now, n, e)
			}
			holds(t, l, before)
		}
	}
}

// TestOwed: by the time, by the number, and in the order in which it came to be.
func TestOwed(t *testing.T) {
	l := made(t, 1, domain(false, one))
	owes := func(p api.Params, id, at int) {
		play(t, l, join(id, 0, p), leave(id, at))
	}
	var want []ledger.Owe
	for _, o := range []ledger.Owe{
		owe(5, 20, even(9)), owe(5, 20, even(3)), owe(5, 20, even(6)), // one server, again and again
		owe(4, 20, even(7)), owe(6, 20, even(1)), // of one time
		owe(5, 19, even(2)), owe(5, 21, even(8)),
		owe(63, 1, even(5)), owe(0, last, even(4)), owe(0, 20, early(5)), owe(63, 20, early(4)),
		owe(5, 20, even(3)), owe(5, 20, even(1)), // once more, behind all others of its
		owe(4, 20, even(2)), owe(0, 20, even(8)),
	} {
		owes(o.P, o.ID, o.At)
		want = append(want, o)
		slices.SortStableFunc(want, func(a, b ledger.Owe) int { return cmp.Or(cmp.Compare(a.At, b.At), cmp.Compare(a.ID, b.ID)) })
		if got := l.Owed(0); !slices.Equal(got, want) {
			t.Fatalf("Owed = %v; want %v", got, want)
		}
	}
	if o := want[3:8]; !slices.Equal(o, []ledger.Owe{owe(0, 20, even(8)), owe(4, 20, even(7)), owe(4, 20, even(2)), owe(5, 20, even(9)), owe(5, 20, even(3))}) {
		t.Fatalf("the test's own order is %v", o)
	}
	gone(t, l, 19, 2)
	if got := l.Owed(0); !slices.Equal(got, want[2:]) {
		t.Fatalf("Owed = %v; want %v", got, want[2:])
	}
	gone(t, l, 20, len(want)-4)
	if got := l.Owed(0); !slices.Equal(got, want[len(want)-2:]) {
		t.Fatalf("Owed = %v; want %v", got, want[len(want)-2:])
	}
	gone(t, l, last, 2)
	if got := l.Owed(0); len(got) != 0 {
		t.Fatalf("Owed = %v", got)
	}
}

// TestOwesMoreThanOnce: one server, in one domain and in several, while it is a member again.
func TestOwesMoreThanOnce(t *testing.T) {
	l := made(t, 3, domain(false, one), domain(true, 0), worker(1, 1), worker(2, 2))
	p := even(one / 4)
	play(t, l,
		join(6, 0, p), leave(6, 30), join(6, 0, p), leave(6, 10), join(6, 0, p), leave(6, 30), join(6, 0, p),
		join(7, 0, even(1)).not(api.ErrAdmit), move(6, 1, 20), move(6, 2, 30), move(6, 1, 10), move(6, 2, 40), move(6, 1, 40))
	for d, want := range [][]ledger.Owe{
		{owe(6, 10, p), owe(6, 20, p), owe(6, 30, p), owe(6, 30, p)},
		{owe(6, 30, p), owe(6, 40, p)},
		{owe(6, 10, p), owe(6, 40, p)},
	} {
		if o := l.Owed(d); !slices.Equal(o, want) {
			t.Errorf("Owed(%d) = %v; want %v", d, o, want)
		}
	}
	play(t, l, join(7, 1, even(one/4)), join(8, 1, even(1)).not(api.ErrAdmit))
	gone(t, l, 10, 2)
	gone(t, l, 30, 4)
	if d, q, e := l.Where(6); d != 1 || q != p || e != api.OK {
		t.Errorf("Where(6) = %d, %v, %v", d, q, e)
	}
	gone(t, l, 100, 2)
	play(t, l, join(0, 0, even(one)), join(2, 2, even(one)))
}

// P10.3: Members

// turns are what may be done to a ledger with the members 2, 5 and 9 of domain 0.
func turns() map[string][]step {
	return map[string][]step{
		"nothing":      nil,
		"joined":       {join(0, 0, even(4)), join(7, 0, even(4)), join(63, 0, even(4))},
		"changed":      {change(2, even(1)), change(5, even(1)), change(9, even(1))},
		"left":         {leave(2, 0), leave(9, 50)},
		"all left":     {leave(2, 0), leave(5, 0), leave(9, 0)},
		"moved":        {move(5, 1, 50)},
		"left and in":  {leave(5, 0), join(5, 0, even(77))},
		"moved and in": {move(9, 1, 0), change(9, even(8)), move(9, 0, 0)},
	}
}

// TestMembersAsTheyWere: Members tells what was there when it was called, however often it is gone through.
func TestMembersAsTheyWere(t *testing.T) {
	for name, steps := range turns() {
		for part := range 4 {
			l := made(t, 2, domain(false, one), worker(1, 1), join(9, 0, even(3)), join(2, 0, even(5)), join(5, 0, even(7)))
			want := []member{{2, even(5)}, {5, even(7)}, {9, even(3)}}
			s := l.Members(0)
			var got []member
			for id, p := range s { // while the ledger turns
				if len(got) == part {
					play(t, l, steps...)
				}
				got = append(got, member{id, p})
			}
			if part == len(want) {
				play(t, l, steps...)
			}
			if !slices.Equal(got, want) {
				t.Errorf("%s, behind %d: %v; want %v", name, part, got, want)
			}
			if got := members(s); !slices.Equal(got, want) {
				t.Errorf("%s: again %v; want %v", name, got, want)
			}
			for id, p := range l.Members(0) { // and what is asked for now is what is there now
				if d, q, e := l.Where(id); d != 0 || p != q || e != api.OK {
					t.Errorf("%s: %d has %v; Where = %d, %v, %v", name, id, p, d, q, e)
				}
			}
		}
	}
}

func TestMembersInPart(t *testing.T) {
	l := made(t, 1, join(9, 0, even(3)), join(2, 0, even(5)), join(5, 0, even(7)))
	want := []member{{2, even(5)}, {5, even(7)}, {9, even(3)}}
	s := l.Members(0)
	for n := 1; n <= len(want); n++ {
		for range 2 {
			var got []member
			for id, p := range s {
				if got = append(got, member{id, p}); len(got) == n {
					break
				}
			}
			if !slices.Equal(got, want[:n]) {
				t.Errorf("the first %d: %v", n, got)
			}
		}
	}
	was := tell(t, l)
	for id, p := range s { // each beside the other
		for id2, p2 := range s {
			if id == id2 && p != p2 {
				t.Errorf("%d has %v and %v", id, p, p2)
			}
		}
	}
	holds(t, l, was)
}

// R1: a nil ledger

func TestNil(t *testing.T) {
	var l *ledger.Ledger
	numbers := []int{math.MinInt, -1, 0, 1, 63, 64, math.MaxInt}
	refusals := func(e ...api.Errno) {
		t.Helper()
		for _, e := range e {
			if e != api.ErrNil {
				t.Errorf("%v; want ErrNil", e)
			}
		}
	}
	for _, a := range numbers {
		if d, e := l.Domain(a > 0, a); d != 0 || e != api.ErrNil {
			t.Errorf("Domain = %d, %v", d, e)
		}
		if n, e := l.Go(a); n != 0 || e != api.ErrNil {
			t.Errorf("Go = %d, %v", n, e)
		}
		if r, e := l.Rule(a); r != (admit.Rule{}) || e != api.ErrNil {
			t.Errorf("Rule = %+v, %v", r, e)
		}
		if d, p, e := l.Where(a); d != 0 || p != (api.Params{}) || e != api.ErrNil {
			t.Errorf("Where = %d, %v, %v", d, p, e)
		}
		if l.Members(a) == nil || len(members(l.Members(a))) != 0 || len(l.Owed(a)) != 0 || len(l.Workers(a)) != 0 {
			t.Errorf("of %d something is told", a)
		}
		for _, b := range numbers {
			refusals(l.Worker(a, b), l.Leave(a, b), l.Join(a, b, even(5)), l.Join(a, b, api.Params{}))
			for _, c := range numbers {
				refusals(l.Move(a, b, c))
			}
		}
		refusals(l.Change(a, even(5)), l.Change(a, api.Params{}))
	}
	if l.Now() != 0 {
		t.Errorf("Now = %d", l.Now())
	}
}

// R2: what is answered is the caller's

func TestAnswersAreTheCallers(t *testing.T) {
	l := made(t, 3, domain(false, one), worker(1, 1))
	for id := range 5 {
		play(t, l, join(id, 0, even(id+1)), leave(id, 10+id), join(id, 0, even(id+1)))
	}
	was := tell(t, l)
	spoil := func() {
		for d := range 2 {
			o, w := l.Owed(d), l.Workers(d)
			for i := range o {
				o[i] = owe(-1, -1, api.Params{})
			}
			for i := range w {
				w[i] = -1
			}
			_, _ = append(o, owe(-2, -2, api.Params{})), append(w, -2)
		}
	}
	spoil()
	holds(t, l, was)
	o, w := l.Owed(0), l.Workers(0)
	oldO, oldW := slices.Clone(o), slices.Clone(w)
	play(t, l, leave(0, 10), join(9, 0, even(7)), leave(9, 1), worker(0, 1), goTo(12))
	if !slices.Equal(o, oldO) || !slices.Equal(w, oldW) {
		t.Errorf("what was answered turned: %v, %v; it was %v, %v", o, w, oldO, oldW)
	}
	was = tell(t, l)
	spoil()
	holds(t, l, was)
	play(t, l, leave(1, 12), leave(2, 13), goTo(13), leave(3, 14), join(3, 0, even(9)))
}

// R3

// TestSameAgain: what tells turns nothing, and the same calls have the same answers.
func TestSameAgain(t *testing.T) {
	run := func() []state {
		l := made(t, 4, domain(true, 0), domain(false, 9), worker(2, 1), worker(1, 2))
		var all []state
		for id := range 20 {
			l.Join(id*7%64, id%3, even(id+1))
			l.Leave(id*3%64, id*5%17)
			all = append(all, tell(t, l), tell(t, l))
		}
		return all
	}
	if a, b := run(), run(); !reflect.DeepEqual(a, b) {
		t.Errorf("%+v, and again %+v", a, b)
	}
}

// The model: the document's words, over lists that are gone through from end to end.

type model struct {
	now   int
	rules []admit.Rule // Workers is told by homes
	homes []int        // each worker's domain
	in    map[int]int  // each member's domain
	asks  map[int]api.Params
	owed  []debt // in the order in which it came to be
}

type debt struct {
	d int
	ledger.Owe
}

func newModel(workers int) *model {
	return &model{rules: []admit.Rule{{Cap: one}}, homes: make([]int, workers), in: map[int]int{}, asks: map[int]api.Params{}}
}

func (m *model) place(d int) place {
	p := place{rule: m.rules[d]}
	for w, at := range m.homes {
		if at == d {
			p.workers = append(p.workers, w)
		}
	}
	p.rule.Workers = len(p.workers)
	for id := range maxThreads {
		if at, there := m.in[id]; there && at == d {
			p.members = append(p.members, member{id, m.asks[id]})
		}
	}
	for _, o := range m.owed {
		if o.d == d {
			p.owed = append(p.owed, o.Owe)
		}
	}
	slices.SortStableFunc(p.owed, func(a, b ledger.Owe) int { return cmp.Or(a.At-b.At, a.ID-b.ID) })
	return p
}

func (m *model) state() state {
	s := state{now: m.now}
	for d := range m.rules {
		s.places = append(s.places, m.place(d))
	}
	return s
}

// load is a domain's members' but one's, and what is owed.
func (m *model) load(d, but int) []api.Params {
	var l []api.Params
	p := m.place(d)
	for _, x := range p.members {
		if x.id != but {
			l = append(l, x.p)
		}
	}
	for _, o := range p.owed {
		l = append(l, o.P)
	}
	return l
}

func (m *model) isDomain(d int) bool { return 0 <= d && d < len(m.rules) }

func (m *model) isServer(id int) bool { return 0 <= id && id < maxThreads }

func (m *model) isMember(id int) bool { _, there := m.in[id]; return there }

func (m *model) domain(hard bool, most int) (int, api.Errno) {
	if most < 0 || most > one {
		return 0, api.ErrArg
	}
	if len(m.rules) == maxDomains {
		return 0, api.ErrFull
	}
	m.rules = append(m.rules, admit.Rule{Hard: hard, Cap: most})
	return len(m.rules) - 1, api.OK
}

func (m *model) worker(w, d int) api.Errno {
	if w < 0 || w >= len(m.homes) {
		return api.ErrRange
	}
	if !m.isDomain(d) {
		return api.ErrNone
	}
	if m.homes[w] == d {
		return api.ErrThere
	}
	r, l := m.place(m.homes[w]).rule, m.load(m.homes[w], -1)
	r.Workers--
	if r.Workers == 0 && len(l) > 0 {
		return api.ErrState
	}
	if r.Workers > 0 && admit.Test(r, l...) != api.OK {
		return api.ErrAdmit
	}
	m.homes[w] = d
	return api.OK
}

func (m *model) joinError(d int, p api.Params) api.Errno {
	if !m.isDomain(d) {
		return api.ErrNone
	}
	r := m.place(d).rule
	if r.Workers == 0 {
		return api.ErrState
	}
	return admit.Test(r, append(m.load(d, -1), p)...)
}

func (m *model) join(id, d int, p api.Params) api.Errno {
	if !m.isServer(id) {
		return api.ErrRange
	}
	if m.isMember(id) {
		return api.ErrThere
	}
	e := m.joinError(d, p)
	if e == api.OK {
		m.in[id], m.asks[id] = d, p
	}
	return e
}

func (m *model) change(id int, p api.Params) api.Errno {
	if !m.isServer(id) {
		return api.ErrRange
	}
	if !m.isMember(id) {
		return api.ErrNone
	}
	d := m.in[id]
	e := admit.Test(m.place(d).rule, append(m.load(d, id), p)...)
	if e == api.OK {
		m.asks[id] = p
	}
	return e
}

func (m *model) leave(id, at int) api.Errno {
	if !m.isServer(id) || at < 0 || at > last {
		return api.ErrRange
	}
	if !m.isMember(id) {
		return api.ErrNone
	}
	if at > m.now {
		m.owed = append(m.owed, debt{m.in[id], owe(id, at, m.asks[id])})
	}
	delete(m.in, id)
	delete(m.asks, id)
	return api.OK
}

func (m *model) move(id, d, at int) api.Errno {
	if !m.isServer(id) || at < 0 || at > last {
		return api.ErrRange
	}
	if !m.isMember(id) || !m.isDomain(d) {
		return api.ErrNone
	}
	if m.in[id] == d {
		return api.ErrThere
	}
	p := m.asks[id]
	if e := m.joinError(d, p); e != api.OK {
		return e
	}
	m.leave(id, at)
	return m.join(id, d, p)
}

func (m *model) goTo(now int) (int, api.Errno) {
	if now < m.now || now > last {
		return 0, api.ErrRange
	}
	m.now = now
	was := len(m.owed)
	m.owed = slices.DeleteFunc(m.owed, func(o debt) bool { return o.At <= now })
	return was - len(m.owed), api.OK
}

// All of it, over rows of calls of any kind, held against the model.

// anyNumber is most often one of the first n, and at times one that may not be.
func anyNumber(roll func(int) int, n int) int {
	if roll(20) > 0 {
		return roll(n)
	}
	wrong := []int{math.MinInt, -1, n, maxThreads - 1, maxThreads, maxDomains, maxWorkers, math.MaxInt}
	return wrong[roll(len(wrong))]
}

func anyTime(roll func(int) int, now int) int {
	if roll(20) > 0 {
		return now - 2 + roll(12)
	}
	far := []int{math.MinInt, -1, 0, now, now + 300, last, horizon, math.MaxInt}
	return far[roll(len(far))]
}

func anyParams(roll func(int) int) api.Params {
	if roll(20) == 0 {
		wrong := wrongParams()
		return wrong[roll(len(wrong))]
	}
	n := 1 + roll(one>>roll(6))
	return []api.Params{even(n), early(n), tenths(1 + roll(10)), params(1, 1+roll(20), 20+roll(30))}[roll(4)]
}

// both does one call to both; what is answered is a number, if any, and an error.
func both(roll func(int) int, l *ledger.Ledger, m *model, servers int) (text string, got, want [2]int) {
	answer := func(n int, e api.Errno) [2]int { return [2]int{n, int(e)} }
	id, d, w, at := anyNumber(roll, servers), anyNumber(roll, len(m.rules)), anyNumber(roll, len(m.homes)), anyTime(roll, m.now)
	p := anyParams(roll)
	switch roll(20) {
	case 0:
		hard, most := roll(2) == 0, []int{-1, 0, 7, one / 2, one, one, one, one + 1}[roll(8)]
		return fmt.Sprint("Domain ", hard, most), answer(l.Domain(hard, most)), answer(m.domain(hard, most))
	case 1, 2, 3, 4:
		return fmt.Sprint("Worker ", w, d), answer(0, l.Worker(w, d)), answer(0, m.worker(w, d))
	case 5, 6, 7, 8, 9, 10:
		return fmt.Sprint("Join ", id, d, p), answer(0, l.Join(id, d, p)), answer(0, m.join(id, d, p))
	case 11, 12:
		return fmt.Sprint("Change ", id, p), answer(0, l.Change(id, p)), answer(0, m.change(id, p))
	case 13, 14:
		return fmt.Sprint("Leave ", id, at), answer(0, l.Leave(id, at)), answer(0, m.leave(id, at))
	case 15, 16, 17:
		return fmt.Sprint("Move ", id, d, at), answer(0, l.Move(id, d, at)), answer(0, m.move(id, d, at))
	}
	return fmt.Sprint("Go ", at), answer(l.Go(at)), answer(m.goTo(at))
}

func TestAnyCalls(t *testing.T) {
	roll := dice(10)
	seen := map[int]int{} // how often each error was answered
	for run := range 120 {
		workers := 1 + run%maxWorkers
		l, m := made(t, workers), newModel(workers)
		var did []string
		for range 150 {
			was := m.state()
			text, got, want := both(roll, l, m, 5+run%40)
			did = append(did, text)
			if got != want {
				t.Fatalf("of %d workers %v = %v; want %v", workers, did, got, want)
			}
			if now := m.state(); want[1] != 0 && !reflect.DeepEqual(now, was) {
				t.Fatalf("the model turned by %s", text)
			}
			holds(t, l, m.state())
			passes(t, l)
			seen[want[1]]++
			if m.now > 1000 { // the end of time is reached, and little goes on there
				break
			}
		}
	}
	for _, e := range []api.Errno{api.OK, api.ErrArg, api.ErrRange, api.ErrFull, api.ErrNone, api.ErrThere, api.ErrState, api.ErrAdmit} {
		if seen[int(e)] < 20 {
			t.Errorf("%v was answered %d times", e, seen[int(e)])
		}
	}
}
