package life_test

import (
	"math"
	"math/big"
	"testing"

	"metronome/api"
	"metronome/cbs"
	"metronome/life"
)

// The document's numbers, not the packages'.
const (
	horizon   = 1099511627776
	maxPeriod = 1073741824
	last      = horizon - 1

	original = 1
	revised  = 2

	inactive  = 1
	ready     = 2
	lagging   = 3
	throttled = 4
)

// Params that the tables lean on: a deadline that is the period's end, and one ahead of it.
var (
	whole = api.Params{Q: 2, D: 10, T: 10}
	early = api.Params{Q: 10, D: 20, T: 100}
	other = api.Params{Q: 3, D: 5, T: 9}
)

func nums(left, end, next int) cbs.Numbers { return cbs.Numbers{Left: left, End: end, Next: next} }

func made(t *testing.T, p api.Params, rule int) *life.Server {
	t.Helper()
	s, e := life.New(p, rule)
	if e != api.OK || s == nil {
		t.Fatal("New", p, rule, s, int(e))
	}
	return s
}

// dice is a row of numbers that is the same in every run.
func dice(seed uint64) func(n int) int {
	state := 88172645463325252 + seed
	return func(n int) int {
		state ^= state << 13
		state ^= state >> 7
		state ^= state << 17
		return int(state>>1) % n
	}
}

// A call is one by its name, so that rows of calls may be written down.
type call struct {
	name  string
	now   int
	spent int
	p     api.Params
}

func wake(now int) call              { return call{name: "Wake", now: now} }
func run(now, spent int) call        { return call{name: "Run", now: now, spent: spent} }
func sleep(now int) call             { return call{name: "Sleep", now: now} }
func yield(now int) call             { return call{name: "Yield", now: now} }
func fire(now int) call              { return call{name: "Fire", now: now} }
func set(now int, p api.Params) call { return call{name: "Set", now: now, p: p} }

func (c call) of(s *life.Server) api.Errno {
	switch c.name {
	case "Wake":
		return s.Wake(c.now)
	case "Run":
		return s.Run(c.now, c.spent)
	case "Sleep":
		return s.Sleep(c.now)
	case "Yield":
		return s.Yield(c.now)
	case "Fire":
		return s.Fire(c.now)
	}
	return s.Set(c.now, c.p)
}

// The model: what the document says of a server, by numbers without an end.

type model struct {
	p     api.Params
	rule  int
	state int
	n     cbs.Numbers
	clock int
	spent int
}

func newModel(p api.Params, rule int) *model { return &model{p: p, rule: rule, state: inactive} }

func wrongTime(t int) api.Errno {
	switch {
	case t < 0:
		return api.ErrRange
	case t >= horizon:
		return api.ErrHorizon
	}
	return api.OK
}

func wrongParams(p api.Params) api.Errno {
	if 1 <= p.Q && p.Q <= p.D && p.D <= p.T && p.T <= maxPeriod {
		return api.OK
	}
	return api.ErrArg
}

func product(a, b int) *big.Int { return new(big.Int).Mul(big.NewInt(int64(a)), big.NewInt(int64(b))) }

func quotient(a, b, c int) int {
	return int(new(big.Int).Quo(product(a, b), big.NewInt(int64(c))).Int64())
}

func fresh(now int, p api.Params) (cbs.Numbers, api.Errno) {
	if now+p.D >= horizon || now+p.T >= horizon {
		return cbs.Numbers{}, api.ErrHorizon
	}
	return nums(p.Q, now+p.D, now+p.T), api.OK
}

// kept is a server's numbers when it wakes up by a rule, and is not past its claim.
func kept(now int, p api.Params, n cbs.Numbers, rule int) (cbs.Numbers, api.Errno) {
	if n.End > now && product(n.Left, p.D).Cmp(product(n.End-now, p.Q)) <= 0 {
		return n, api.OK
	}
	if rule == original || n.End <= now || p.D == p.T {
		return fresh(now, p)
	}
	return nums(quotient(p.Q, n.End-now, p.D), n.End, n.Next), api.OK
}

func (m *model) lag() int {
	if m.n.Left < 1 {
		return m.n.End
	}
	return max(m.n.End-quotient(m.n.Left, m.p.T, m.p.Q), 0)
}

func (m *model) timer() (int, bool) {
	switch m.state {
	case lagging:
		return m.lag(), true
	case throttled:
		return m.n.Next, true
	}
	return 0, false
}

// may tells whether a call may be called in the model's state.
func (m *model) may(name string) bool {
	switch name {
	case "Wake":
		return m.state == inactive || m.state == lagging
	case "Run", "Yield":
		return m.state == ready
	case "Sleep":
		return m.state == ready || m.state == throttled
	case "Fire":
		return m.state == lagging || m.state == throttled
	}
	return true
}

// do is a call of the model.
func (m *model) do(c call) api.Errno {
	if e := wrongTime(c.now); e != api.OK {
		return e
	}
	if c.now < m.clock {
		return api.ErrRange
	}
	if !m.may(c.name) {
		return api.ErrState
	}
	behind := *m
	e := behind.act(c)
	if e != api.OK {
		return e
	}
	behind.clock = c.now
	*m = behind
	return api.OK
}

func (m *model) act(c call) (e api.Errno) {
	switch c.name {
	case "Wake":
		m.n, e = m.woken(c.now)
		m.state = ready
		if m.n.Left <= 0 {
			m.state = throttled
		}
	case "Run":
		if c.spent < 0 || c.spent > c.now-m.clock || c.spent > m.n.Left {
			return api.ErrArg
		}
		m.n.Left -= c.spent
		m.spent += c.spent
		if m.n.Left == 0 {
			m.state = throttled
		}
	case "Sleep":
		over := m.lag()
		if m.state == throttled {
			over = m.n.End
		}
		m.state = lagging
		if over <= c.now {
			m.state = inactive
		}
	case "Yield":
		m.n.Left = 0
		m.state = throttled
	case "Fire":
		return m.fired(c.now)
	case "Set":
		return m.set(c.now, c.p)
	}
	return e
}

func (m *model) woken(now int) (cbs.Numbers, api.Errno) {
	if m.rule == revised && m.p.D < m.p.T && now < m.n.Next {
		if now >= m.n.End {
			return nums(0, m.n.End, m.n.Next), api.OK
		}
		return kept(now, m.p, m.n, m.rule)
	}
	if m.state == inactive {
		return fresh(now, m.p)
	}
	return kept(now, m.p, m.n, m.rule)
}

func (m *model) fired(now int) api.Errno {
	if at, _ := m.timer(); at > now {
		return api.ErrArg
	}
	if m.state == lagging {
		m.state = inactive
		return api.OK
	}
	m.state = ready
	n := nums(m.p.Q, m.n.Next+m.p.D, m.n.Next+m.p.T)
	e := api.OK
	if n.End <= now {
		n, e = fresh(now, m.p)
	}
	if n.Next >= horizon {
		e = api.ErrHorizon
	}
	m.n = n
	return e
}

func (m *model) set(now int, p api.Params) api.Errno {
	if e := wrongParams(p); e != api.OK {
		return e
	}
	m.p = p
	if m.state == inactive {
		return api.OK
	}
	n, e := fresh(now, p)
	if m.state == throttled {
		n.Left = 0
	}
	m.n = n
	return e
}

// holds checks all that a server answers against the model.
func holds(t *testing.T, what any, s *life.Server, m *model) {
	t.Helper()
	at, is := s.Timer()
	wantAt, wantIs := m.timer()
	if s.State() != m.state || s.Numbers() != m.n || s.Params() != m.p || s.Spent() != m.spent || at != wantAt || is != wantIs {
		t.Fatalf("%v: state %d, numbers %v, params %v, spent %d, timer %d %v; want state %d, numbers %v, params %v, spent %d, timer %d %v",
			what, s.State(), s.Numbers(), s.Params(), s.Spent(), at, is, m.state, m.n, m.p, m.spent, wantAt, wantIs)
	}
}

// step does a call to both, and checks what they answer.
func step(t *testing.T, s *life.Server, m *model, c call) {
	t.Helper()
	was := *m
	if e, want := c.of(s), m.do(c); e != want {
		t.Fatalf("%+v of %+v: error %d, want %d", c, was, int(e), int(want))
	}
	holds(t, c, s, m)
}

// at asks for an error, a state, numbers and a timer (-1: none), by what the document says in words.
func at(t *testing.T, what string, s *life.Server, e, want api.Errno, state int, n cbs.Numbers, timer int) {
	t.Helper()
	when, is := s.Timer()
	if !is && when != 0 {
		t.Error(what, "no timer, but at", when)
	}
	if !is {
		when = -1
	}
	if e != want || s.State() != state || s.Numbers() != n || when != timer {
		t.Errorf("%s: error %d, state %d, numbers %v, timer %d; want %d, %d, %v, %d",
			what, int(e), s.State(), s.Numbers(), when, int(want), state, n, timer)
	}
}

// led is a server that some calls, none of which is refused, led where they lead.
func led(t *testing.T, p api.Params, rule int, row ...call) *life.Server {
	t.Helper()
	s := made(t, p, rule)
	for _, c := range row {
		if e := c.of(s); e != api.OK {
			t.Fatalf("%+v: error %d", c, int(e))
		}
	}
	return s
}

// inStates are servers in each state, by their states, with the clock at 3 and the params whole.
func inStates(t *testing.T) map[int]*life.Server {
	return map[int]*life.Server{
		inactive:  led(t, whole, original, wake(0), run(1, 1), sleep(3), set(3, whole), fire(3)),
		ready:     led(t, whole, original, wake(0), run(3, 1)),
		lagging:   led(t, whole, original, wake(0), run(3, 1), sleep(3)),
		throttled: led(t, whole, original, wake(0), run(3, 2)),
	}
}

func numbersOf(state int) cbs.Numbers {
	switch state {
	case inactive:
		return nums(2, 13, 13)
	case throttled:
		return nums(0, 10, 10)
	}
	return nums(1, 10, 10)
}

func timerOf(state int) int {
	switch state {
	case lagging:
		return 5
	case throttled:
		return 10
	}
	return -1
}

// P7.1

func TestStatesAreNumbered(t *testing.T) {
	if life.Inactive != inactive || life.Ready != ready || life.Lagging != lagging || life.Throttled != throttled {
		t.Error(life.Inactive, life.Ready, life.Lagging, life.Throttled)
	}
}

func TestNew(t *testing.T) {
	for _, c := range []struct {
		p    api.Params
		rule int
		want api.Errno
	}{
		{whole, original, api.OK},
		{whole, revised, api.OK},
		{early, original, api.OK},
		{early, revised, api.OK},
		{api.Params{Q: 1, D: 1, T: 1}, original, api.OK},
		{api.Params{Q: maxPeriod, D: maxPeriod, T: maxPeriod}, revised, api.OK},
		{api.Params{Q: 0, D: 10, T: 10}, original, api.ErrArg},
		{api.Params{Q: -1, D: 10, T: 10}, original, api.ErrArg},
		{api.Params{Q: 11, D: 10, T: 10}, original, api.ErrArg},
		{api.Params{Q: 2, D: 11, T: 10}, original, api.ErrArg},
		{api.Params{Q: 2, D: 10, T: maxPeriod + 1}, original, api.ErrArg},
		{api.Params{}, original, api.ErrArg},
		{whole, 0, api.ErrArg},
		{whole, 3, api.ErrArg},
		{whole, -1, api.ErrArg},
		{whole, math.MaxInt, api.ErrArg},
		{whole, math.MinInt, api.ErrArg},
		{api.Params{}, 0, api.ErrArg},
	} {
		s, e := life.New(c.p, c.rule)
		if e != c.want || (s == nil) != (e != api.OK) {
			t.Error(c, s, int(e))
		}
		if e == api.OK {
			holds(t, c, s, newModel(c.p, c.rule))
		}
	}
}

func TestTimerInEachState(t *testing.T) {
	for state, s := range inStates(t) {
		at(t, "led", s, api.OK, api.OK, state, numbersOf(state), timerOf(state))
		if s.Params() != whole {
			t.Error(state, s.Params())
		}
	}
}

// The timer of one that lags is told by its params and numbers as they are: with D less than T behind a Set, it may be over already.
func TestTimerOfLagIsNoLessThanNothing(t *testing.T) {
	s := led(t, whole, original, wake(0), sleep(0))
	at(t, "at once", s, api.OK, api.OK, inactive, nums(2, 10, 10), -1)
	s = led(t, whole, original, wake(0), run(1, 1), sleep(1), set(1, early))
	at(t, "set", s, api.OK, api.OK, lagging, nums(10, 21, 101), 0)
	s = led(t, whole, original, wake(0), run(1, 1), sleep(1), set(1, other))
	at(t, "set", s, api.OK, api.OK, lagging, nums(3, 6, 10), 0)
	s = led(t, whole, original, wake(100), run(101, 1), sleep(101), set(102, other))
	at(t, "set", s, api.OK, api.OK, lagging, nums(3, 107, 111), 98)
}

func TestSpentIsAllThatWasCharged(t *testing.T) {
	s := led(t, whole, original, wake(0), run(1, 1), run(5, 1), fire(10), run(11, 0))
	if s.Spent() != 2 {
		t.Error(s.Spent())
	}
	for _, c := range []call{run(12, 2), run(12, -1), run(10, 1), run(horizon, 1)} {
		if e := c.of(s); e == api.OK || s.Spent() != 2 {
			t.Error(c, int(e), s.Spent())
		}
	}
	for _, c := range []call{run(13, 1), yield(14), fire(20), set(20, other), sleep(20), wake(30), run(31, 1)} {
		if e := c.of(s); e != api.OK {
			t.Error(c, int(e))
		}
	}
	if s.Spent() != 4 {
		t.Error(s.Spent())
	}
}

// A time of each call: P7.1 to P7.3.

func anyCalls(now int) []call {
	return []call{wake(now), run(now, 0), sleep(now), yield(now), fire(now), set(now, other), set(now, api.Params{}), run(now, -1), run(now, 1000)}
}

func TestTimesThatMayNotBe(t *testing.T) {
	for _, c := range []struct {
		now  int
		want api.Errno
	}{
		{-1, api.ErrRange},
		{math.MinInt, api.ErrRange},
		{horizon, api.ErrHorizon},
		{math.MaxInt, api.ErrHorizon},
		{0, api.ErrRange},
		{2, api.ErrRange},
	} {
		for state, s := range inStates(t) {
			for _, l := range anyCalls(c.now) {
				at(t, l.name, s, l.of(s), c.want, state, numbersOf(state), timerOf(state))
			}
			if s.Params() != whole {
				t.Error(c, state, s.Params())
			}
		}
	}
}

// The clock stands at the greatest time that was told without an error.
func TestClock(t *testing.T) {
	for _, now := range []int{3, 4} {
		for state := range inStates(t) {
			for _, l := range []call{wake(now), run(now, 0), sleep(now), yield(now), set(now, other)} {
				s := inStates(t)[state]
				if l.of(s) != api.OK {
					continue
				}
				if e := s.Set(now-1, whole); e != api.ErrRange {
					t.Error(l, state, "behind the clock", int(e))
				}
				if e := s.Set(now, whole); e != api.OK {
					t.Error(l, state, "at the clock", int(e))
				}
			}
		}
	}
	s := inStates(t)[throttled]
	if e := s.Fire(12); e != api.OK || s.Set(11, whole) != api.ErrRange || s.Set(12, whole) != api.OK {
		t.Error("Fire", int(e))
	}
}

func TestClockStaysAtErrors(t *testing.T) {
	s := led(t, whole, original, wake(3), run(4, 1))
	for _, l := range []call{wake(9), run(9, 2), run(9, -1), fire(9), set(9, api.Params{}), set(last, whole), run(horizon, 0)} {
		if e := l.of(s); e == api.OK {
			t.Error(l)
		}
	}
	at(t, "as it was", s, s.Run(5, 1), api.OK, throttled, nums(0, 13, 13), 13)
	for _, l := range []call{fire(12), run(12, 0), yield(12), wake(12)} {
		if e := l.of(s); e == api.OK {
			t.Error(l)
		}
	}
	at(t, "as it was", s, s.Sleep(5), api.OK, lagging, nums(0, 13, 13), 13)
	for _, l := range []call{fire(12), run(12, 0), yield(12), sleep(12)} {
		if e := l.of(s); e == api.OK {
			t.Error(l)
		}
	}
	at(t, "as it was", s, s.Wake(5), api.OK, throttled, nums(0, 13, 13), 13)
}

// P7.2 and P7.3: each call in each state.

func TestCallsInStates(t *testing.T) {
	may := map[string][]int{
		"Wake":  {inactive, lagging},
		"Run":   {ready},
		"Sleep": {ready, throttled},
		"Yield": {ready},
		"Fire":  {lagging, throttled},
		"Set":   {inactive, ready, lagging, throttled},
	}
	for _, l := range []call{wake(20), run(20, 0), run(20, -1), run(20, 99), sleep(20), yield(20), fire(20), set(20, other)} {
		for state, s := range inStates(t) {
			in := false
			for _, one := range may[l.name] {
				in = in || one == state
			}
			e := l.of(s)
			if (e == api.ErrState) == in {
				t.Errorf("%+v in %d: error %d", l, state, int(e))
			}
			if !in {
				at(t, l.name, s, e, api.ErrState, state, numbersOf(state), timerOf(state))
			}
		}
	}
}

// P7.2

func TestWakeOfInactive(t *testing.T) {
	for _, rule := range []int{original, revised} {
		for _, now := range []int{0, 1, 9, 10, 11, 5000, last - 10} {
			s := made(t, whole, rule)
			at(t, "first", s, s.Wake(now), api.OK, ready, nums(2, now+10, now+10), -1)
		}
		s := made(t, early, rule)
		at(t, "first, D less than T", s, s.Wake(7), api.OK, ready, nums(10, 27, 107), -1)
		s = made(t, whole, rule)
		at(t, "behind the end", s, s.Wake(last-9), api.ErrHorizon, inactive, nums(0, 0, 0), -1)
		at(t, "as it was", s, s.Wake(0), api.OK, ready, nums(2, 10, 10), -1)
		// One that is past its claim is fresh, even if its deadline is ahead: D is T.
		s = led(t, whole, rule, wake(0), run(1, 1), sleep(5))
		at(t, "past its claim", s, s.Wake(5), api.OK, ready, nums(2, 15, 15), -1)
	}
	// By the original rule D less than T is no matter.
	s := led(t, early, original, wake(0), run(5, 5), sleep(5))
	at(t, "sleep", s, api.OK, api.OK, inactive, nums(5, 20, 100), -1)
	at(t, "fresh", s, s.Wake(6), api.OK, ready, nums(10, 26, 106), -1)
}

func TestWakeThatIsEarly(t *testing.T) {
	for _, c := range []struct {
		now   int
		state int
		n     cbs.Numbers
		timer int
	}{
		{5, ready, nums(5, 20, 100), -1},
		{9, ready, nums(5, 20, 100), -1},
		{10, ready, nums(5, 20, 100), -1}, // 5 times 20 is 10 times 10: it just fits
		{11, ready, nums(4, 20, 100), -1},
		{14, ready, nums(3, 20, 100), -1},
		{17, ready, nums(1, 20, 100), -1},
		{18, ready, nums(1, 20, 100), -1},
		{19, throttled, nums(0, 20, 100), 100}, // one ahead of End: 10 times 1, divided by 20
		{20, throttled, nums(0, 20, 100), 100}, // at End
		{21, throttled, nums(0, 20, 100), 100},
		{99, throttled, nums(0, 20, 100), 100}, // one ahead of Next
		{100, ready, nums(10, 120, 200), -1},   // at Next: not early
		{101, ready, nums(10, 121, 201), -1},
	} {
		s := led(t, early, revised, wake(0), run(5, 5), sleep(5))
		at(t, "sleep", s, api.OK, api.OK, inactive, nums(5, 20, 100), -1)
		at(t, "wake", s, s.Wake(c.now), api.OK, c.state, c.n, c.timer)
	}
}

// Who spent all, or gave it up, waits for the next period, whether its claim lasts or not.
func TestWakeOfOneThatHasNothingLeft(t *testing.T) {
	for _, c := range []struct {
		p     api.Params
		rule  int
		now   int
		state int
		n     cbs.Numbers
		timer int
	}{
		{early, revised, 15, throttled, nums(0, 20, 100), 100},
		{early, revised, 19, throttled, nums(0, 20, 100), 100},
		{early, revised, 20, throttled, nums(0, 20, 100), 100},
		{early, revised, 99, throttled, nums(0, 20, 100), 100},
		{early, revised, 100, ready, nums(10, 120, 200), -1},
		{early, original, 15, throttled, nums(0, 20, 100), 100},
		{early, original, 19, throttled, nums(0, 20, 100), 100},
		{early, original, 20, ready, nums(10, 40, 120), -1},
		{early, original, 99, ready, nums(10, 119, 199), -1},
		{api.Params{Q: 10, D: 20, T: 20}, original, 19, throttled, nums(0, 20, 20), 20},
		{api.Params{Q: 10, D: 20, T: 20}, original, 20, ready, nums(10, 40, 40), -1},
		{api.Params{Q: 10, D: 20, T: 20}, revised, 19, throttled, nums(0, 20, 20), 20},
		{api.Params{Q: 10, D: 20, T: 20}, revised, 20, ready, nums(10, 40, 40), -1},
	} {
		for _, row := range [][]call{{wake(0), run(12, 10), sleep(12)}, {wake(0), yield(12), sleep(12)}} {
			s := led(t, c.p, c.rule, row...)
			at(t, "sleep", s, api.OK, api.OK, lagging, nums(0, 20, c.p.T), 20)
			at(t, "wake", s, s.Wake(c.now), api.OK, c.state, c.n, c.timer)
		}
	}
}

// The lag of one that is not fresh, by either rule, and with D that is T or less than it.
func TestWakeOfLagging(t *testing.T) {
	tight := api.Params{Q: 10, D: 20, T: 25}
	for _, c := range []struct {
		p     api.Params
		rule  int
		now   int
		state int
		n     cbs.Numbers
	}{
		{whole, original, 4, ready, nums(1, 10, 10)},
		{whole, original, 5, ready, nums(1, 10, 10)}, // it just fits
		{whole, original, 6, ready, nums(2, 16, 16)},
		{whole, original, 9, ready, nums(2, 19, 19)},
		{whole, original, 10, ready, nums(2, 20, 20)},
		{whole, revised, 5, ready, nums(1, 10, 10)},
		{whole, revised, 6, ready, nums(2, 16, 16)}, // D is T: no cut
		{whole, revised, 10, ready, nums(2, 20, 20)},
		{tight, original, 18, ready, nums(1, 20, 25)},
		{tight, original, 19, ready, nums(10, 39, 44)},
		{tight, original, 20, ready, nums(10, 40, 45)},
		{tight, revised, 18, ready, nums(1, 20, 25)},
		{tight, revised, 19, throttled, nums(0, 20, 25)}, // early, and nothing fits
		{tight, revised, 20, throttled, nums(0, 20, 25)},
		{tight, revised, 24, throttled, nums(0, 20, 25)},
		{tight, revised, 25, ready, nums(10, 45, 50)},
	} {
		s := led(t, c.p, c.rule, wake(0), run(c.p.Q-1, c.p.Q-1), sleep(c.p.Q-1))
		if s.State() != lagging {
			t.Fatal(c, s.State())
		}
		timer := -1
		if c.state == throttled {
			timer = c.n.Next
		}
		at(t, "wake", s, s.Wake(c.now), api.OK, c.state, c.n, timer)
	}
}

func TestWakeBehindTheEndOfTime(t *testing.T) {
	s := led(t, whole, original, wake(last-10), run(last-8, 1), sleep(last-8))
	at(t, "sleep", s, api.OK, api.OK, lagging, nums(1, last, last), last-5)
	at(t, "not fitting", s, s.Wake(last-4), api.ErrHorizon, lagging, nums(1, last, last), last-5)
	at(t, "fitting", s, s.Wake(last-5), api.OK, ready, nums(1, last, last), -1)

	s = led(t, early, revised, wake(last-100), run(last-95, 5), sleep(last-95))
	c := s.Copy()
	at(t, "early", c, c.Wake(last-81), api.OK, throttled, nums(0, last-80, last), last)
	c = s.Copy()
	at(t, "early", c, c.Wake(last-1), api.OK, throttled, nums(0, last-80, last), last)
	at(t, "no next one", c, c.Fire(last), api.ErrHorizon, throttled, nums(0, last-80, last), last)
	at(t, "not early", s, s.Wake(last), api.ErrHorizon, inactive, nums(5, last-80, last), -1)
}

func TestRun(t *testing.T) {
	p := api.Params{Q: 5, D: 10, T: 10}
	for _, c := range []struct {
		now, spent int
		want       api.Errno
		left       int
	}{
		{3, 0, api.OK, 5},
		{4, 0, api.OK, 5},
		{6, 3, api.OK, 2},     // the whole way from the clock
		{6, 4, api.ErrArg, 5}, // one more
		{7, 4, api.OK, 1},
		{8, 5, api.OK, 0}, // all that is left, and the whole way
		{9, 5, api.OK, 0},
		{9, 6, api.ErrArg, 5}, // one more than is left
		{100, 5, api.OK, 0},   // past its deadline
		{100, 6, api.ErrArg, 5},
		{3, 1, api.ErrArg, 5},
		{3, -1, api.ErrArg, 5},
		{9, -1, api.ErrArg, 5},
		{9, math.MinInt, api.ErrArg, 5},
		{9, math.MaxInt, api.ErrArg, 5},
		{last, 5, api.OK, 0},
		{last, 0, api.OK, 5},
		{horizon, 0, api.ErrHorizon, 5},
		{horizon, -1, api.ErrHorizon, 5},
		{2, -1, api.ErrRange, 5},
	} {
		s := led(t, p, original, wake(3))
		e := s.Run(c.now, c.spent)
		if c.left == 0 {
			at(t, "run", s, e, c.want, throttled, nums(0, 13, 13), 13)
		} else {
			at(t, "run", s, e, c.want, ready, nums(c.left, 13, 13), -1)
		}
		if s.Spent() != 5-c.left {
			t.Error(c, s.Spent())
		}
	}
}

// The way of a Run is from the clock, which other calls move, too.
func TestRunFromTheClock(t *testing.T) {
	s := led(t, whole, original, wake(0), set(5, whole))
	at(t, "too much", s, s.Run(6, 2), api.ErrArg, ready, nums(2, 15, 15), -1)
	at(t, "no more", s, s.Run(6, 1), api.OK, ready, nums(1, 15, 15), -1)
	at(t, "again", s, s.Run(6, 1), api.ErrArg, ready, nums(1, 15, 15), -1)
	at(t, "nothing", s, s.Run(6, 0), api.OK, ready, nums(1, 15, 15), -1)
}

// P7.3

func TestSleep(t *testing.T) {
	// Of one that is ready: with 1 left of 2 the lag is at 5.
	for _, c := range []struct {
		now   int
		state int
	}{{1, lagging}, {4, lagging}, {5, inactive}, {6, inactive}, {10, inactive}, {last, inactive}} {
		s := led(t, whole, original, wake(0), run(1, 1))
		timer := -1
		if c.state == lagging {
			timer = 5
		}
		at(t, "sleep of ready", s, s.Sleep(c.now), api.OK, c.state, nums(1, 10, 10), timer)
	}
	// What is left over of the quotient is no matter: 10 less 20 divided by 3 is 4, not 3.
	for now, state := range map[int]int{3: lagging, 4: inactive} {
		s := led(t, api.Params{Q: 3, D: 10, T: 10}, original, wake(0), run(1, 1))
		if e := s.Sleep(now); e != api.OK || s.State() != state {
			t.Error(now, int(e), s.State())
		}
	}
	// Of one that is throttled: its deadline, not when the next period begins.
	for _, c := range []struct {
		now   int
		state int
	}{{10, lagging}, {19, lagging}, {20, inactive}, {21, inactive}, {99, inactive}, {100, inactive}} {
		for _, rule := range []int{original, revised} {
			s := led(t, early, rule, wake(0), run(10, 10))
			timer := -1
			if c.state == lagging {
				timer = 20
			}
			at(t, "sleep of throttled", s, s.Sleep(c.now), api.OK, c.state, nums(0, 20, 100), timer)
		}
	}
	// One that woke up past its deadline, and was throttled for it, has no claim.
	s := led(t, early, revised, wake(0), run(5, 5), sleep(5), wake(50))
	at(t, "sleep again", s, s.Sleep(50), api.OK, inactive, nums(0, 20, 100), -1)
	at(t, "wake again", s, s.Wake(99), api.OK, throttled, nums(0, 20, 100), 100)
}

func TestYield(t *testing.T) {
	for _, now := range []int{3, 4, 10, 500, last} {
		for _, rule := range []int{original, revised} {
			s := led(t, whole, rule, wake(3))
			at(t, "yield", s, s.Yield(now), api.OK, throttled, nums(0, 13, 13), 13)
			if s.Spent() != 0 {
				t.Error(s.Spent())
			}
			at(t, "again", s, s.Yield(now), api.ErrState, throttled, nums(0, 13, 13), 13)
		}
	}
}

func TestFireOfLagging(t *testing.T) {
	for _, now := range []int{5, 6, 10, 100, last} {
		s := led(t, whole, original, wake(0), run(1, 1), sleep(1))
		at(t, "too early", s, s.Fire(4), api.ErrArg, lagging, nums(1, 10, 10), 5)
		at(t, "fire", s, s.Fire(now), api.OK, inactive, nums(1, 10, 10), -1)
		at(t, "again", s, s.Fire(now), api.ErrState, inactive, nums(1, 10, 10), -1)
	}
}

func TestFireOfThrottled(t *testing.T) {
	for _, c := range []struct {
		p   api.Params
		now int
		n   cbs.Numbers
	}{
		{whole, 10, nums(2, 20, 20)},
		{whole, 13, nums(2, 20, 20)},
		{whole, 19, nums(2, 20, 20)},
		{whole, 20, nums(2, 30, 30)}, // the period's deadline is over: fresh
		{whole, 21, nums(2, 31, 31)},
		{whole, 500, nums(2, 510, 510)},
		{whole, last - 10, nums(2, last, last)},
		{early, 100, nums(10, 120, 200)},
		{early, 119, nums(10, 120, 200)},
		{early, 120, nums(10, 140, 220)},
		{early, 199, nums(10, 219, 299)},
	} {
		for _, rule := range []int{original, revised} {
			s := led(t, c.p, rule, wake(0), yield(1))
			at(t, "too early", s, s.Fire(c.p.T-1), api.ErrArg, throttled, nums(0, c.p.D, c.p.T), c.p.T)
			at(t, "too early", s, s.Fire(1), api.ErrArg, throttled, nums(0, c.p.D, c.p.T), c.p.T)
			at(t, "fire", s, s.Fire(c.now), api.OK, ready, c.n, -1)
		}
	}
	s := led(t, whole, original, wake(0), yield(1))
	at(t, "behind the end", s, s.Fire(last-9), api.ErrHorizon, throttled, nums(0, 10, 10), 10)
	at(t, "as it was", s, s.Fire(10), api.OK, ready, nums(2, 20, 20), -1)
	s = led(t, whole, original, wake(last-10), yield(last-9))
	at(t, "too early", s, s.Fire(last-1), api.ErrArg, throttled, nums(0, last, last), last)
	at(t, "behind the end", s, s.Fire(last), api.ErrHorizon, throttled, nums(0, last, last), last)
}

func TestSet(t *testing.T) {
	for state, s := range inStates(t) {
		want, timer := nums(3, 11, 15), -1
		switch state {
		case inactive:
			want = numbersOf(inactive)
		case lagging:
			timer = 2
		case throttled:
			want.Left, timer = 0, 15
		}
		at(t, "set", s, s.Set(6, other), api.OK, state, want, timer)
		if s.Params() != other {
			t.Error(state, s.Params())
		}
	}
}

func TestSetThatIsRefused(t *testing.T) {
	for state, s := range inStates(t) {
		for _, p := range []api.Params{{}, {Q: 0, D: 1, T: 1}, {Q: 2, D: 1, T: 1}, {Q: 1, D: 2, T: 1}, {Q: 1, D: 1, T: maxPeriod + 1}} {
			at(t, "params", s, s.Set(6, p), api.ErrArg, state, numbersOf(state), timerOf(state))
			at(t, "params ahead of the end", s, s.Set(last, p), api.ErrArg, state, numbersOf(state), timerOf(state))
			at(t, "time ahead of params", s, s.Set(horizon, p), api.ErrHorizon, state, numbersOf(state), timerOf(state))
			at(t, "time ahead of params", s, s.Set(2, p), api.ErrRange, state, numbersOf(state), timerOf(state))
		}
		if state != inactive {
			at(t, "the end", s, s.Set(last-8, other), api.ErrHorizon, state, numbersOf(state), timerOf(state))
		}
		if s.Params() != whole {
			t.Error(state, s.Params())
		}
		if e := s.Set(last-9, other); e != api.OK || s.Params() != other || s.State() != state {
			t.Error(state, int(e), s.Params(), s.State())
		}
	}
	// One that sleeps without a claim has no times that could be behind the end.
	s := made(t, whole, original)
	at(t, "inactive", s, s.Set(last, other), api.OK, inactive, nums(0, 0, 0), -1)
}

// Numbers of other params stay with one that is inactive: what they are worth is told by the new ones.
func TestWakeBehindSet(t *testing.T) {
	s := led(t, whole, revised, wake(0), run(1, 1), sleep(6), set(6, api.Params{Q: 2, D: 8, T: 20}))
	at(t, "set", s, api.OK, api.OK, inactive, nums(1, 10, 10), -1)
	c := s.Copy()
	at(t, "early", c, c.Wake(6), api.OK, ready, nums(1, 10, 10), -1)
	c = s.Copy()
	at(t, "cut", c, c.Wake(7), api.OK, throttled, nums(0, 10, 10), 10)
	at(t, "fire", c, c.Fire(10), api.OK, ready, nums(2, 18, 30), -1)
	at(t, "fresh", s, s.Wake(10), api.OK, ready, nums(2, 18, 30), -1)
}

func TestNil(t *testing.T) {
	var s *life.Server
	for _, now := range []int{0, 5, -1, horizon, math.MaxInt, math.MinInt} {
		for _, l := range anyCalls(now) {
			if e := l.of(s); e != api.ErrNil {
				t.Error(l, int(e))
			}
		}
	}
	if when, is := s.Timer(); when != 0 || is {
		t.Error("Timer", when, is)
	}
	if s.State() != 0 || s.Numbers() != nums(0, 0, 0) || s.Params() != (api.Params{}) || s.Spent() != 0 || s.Copy() != nil {
		t.Error(s.State(), s.Numbers(), s.Params(), s.Spent(), s.Copy())
	}
}

func TestExample(t *testing.T) {
	s := made(t, whole, original)
	at(t, "wake", s, s.Wake(0), api.OK, ready, nums(2, 10, 10), -1)
	at(t, "run", s, s.Run(2, 2), api.OK, throttled, nums(0, 10, 10), 10)
	at(t, "fire", s, s.Fire(13), api.OK, ready, nums(2, 20, 20), -1)
}

// Copy

func TestCopyGoesItsOwnWay(t *testing.T) {
	for state := range inStates(t) {
		for _, l := range []call{wake(20), run(20, 1), sleep(20), yield(20), fire(20), set(20, other)} {
			s := inStates(t)[state]
			was, spent := s.Numbers(), s.Spent()
			c := s.Copy()
			at(t, "copy", c, api.OK, api.OK, state, was, timerOf(state))
			if c == s || c.Params() != whole || c.Spent() != spent {
				t.Error(state, c.Params(), c.Spent())
			}
			l.of(c)
			at(t, "as it was", s, api.OK, api.OK, state, was, timerOf(state))
			if s.Params() != whole || s.Spent() != spent {
				t.Error(l, state, s.Params(), s.Spent())
			}
			// The clock of the one is not the other's.
			if e := s.Set(3, whole); e != api.OK {
				t.Error(l, state, int(e))
			}
			s = inStates(t)[state]
			c = s.Copy()
			l.of(s)
			at(t, "as it was", c, c.Set(2, other), api.ErrRange, state, was, timerOf(state))
			if c.Params() != whole || c.Spent() != spent || c.Set(3, whole) != api.OK {
				t.Error(l, state, c.Params(), c.Spent())
			}
		}
	}
	// A copy has the rule, too.
	c := led(t, early, revised, wake(0), run(5, 5), sleep(5)).Copy()
	at(t, "rule", c, c.Wake(14), api.OK, ready, nums(3, 20, 100), -1)
}

// All rows of a few calls, over small times, against the model.
func TestAllShortRows(t *testing.T) {
	for _, p := range []api.Params{{Q: 2, D: 5, T: 5}, {Q: 2, D: 3, T: 5}, {Q: 1, D: 1, T: 3}, {Q: 3, D: 4, T: 5}} {
		for _, rule := range []int{original, revised} {
			s := made(t, p, rule)
			m := newModel(p, rule)
			goOn(t, s, m, 4)
		}
	}
}

func goOn(t *testing.T, s *life.Server, m *model, more int) {
	if more == 0 {
		return
	}
	for _, way := range []int{0, 1, 2, 3, 5} {
		now := m.clock + way
		for _, l := range []call{wake(now), run(now, 0), run(now, 1), run(now, 2), sleep(now), yield(now), fire(now), set(now, api.Params{Q: 1, D: 2, T: 3})} {
			c := s.Copy()
			n := *m
			step(t, c, &n, l)
			if n != *m {
				goOn(t, c, &n, more-1)
			}
		}
	}
}

// Long rows of calls, some of which are wrong, against the model.
func TestLongRows(t *testing.T) {
	for seed := range 60 {
		roll := dice(uint64(seed) * 7919)
		p := params(roll, seed)
		m := newModel(p, 1+seed%2)
		s := made(t, p, 1+seed%2)
		for range 3000 {
			step(t, s, m, anyCall(roll, m))
		}
	}
}

// params are such as may be, small or great.
func params(roll func(int) int, kind int) api.Params {
	most := []int{6, 40, 1000, maxPeriod}[kind%4]
	p := api.Params{T: 1 + roll(most)}
	p.D = 1 + roll(p.T)
	if kind%3 == 0 {
		p.D = p.T
	}
	p.Q = 1 + roll(p.D)
	return p
}

// anyCall is one that is often of use, and sometimes wrong.
func anyCall(roll func(int) int, m *model) call {
	now := m.clock + roll(m.p.T/3+2)
	switch roll(12) {
	case 0:
		now = m.n.End + roll(3) - 1
	case 1:
		now = m.n.Next + roll(3) - 1
	case 2:
		if when, is := m.timer(); is {
			now = when + roll(3) - 1
		}
	case 3:
		now = m.clock + roll(3) - 1
	case 4:
		now = m.clock
	}
	switch roll(9) {
	case 0, 1:
		return wake(now)
	case 2, 3:
		spent := min(max(now-m.clock, 0), m.n.Left) + roll(3) - 1
		if roll(2) == 0 {
			spent = roll(m.p.Q + 1)
		}
		return run(now, spent)
	case 4:
		return sleep(now)
	case 5:
		return yield(now)
	case 6, 7:
		return fire(now)
	}
	p := params(roll, roll(12))
	if roll(4) == 0 {
		p.Q = p.D + roll(2)
	}
	if roll(3) > 0 {
		p = m.p
	}
	return set(now, p)
}

// Rows near the end of time, where there is no room for periods.
func TestRowsAtTheEndOfTime(t *testing.T) {
	for seed := range 40 {
		roll := dice(uint64(seed) * 104729)
		p := params(roll, seed%3)
		m := newModel(p, 1+seed%2)
		s := made(t, p, 1+seed%2)
		step(t, s, m, set(horizon-1-4*p.T, p))
		for range 300 {
			step(t, s, m, anyCall(roll, m))
		}
	}
}

// What a server answers hangs on its own calls alone (R3).
func TestServersAreApart(t *testing.T) {
	a, b := made(t, whole, original), made(t, early, revised)
	m, n := newModel(whole, original), newModel(early, revised)
	roll := dice(5)
	for range 500 {
		step(t, a, m, anyCall(roll, m))
		holds(t, "other", b, n)
		step(t, b, n, anyCall(roll, n))
		holds(t, "other", a, m)
	}
}

// P7.4

// A charge is how much, and when it was told.
type charge struct{ at, spent int }

// bounded checks all windows from a charge to one behind it: T times what was charged is no more than Q times the way and 3 T.
func bounded(t *testing.T, p api.Params, rule int, row []charge) {
	t.Helper()
	for i := range row {
		sum := 0
		for _, c := range row[i:] {
			sum += c.spent
			way := c.at - row[i].at
			if product(p.T, sum).Cmp(product(p.Q, way+3*p.T)) > 0 {
				t.Fatalf("%v by rule %d: %d charged from %d to %d", p, rule, sum, row[i].at, c.at)
			}
		}
	}
}

// play does calls that ask for as much as can be had, with timers that fire late, and answers what was charged.
func play(t *testing.T, p api.Params, rule int, roll func(int) int, late int) []charge {
	t.Helper()
	s := made(t, p, rule)
	clock := 0
	var row []charge
	for range 400 {
		state, left, spent := s.State(), s.Numbers().Left, s.Spent()
		if state == ready && left < 1 || state == throttled && left != 0 || left < 0 || left > p.Q {
			t.Fatalf("%v by rule %d: state %d with %d left", p, rule, state, left)
		}
		c := greedy(s, clock, roll, late)
		e := c.of(s)
		if e != api.OK && e != api.ErrArg {
			t.Fatalf("%+v: error %d", c, int(e))
		}
		if e != api.OK {
			continue
		}
		more := s.Spent() - spent
		if more != 0 && (state != ready || c.name != "Run") || more < 0 || more > left || more > c.now-clock {
			t.Fatalf("%+v in state %d with %d left: charged %d", c, state, left, more)
		}
		if more > 0 {
			row = append(row, charge{c.now, more})
		}
		clock = c.now
	}
	return row
}

// greedy is a call by which a server in its state gets on.
func greedy(s *life.Server, clock int, roll func(int) int, late int) call {
	p := s.Params()
	soon := clock + roll(p.D+1)
	when, is := s.Timer()
	switch s.State() {
	case inactive:
		return wake(clock + roll(3)*roll(p.T+1))
	case lagging:
		if roll(2) == 0 {
			return fire(max(clock, when) + roll(late+1))
		}
		return wake(soon)
	case throttled:
		if is && roll(5) > 0 {
			return fire(max(clock, when) + roll(late+1))
		}
		return sleep(soon)
	}
	left := s.Numbers().Left
	switch roll(8) {
	case 0:
		return sleep(soon)
	case 1:
		return yield(soon)
	case 2:
		return run(clock+1+roll(left), 1)
	case 3:
		// Budget that is held for long, and spent just behind a late timer's time, is the worst.
		return run(max(clock, s.Numbers().End+roll(p.T+1))+left, left)
	case 4:
		return run(clock+left, left+1)
	}
	return run(clock+left, left)
}

func TestChargesAreBounded(t *testing.T) {
	for seed := range 200 {
		roll := dice(uint64(seed) * 6151)
		p := params(roll, roll(3))
		rule := revised
		if seed%2 == 0 {
			p.D = p.T
			rule = 1 + roll(2)
		}
		for _, late := range []int{0, 1, p.T - 1, p.T, 3 * p.T} {
			row := play(t, p, rule, roll, late)
			if len(row) < 20 {
				t.Fatal(p, rule, late, "too few charges", len(row))
			}
			bounded(t, p, rule, row)
		}
	}
}

// The bound's 3 T are used up but for 1: a budget that was held, one that is late, and one that is in time.
func TestBoundIsReached(t *testing.T) {
	for _, rule := range []int{original, revised} {
		p := api.Params{Q: 1, D: 100, T: 100}
		s := led(t, p, rule, wake(0), run(199, 1), fire(199), run(200, 1), fire(200), run(201, 1))
		at(t, "three", s, api.OK, api.OK, throttled, nums(0, 300, 300), 300)
		if s.Spent() != 3 {
			t.Error(s.Spent())
		}
	}
}

// A timer that is late by more than a period brings one budget, not one for each period that was missed.
func TestLateTimersBringNoMore(t *testing.T) {
	for _, rule := range []int{original, revised} {
		s := led(t, whole, rule, wake(0), run(2, 2), fire(1000))
		at(t, "late", s, api.OK, api.OK, ready, nums(2, 1010, 1010), -1)
		at(t, "too much", s, s.Run(1009, 3), api.ErrArg, ready, nums(2, 1010, 1010), -1)
		at(t, "all", s, s.Run(1009, 2), api.OK, throttled, nums(0, 1010, 1010), 1010)
	}
}
