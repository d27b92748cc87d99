package clock_test

import (
	"math"
	"math/rand"
	"runtime"
	"slices"
	"sort"
	"testing"

	"tollbar/clock"
)

const mostTicks = 1099511627776

// model says again, with a plain list that is gone through whole, what the chapter says of a clock.
type model struct {
	now int64
	set []pair
}

type pair struct {
	id int
	at int64
}

func (m *model) Now() int64 { return m.now }

func (m *model) Pass(n int) []int {
	if n > 0 && int64(n) > mostTicks-m.now {
		m.now = mostTicks
	} else if n > 0 {
		m.now += int64(n)
	}
	var due, left []pair
	for _, p := range m.set {
		if p.at <= m.now {
			due = append(due, p)
		} else {
			left = append(left, p)
		}
	}
	m.set = left
	sort.Slice(due, func(i, j int) bool { return due[i].id < due[j].id })
	sort.SliceStable(due, func(i, j int) bool { return due[i].at < due[j].at })
	var ids []int
	for _, p := range due {
		ids = append(ids, p.id)
	}
	return ids
}

func (m *model) Set(id int, at int64) {
	m.Drop(id)
	if at > mostTicks {
		at = mostTicks
	}
	m.set = append(m.set, pair{id, at})
}

func (m *model) Drop(id int) bool {
	for i, p := range m.set {
		if p.id == id {
			m.set = append(m.set[:i:i], m.set[i+1:]...)
			return true
		}
	}
	return false
}

func (m *model) Next() (int64, bool) {
	if len(m.set) == 0 {
		return 0, false
	}
	least := m.set[0].at
	for _, p := range m.set {
		if p.at < least {
			least = p.at
		}
	}
	return least, true
}

// timer is what a clock and the model have in common.
type timer interface {
	Now() int64
	Pass(n int) []int
	Set(id int, at int64)
	Drop(id int) bool
	Next() (int64, bool)
}

// same holds what may be asked of both, without changing them, against each other.
func same(a, b timer) bool {
	at, some := a.Next()
	wantAt, wantSome := b.Next()
	return a.Now() == b.Now() && at == wantAt && some == wantSome
}

func passes(t *testing.T, c *clock.Clock, n int, want ...int) {
	t.Helper()
	if got := c.Pass(n); !slices.Equal(got, want) {
		t.Errorf("Pass(%d) = %v; want %v", n, got, want)
	}
}

func next(t *testing.T, c *clock.Clock, want int64, some bool) {
	t.Helper()
	if at, ok := c.Next(); at != want || ok != some {
		t.Errorf("Next = %d, %v; want %d, %v", at, ok, want, some)
	}
}

// P15.1: the chapter's example.
func TestExample(t *testing.T) {
	c := clock.New()
	c.Set(2, 5)
	c.Set(1, 5)
	c.Set(3, 4)
	passes(t, c, 4, 3)
	passes(t, c, 1, 1, 2)
	passes(t, c, 9)
	if c.Now() != 14 {
		t.Errorf("Now = %d", c.Now())
	}
}

// P15.1: at first the time is 0, and nothing is to happen.
func TestNew(t *testing.T) {
	c := clock.New()
	next(t, c, 0, false)
	if c.Now() != 0 || c.Drop(0) || c.Drop(1) || c.Drop(-1) {
		t.Error("a new clock")
	}
	passes(t, c, 0)
	passes(t, c, math.MaxInt)
	next(t, c, 0, false)
}

// P15.1: what counts as another number, and where time ends.
func TestTime(t *testing.T) {
	for _, x := range []struct {
		passes []int
		now    int64
	}{
		{[]int{0}, 0}, {[]int{1}, 1}, {[]int{-1}, 0}, {[]int{math.MinInt}, 0}, {[]int{5, -3}, 5}, {[]int{5, math.MinInt, 2}, 7},
		{[]int{mostTicks - 1}, mostTicks - 1}, {[]int{mostTicks}, mostTicks}, {[]int{mostTicks + 1}, mostTicks}, {[]int{math.MaxInt}, mostTicks},
		{[]int{mostTicks - 1, 1}, mostTicks}, {[]int{mostTicks - 1, 2}, mostTicks}, {[]int{1, mostTicks}, mostTicks}, {[]int{1, math.MaxInt}, mostTicks},
		{[]int{mostTicks, 1}, mostTicks}, {[]int{mostTicks, math.MaxInt, math.MaxInt}, mostTicks}, {[]int{math.MaxInt, -1}, mostTicks}, {[]int{math.MaxInt, math.MinInt}, mostTicks},
		{[]int{1 << 32, 1 << 32}, 1 << 33},
	} {
		c := clock.New()
		for _, n := range x.passes {
			passes(t, c, n)
		}
		if c.Now() != x.now {
			t.Errorf("Now behind %v = %d", x.passes, c.Now())
		}
	}
}

// P15.1: moments at the edges.
func TestMoments(t *testing.T) {
	for _, x := range []struct{ at, counts int64 }{
		{math.MinInt64, math.MinInt64}, {-1, -1}, {0, 0}, {1, 1}, {1 << 32, 1 << 32}, {mostTicks - 1, mostTicks - 1}, {mostTicks, mostTicks}, {mostTicks + 1, mostTicks}, {1 << 41, mostTicks}, {math.MaxInt64, mostTicks},
	} {
		c := clock.New()
		c.Set(7, x.at)
		next(t, c, x.counts, true)
		if x.counts > 0 {
			passes(t, c, 0)
			passes(t, c, int(x.counts)-1)
			passes(t, c, -1)
			next(t, c, x.counts, true)
			passes(t, c, 1, 7)
		} else {
			passes(t, c, math.MinInt, 7)
		}
		next(t, c, 0, false)
		passes(t, c, math.MaxInt)
	}
}

// P15.1: what is set behind its moment, or at it, happens in the next Pass, even if no time goes by; at the end of time, too.
func TestLate(t *testing.T) {
	for _, n := range []int{0, -1, 1, math.MaxInt} {
		c := clock.New()
		passes(t, c, 10)
		c.Set(1, 10)
		c.Set(2, 9)
		c.Set(3, -9)
		c.Set(4, 12+mostTicks)
		if n == math.MaxInt {
			passes(t, c, n, 3, 2, 1, 4)
			c.Set(5, math.MaxInt64)
			next(t, c, mostTicks, true)
			passes(t, c, -1, 5)
			continue
		}
		passes(t, c, n, 3, 2, 1)
		passes(t, c, n)
	}
}

// P15.1: numbers of one moment happen by rising numbers, whichever they are.
func TestOneMoment(t *testing.T) {
	ids := []int{5, -5, 0, math.MaxInt, math.MinInt, 1, -1, 1 << 32, 10, 9}
	for turn := range ids {
		c := clock.New()
		for i := range ids {
			c.Set(ids[(i+turn)%len(ids)], 3)
		}
		passes(t, c, 3, math.MinInt, -5, -1, 0, 1, 5, 9, 10, 1<<32, math.MaxInt)
	}
	c := clock.New()
	c.Set(1, mostTicks+5)
	c.Set(0, mostTicks+9)
	c.Set(2, mostTicks)
	passes(t, c, math.MaxInt, 0, 1, 2)
}

// P15.1: several moments that come in one Pass.
func TestRisingMoments(t *testing.T) {
	c := clock.New()
	for id, at := range []int64{30, 10, 20, 10, -4, 30, 40, 20} {
		c.Set(id, at)
	}
	passes(t, c, 30, 4, 1, 3, 2, 7, 0, 5)
	next(t, c, 40, true)
	passes(t, c, 10, 6)
}

// P15.1: a moment in the place of another, and one that is dropped.
func TestSetAgain(t *testing.T) {
	c := clock.New()
	for id := range 5 {
		c.Set(id, int64(10+id))
	}
	c.Set(0, 100)
	next(t, c, 11, true)
	c.Set(4, 1)
	next(t, c, 1, true)
	c.Set(2, 12)
	passes(t, c, 50, 4, 1, 2, 3)
	next(t, c, 100, true)
	c.Set(1, 60)
	if !c.Drop(0) || c.Drop(0) || c.Drop(2) || c.Drop(4) {
		t.Error("Drop")
	}
	next(t, c, 60, true)
	passes(t, c, 10, 1)
	if c.Drop(1) {
		t.Error("Drop of what has happened")
	}
	c.Set(0, 61)
	passes(t, c, 1, 0)
	passes(t, c, math.MaxInt)
}

// P15.1: whichever is dropped or moved, the others happen in their order.
func TestDropAny(t *testing.T) {
	moments := []int64{5, 3, 8, 1, 9, 3, 7, 2, 8, 6, 4, 1}
	for id := range moments {
		for _, to := range []int64{-1, 0, 2, 3, 5, 8, 20} {
			c, m := clock.New(), &model{}
			for i, at := range moments {
				c.Set(i, at)
				m.Set(i, at)
			}
			if to < 0 {
				if !c.Drop(id) || !m.Drop(id) {
					t.Fatalf("Drop(%d)", id)
				}
			} else {
				c.Set(id, to)
				m.Set(id, to)
			}
			for range 22 {
				if !same(c, m) {
					t.Fatalf("number %d to %d, at %d", id, to, c.Now())
				}
				passes(t, c, 1, m.Pass(1)...)
			}
		}
	}
}

// P15.1: a clock is by itself, and what it answers is the caller's.
func TestOwnMemory(t *testing.T) {
	a, b := clock.New(), clock.New()
	for id := range 6 {
		a.Set(id, int64(1+id/3))
	}
	if b.Drop(0) || len(b.Pass(5)) != 0 || a.Now() != 0 {
		t.Error("one is moved by the other")
	}
	first := a.Pass(1)
	if !slices.Equal(first, []int{0, 1, 2}) {
		t.Fatalf("Pass = %v", first)
	}
	for i := range first[:cap(first)] {
		first[:cap(first)][i] = 99
	}
	second := a.Pass(1)
	if !slices.Equal(second, []int{3, 4, 5}) || first[0] != 99 {
		t.Errorf("Pass = %v, and %v ahead of it", second, first)
	}
	passes(t, a, 99)
}

// call is a call of a clock.
type call struct {
	kind byte // s, d, p
	id   int
	at   int64
}

// does makes the call of both, and tells whether they answer the same.
func (x call) does(c *clock.Clock, m *model) bool {
	switch x.kind {
	case 's':
		c.Set(x.id, x.at)
		m.Set(x.id, x.at)
	case 'd':
		return c.Drop(x.id) == m.Drop(x.id) && same(c, m)
	case 'p':
		return slices.Equal(c.Pass(int(x.at)), m.Pass(int(x.at))) && same(c, m)
	}
	return same(c, m)
}

// P15.1: every order of a few calls.
func TestEveryOrder(t *testing.T) {
	calls := []call{{'s', 1, 2}, {'s', 2, 2}, {'s', 1, 4}, {'s', 3, 1}, {'s', 0, -1}, {'d', 1, 0}, {'d', 2, 0}, {'p', 0, 0}, {'p', 0, 1}, {'p', 0, 2}}
	runs := 0
	var run func(done []int)
	run = func(done []int) {
		runs++
		c, m := clock.New(), &model{}
		for _, i := range done {
			if !calls[i].does(c, m) {
				t.Fatalf("calls %v: %d", done, i)
			}
		}
		if got, want := c.Pass(math.MaxInt), m.Pass(math.MaxInt); !slices.Equal(got, want) {
			t.Fatalf("behind calls %v: %v; want %v", done, got, want)
		}
		if len(done) < 5 {
			for i := range calls {
				run(append(done[:len(done):len(done)], i))
			}
		}
	}
	run(nil)
	if runs != 111111 {
		t.Errorf("%d runs", runs)
	}
}

// P15.1: long runs of calls by chance.
func TestChance(t *testing.T) {
	rnd := rand.New(rand.NewSource(15))
	happened, dropped := 0, 0
	for range 400 {
		c, m := clock.New(), &model{}
		ids, span := 1+rnd.Intn(60), 1+rnd.Int63n(1<<rnd.Intn(30))
		for i := range 300 {
			x := call{'s', rnd.Intn(ids) - ids/3, c.Now() + rnd.Int63n(span+1) - span/8}
			switch rnd.Intn(8) {
			case 0:
				x.kind = 'd'
			case 1, 2:
				x.kind, x.at = 'p', rnd.Int63n(span/8+2)-1
			case 3:
				x.at = []int64{math.MinInt64, -1, 0, mostTicks - 1, mostTicks, mostTicks + 1, math.MaxInt64}[rnd.Intn(7)]
			}
			if i == 290 {
				x = call{'p', 0, mostTicks - c.Now() - rnd.Int63n(2)}
			}
			had := len(m.set)
			if !x.does(c, m) {
				t.Fatalf("call %d: %c of %d, %d", i, x.kind, x.id, x.at)
			}
			if x.kind == 'p' {
				happened += had - len(m.set)
			} else if x.kind == 'd' {
				dropped += had - len(m.set)
			}
		}
	}
	if happened < 5000 || dropped < 2000 {
		t.Errorf("only %d happened, %d were dropped", happened, dropped)
	}
}

// P15.2: each number happens once, in the first Pass by which its moment has come, unless it is dropped or set again.
func TestHappensOnce(t *testing.T) {
	rnd := rand.New(rand.NewSource(152))
	for range 300 {
		c := clock.New()
		due := map[int]int64{}
		for range 200 {
			id, at := rnd.Intn(40), c.Now()+rnd.Int63n(50)-5
			switch rnd.Intn(5) {
			case 0, 1:
				c.Set(id, at)
				due[id] = at
			case 2:
				c.Drop(id)
				delete(due, id)
			default:
				for _, id := range c.Pass(rnd.Intn(8)) {
					at, waits := due[id]
					if !waits || at > c.Now() {
						t.Fatalf("%d happens at %d; set: %v, for %d", id, c.Now(), waits, at)
					}
					delete(due, id)
				}
				for id, at := range due {
					if at <= c.Now() {
						t.Fatalf("%d, set for %d, hasn't happened at %d", id, at, c.Now())
					}
				}
			}
		}
		if got := c.Pass(math.MaxInt); len(got) != len(due) {
			t.Fatalf("%d happen in the end, of %d", len(got), len(due))
		}
		passes(t, c, math.MaxInt)
	}
}

// P15.2: time that goes by in one Pass or in many brings the same, in the same order.
func TestOnePassOrMany(t *testing.T) {
	rnd := rand.New(rand.NewSource(153))
	for range 200 {
		one, many := clock.New(), clock.New()
		for range 50 {
			id, at := rnd.Intn(60), rnd.Int63n(100)-3
			one.Set(id, at)
			many.Set(id, at)
		}
		var whole []int
		for many.Now() < 100 {
			whole = append(whole, many.Pass(rnd.Intn(min(7, 101-int(many.Now()))))...)
		}
		if got := one.Pass(100); !slices.Equal(got, whole) {
			t.Fatalf("%v in one, %v in many", got, whole)
		}
	}
}

// P15.1: many numbers.
func TestGreat(t *testing.T) {
	const many = 300000
	c := clock.New()
	for i := range many {
		c.Set(i, int64(i%1000))
	}
	for i := range many {
		c.Set(i, int64(many-i))
	}
	for i := 0; i < many; i += 2 {
		if !c.Drop(i) {
			t.Fatalf("Drop(%d)", i)
		}
	}
	got := c.Pass(many)
	if len(got) != many/2 {
		t.Fatalf("%d happened", len(got))
	}
	for i, id := range got {
		if id != many-1-2*i {
			t.Fatalf("%d is at place %d", id, i)
		}
	}
}

// P15.2: what was set again, or dropped, isn't kept.
func TestKeepsNoMore(t *testing.T) {
	c := clock.New()
	held := func() uint64 {
		var m runtime.MemStats
		runtime.GC()
		runtime.ReadMemStats(&m)
		return m.HeapAlloc
	}
	before := held()
	for i := range 1000000 {
		c.Set(1, int64(i))
		c.Set(2, mostTicks)
		c.Drop(2)
	}
	if more := held() - before; more > 1<<20 && more < 1<<62 {
		t.Errorf("%d bytes more are held", more)
	}
	passes(t, c, math.MaxInt, 1)
}
