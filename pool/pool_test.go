package pool_test

import (
	"fmt"
	"math"
	"math/rand"
	"strings"
	"testing"
	"unsafe"

	"tollbar/api"
	"tollbar/pool"
)

const mostHandles = 64

// model says again, with a plain list and a count of all calls, what the chapter says of a pool.
type model struct {
	most, made, calls int
	there             []lent
}

type lent struct {
	h, state, since int
	aim             string
}

func newModel(most int) *model {
	if most < 0 {
		most = 0
	}
	if most > mostHandles {
		most = mostHandles
	}
	return &model{most: most}
}

// find is where a handle stands, -1: nowhere.
func (m *model) find(h int) int {
	for i, x := range m.there {
		if x.h == h {
			return i
		}
	}
	return -1
}

func (m *model) Take(aim string) (pool.Lease, api.Errno) {
	m.calls++
	shortest, longest := -1, -1
	for i, x := range m.there {
		if x.state != 3 {
			continue
		}
		if x.aim == aim && (shortest < 0 || x.since > m.there[shortest].since) {
			shortest = i
		}
		if longest < 0 || x.since < m.there[longest].since {
			longest = i
		}
	}
	if shortest >= 0 {
		m.there[shortest].state = 2
		return pool.Lease{H: m.there[shortest].h}, api.OK
	}
	lease := pool.Lease{Fresh: true}
	if len(m.there) == m.most {
		if longest < 0 {
			return pool.Lease{}, api.ErrFull
		}
		lease.Shut = m.there[longest].h
		m.Shut(lease.Shut)
	}
	m.made++
	lease.H = m.made
	m.there = append(m.there, lent{h: m.made, state: 1, aim: aim})
	return lease, api.OK
}

func (m *model) become(h, from, to int) bool {
	m.calls++
	i := m.find(h)
	if i < 0 || m.there[i].state != from {
		return false
	}
	m.there[i].state, m.there[i].since = to, m.calls
	return true
}

func (m *model) Joined(h int) bool { return m.become(h, 1, 2) }

func (m *model) Rest(h int) bool { return m.become(h, 2, 3) }

func (m *model) Shut(h int) bool {
	i := m.find(h)
	if i < 0 {
		return false
	}
	m.there = append(m.there[:i:i], m.there[i+1:]...)
	return true
}

func (m *model) State(h int) int {
	if i := m.find(h); i >= 0 {
		return m.there[i].state
	}
	return 0
}

func (m *model) Aim(h int) string {
	if i := m.find(h); i >= 0 {
		return m.there[i].aim
	}
	return ""
}

func (m *model) Len() int { return len(m.there) }

// handles is what a pool and the model have in common.
type handles interface {
	Take(aim string) (pool.Lease, api.Errno)
	Joined(h int) bool
	Rest(h int) bool
	Shut(h int) bool
	State(h int) int
	Aim(h int) string
	Len() int
}

// call is a call of a pool that changes it.
type call struct {
	kind byte // t, j, r, s
	aim  string
	h    int
}

// does makes the call, and tells what is answered.
func (x call) does(p handles) string {
	switch x.kind {
	case 't':
		lease, e := p.Take(x.aim)
		return fmt.Sprint(lease, e)
	case 'j':
		return fmt.Sprint(p.Joined(x.h))
	case 'r':
		return fmt.Sprint(p.Rest(x.h))
	}
	return fmt.Sprint(p.Shut(x.h))
}

// tell is all that may be asked of the handles up to a number, and of a few others.
func tell(p handles, most int) string {
	var b strings.Builder
	fmt.Fprint(&b, p.Len())
	for h := -1; h <= most; h++ {
		fmt.Fprintf(&b, " %d%q", p.State(h), p.Aim(h))
	}
	for _, h := range []int{math.MinInt, math.MaxInt, 1<<32 + 1} {
		fmt.Fprintf(&b, " %d%q", p.State(h), p.Aim(h))
	}
	return b.String()
}

func takes(t *testing.T, p *pool.Pool, aim string, want pool.Lease, e api.Errno) {
	t.Helper()
	if got, f := p.Take(aim); got != want || f != e {
		t.Errorf("Take(%q) = %v, %d; want %v, %d", aim, got, f, want, e)
	}
}

// is asks for a handle's state and aim.
func is(t *testing.T, p *pool.Pool, h, state int, aim string) {
	t.Helper()
	if p.State(h) != state || p.Aim(h) != aim {
		t.Errorf("handle %d is %d, to %q; want %d, %q", h, p.State(h), p.Aim(h), state, aim)
	}
}

func must(t *testing.T, so bool) {
	t.Helper()
	if !so {
		t.Fatal("the call answers false")
	}
}

// rests makes handles to these aims, and lets them be idle, each behind the one ahead of it.
func rests(t *testing.T, p *pool.Pool, aims ...string) {
	t.Helper()
	var several []int
	for _, aim := range aims {
		lease, e := p.Take(aim)
		must(t, e == api.OK && lease.Fresh)
		several = append(several, lease.H)
	}
	for _, h := range several {
		must(t, p.Joined(h) && p.Rest(h))
	}
}

// P17.1: the chapter's example.
func TestExample(t *testing.T) {
	p := pool.New(1)
	takes(t, p, "a", pool.Lease{H: 1, Fresh: true}, api.OK)
	must(t, p.Joined(1) && p.Rest(1))
	takes(t, p, "a", pool.Lease{H: 1}, api.OK)
	must(t, p.Rest(1))
	takes(t, p, "b", pool.Lease{H: 2, Shut: 1, Fresh: true}, api.OK)
}

// P17.1: what counts as another number of handles.
func TestNewIsClamped(t *testing.T) {
	for _, x := range []struct{ given, counts int }{
		{math.MinInt, 0}, {-64, 0}, {-1, 0}, {0, 0}, {1, 1}, {2, 2}, {63, 63}, {64, 64}, {65, 64}, {1 << 32, 64}, {1<<32 + 1, 64}, {math.MaxInt, 64},
	} {
		p := pool.New(x.given)
		if p.Len() != 0 || p.State(0) != 0 || p.State(1) != 0 {
			t.Errorf("New(%d) has handles", x.given)
		}
		for h := 1; h <= x.counts; h++ {
			takes(t, p, "a", pool.Lease{H: h, Fresh: true}, api.OK)
		}
		takes(t, p, "a", pool.Lease{}, api.ErrFull)
		if p.Len() != x.counts {
			t.Errorf("New(%d): %d handles", x.given, p.Len())
		}
	}
}

// P17.1: which call goes from which state to which; where it doesn't, nothing is changed.
func TestStates(t *testing.T) {
	ways := [][]call{nil, {{kind: 't', aim: "a"}}, {{kind: 't', aim: "a"}, {kind: 'j', h: 1}}, {{kind: 't', aim: "a"}, {kind: 'j', h: 1}, {kind: 'r', h: 1}}}
	goes := map[byte][]int{'j': {0, 2, 2, 3}, 'r': {0, 1, 3, 3}, 's': {0, 0, 0, 0}}
	answers := map[byte][]bool{'j': {false, true, false, false}, 'r': {false, false, true, false}, 's': {false, true, true, true}}
	for state, way := range ways {
		for _, kind := range []byte("jrs") {
			p := pool.New(2)
			for _, x := range way {
				x.does(p)
			}
			if p.State(1) != state {
				t.Fatalf("state %d; want %d", p.State(1), state)
			}
			for _, h := range []int{0, -1, 2, math.MinInt, math.MaxInt, 1<<32 + 1} {
				if got := (call{kind: kind, h: h}).does(p); got != "false" {
					t.Errorf("%c of %d, which isn't there: %s", kind, h, got)
				}
			}
			if p.State(1) != state {
				t.Fatalf("%c of others: state %d; want %d", kind, p.State(1), state)
			}
			got := call{kind: kind, h: 1}.does(p)
			if got != fmt.Sprint(answers[kind][state]) || p.State(1) != goes[kind][state] {
				t.Errorf("%c in state %d: %s, state %d", kind, state, got, p.State(1))
			}
			if there := p.State(1) != 0; there != (p.Len() == 1) || there != (p.Aim(1) == "a") {
				t.Errorf("%c in state %d: %d handles, aim %q", kind, state, p.Len(), p.Aim(1))
			}
		}
	}
}

// P17.1: of idle handles to the aim the one that is idle for the shortest time is lent.
func TestShortestIdle(t *testing.T) {
	p := pool.New(5)
	rests(t, p, "a", "b", "a", "b", "a")
	takes(t, p, "a", pool.Lease{H: 5}, api.OK)
	takes(t, p, "b", pool.Lease{H: 4}, api.OK)
	must(t, p.Rest(5) && p.Rest(4))
	takes(t, p, "a", pool.Lease{H: 5}, api.OK)
	takes(t, p, "a", pool.Lease{H: 3}, api.OK)
	takes(t, p, "a", pool.Lease{H: 1}, api.OK)
	// By the time of Rest, not by number.
	must(t, p.Rest(3) && p.Rest(1) && p.Rest(5))
	for _, h := range []int{5, 1, 3} {
		takes(t, p, "a", pool.Lease{H: h}, api.OK)
		is(t, p, h, 2, "a")
	}
	is(t, p, 2, 3, "b")
	is(t, p, 4, 3, "b")
}

// P17.1: an idle handle to the aim is lent even where as many as may be are there, and none is made or taken away.
func TestIdleAheadOfFresh(t *testing.T) {
	p := pool.New(3)
	rests(t, p, "a", "b", "c")
	for _, x := range []struct {
		aim string
		h   int
	}{{"a", 1}, {"c", 3}, {"b", 2}} {
		takes(t, p, x.aim, pool.Lease{H: x.h}, api.OK)
		must(t, p.Len() == 3)
	}
	q := pool.New(9)
	rests(t, q, "a")
	takes(t, q, "a", pool.Lease{H: 1}, api.OK)
	takes(t, q, "a", pool.Lease{H: 2, Fresh: true}, api.OK)
}

// P17.1: where there is room, no idle handle is taken away for another aim.
func TestRoomAheadOfShut(t *testing.T) {
	p := pool.New(3)
	rests(t, p, "a", "a")
	takes(t, p, "b", pool.Lease{H: 3, Fresh: true}, api.OK)
	is(t, p, 1, 3, "a")
	is(t, p, 2, 3, "a")
	is(t, p, 3, 1, "b")
}

// P17.1: of all idle handles the one that is idle for the longest time makes room.
func TestLongestIdle(t *testing.T) {
	p := pool.New(4)
	rests(t, p, "a", "b", "c", "a")
	takes(t, p, "b", pool.Lease{H: 2}, api.OK)
	must(t, p.Rest(2))
	// Idle since: 1, 3, 4, 2.
	takes(t, p, "x", pool.Lease{H: 5, Shut: 1, Fresh: true}, api.OK)
	takes(t, p, "y", pool.Lease{H: 6, Shut: 3, Fresh: true}, api.OK)
	is(t, p, 1, 0, "")
	is(t, p, 3, 0, "")
	is(t, p, 5, 1, "x")
	must(t, p.Shut(4) && p.Len() == 3)
	takes(t, p, "z", pool.Lease{H: 7, Fresh: true}, api.OK)
	takes(t, p, "z", pool.Lease{H: 8, Shut: 2, Fresh: true}, api.OK)
	takes(t, p, "z", pool.Lease{}, api.ErrFull)
	must(t, p.Len() == 4)
}

// P17.1: handles that are dialled or busy make no room, nor are they lent.
func TestFull(t *testing.T) {
	p := pool.New(2)
	takes(t, p, "a", pool.Lease{H: 1, Fresh: true}, api.OK)
	takes(t, p, "a", pool.Lease{H: 2, Fresh: true}, api.OK)
	for range 3 {
		takes(t, p, "a", pool.Lease{}, api.ErrFull)
		takes(t, p, "b", pool.Lease{}, api.ErrFull)
	}
	must(t, p.Joined(2))
	takes(t, p, "a", pool.Lease{}, api.ErrFull)
	is(t, p, 1, 1, "a")
	is(t, p, 2, 2, "a")
	must(t, p.Shut(1))
	takes(t, p, "b", pool.Lease{H: 3, Fresh: true}, api.OK)
}

// P17.1: an aim is any text, and is held against others byte by byte.
func TestAims(t *testing.T) {
	aims := []string{"", "a", "A", "a ", "\x00", "\xff\xfe", "\u00e9", "e\u0301", strings.Repeat("x", 100000), strings.Repeat("x", 99999) + "y"}
	p := pool.New(mostHandles)
	rests(t, p, aims...)
	for i, aim := range aims {
		takes(t, p, strings.Clone(aim), pool.Lease{H: i + 1}, api.OK)
		is(t, p, i+1, 2, aim)
	}
	is(t, p, 0, 0, "")
	is(t, p, len(aims)+1, 0, "")
}

// written is a text whose bytes are written over by the function.
func written(s string) (string, func()) {
	b := []byte(s)
	return unsafe.String(unsafe.SliceData(b), len(b)), func() {
		for i := range b {
			b[i] = '#'
		}
	}
}

// shares tells whether two texts share memory.
func shares(a, b string) bool {
	from, to := uintptr(unsafe.Pointer(unsafe.StringData(a))), uintptr(unsafe.Pointer(unsafe.StringData(b)))
	return from < to+uintptr(len(b)) && to < from+uintptr(len(a))
}

// P17.1: an aim that is handed in isn't kept, and one that is answered is new; a pool is by itself.
func TestPoolMemory(t *testing.T) {
	p := pool.New(2)
	aim, over := written("10.0.0.1:80")
	takes(t, p, aim, pool.Lease{H: 1, Fresh: true}, api.OK)
	over()
	is(t, p, 1, 1, "10.0.0.1:80")
	must(t, p.Joined(1) && p.Rest(1))
	takes(t, p, "10.0.0.1:80", pool.Lease{H: 1}, api.OK)
	if a, b := p.Aim(1), p.Aim(1); shares(a, b) {
		t.Error("two answers share memory")
	}
	q := pool.New(2)
	takes(t, q, "b", pool.Lease{H: 1, Fresh: true}, api.OK)
	must(t, q.Shut(1))
	is(t, p, 1, 2, "10.0.0.1:80")
	takes(t, p, "b", pool.Lease{H: 2, Fresh: true}, api.OK)
}

// P17.1: every order of a few calls.
func TestEveryOrder(t *testing.T) {
	calls := []call{{'t', "a", 0}, {'t', "b", 0}, {'j', "", 1}, {'j', "", 2}, {'r', "", 1}, {'r', "", 2}, {'s', "", 1}, {'s', "", 2}}
	runs := 0
	var run func(done []int)
	run = func(done []int) {
		for most := range 3 {
			runs++
			p, m := pool.New(most), newModel(most)
			for _, i := range done {
				if got, want := calls[i].does(p), calls[i].does(m); got != want {
					t.Fatalf("New(%d), calls %v: %s; want %s", most, done, got, want)
				}
			}
			if got, want := tell(p, 7), tell(m, 7); got != want {
				t.Fatalf("New(%d), behind calls %v: %s; want %s", most, done, got, want)
			}
		}
		if len(done) < 5 {
			for i := range calls {
				run(append(done[:len(done):len(done)], i))
			}
		}
	}
	run(nil)
	if runs != 3*37449 {
		t.Errorf("%d runs", runs)
	}
}

// chance is a call by chance, mostly of handles that are there.
func chance(rnd *rand.Rand, m *model, aims int) call {
	x := call{aim: string(rune('a' + rnd.Intn(aims))), h: rnd.Intn(m.made+3) - 1, kind: "ttttttjjjjrrrrrs"[rnd.Intn(16)]}
	if len(m.there) > 0 && rnd.Intn(4) > 0 {
		x.h = m.there[rnd.Intn(len(m.there))].h
	}
	return x
}

// P17.1: long runs of calls by chance.
func TestChance(t *testing.T) {
	rnd := rand.New(rand.NewSource(17))
	kinds := map[string]int{}
	for range 300 {
		most, aims := []int{1, 2, 3, 8, 20, mostHandles}[rnd.Intn(6)], 1+rnd.Intn(6)
		p, m := pool.New(most), newModel(most)
		for i := range 400 {
			x := chance(rnd, m, aims)
			got, want := x.does(p), x.does(m)
			if got != want || p.Len() != m.Len() || p.State(x.h) != m.State(x.h) || p.Aim(x.h) != m.Aim(x.h) {
				t.Fatalf("New(%d), call %d: %c of %q, %d: %s; want %s", most, i, x.kind, x.aim, x.h, got, want)
			}
			if x.kind == 't' {
				kinds[sort(got)]++
			}
		}
		if got, want := tell(p, m.made+1), tell(m, m.made+1); got != want {
			t.Fatalf("New(%d): %s; want %s", most, got, want)
		}
	}
	for _, kind := range []string{"full", "lent", "made", "in place"} {
		if kinds[kind] < 1000 {
			t.Errorf("only %d are %s", kinds[kind], kind)
		}
	}
}

// sort is which sort of an answer of Take it is, by its text.
func sort(answer string) string {
	switch {
	case strings.HasSuffix(answer, " 6"):
		return "full"
	case strings.Contains(answer, "false"):
		return "lent"
	case strings.Contains(answer, " 0 true"):
		return "made"
	}
	return "in place"
}

// P17.2: never more handles than may be, numbers that go up by 1, and none lent twice.
func TestBounds(t *testing.T) {
	rnd := rand.New(rand.NewSource(172))
	for range 200 {
		most := rnd.Intn(mostHandles + 1)
		p, m := pool.New(most), newModel(most)
		last, out := 0, map[int]int{} // who has a handle, counted
		for range 600 {
			x := chance(rnd, m, 4)
			x.does(m)
			if x.kind != 't' {
				if was := p.State(x.h); x.does(p) == "true" && (x.kind == 's' || was == 2) {
					delete(out, x.h)
				}
				continue
			}
			lease, e := p.Take(x.aim)
			if p.Len() > most || p.Len() < len(out) {
				t.Fatalf("New(%d): %d handles, of which %d are lent", most, p.Len(), len(out))
			}
			if e != api.OK {
				continue
			}
			if out[lease.H]++; out[lease.H] != 1 || p.Aim(lease.H) != x.aim {
				t.Fatalf("New(%d): %v is lent to two, or leads elsewhere", most, lease)
			}
			if out[lease.Shut] != 0 || p.State(lease.Shut) != 0 {
				t.Fatalf("New(%d): %v takes one away that is lent, or leaves it there", most, lease)
			}
			if lease.Fresh {
				last++
			}
			if lease.H > last || lease.Fresh && lease.H != last || lease.Fresh != (p.State(lease.H) == 1) {
				t.Fatalf("New(%d): %v, behind %d", most, lease, last)
			}
		}
	}
}

// P17.2: a number isn't used again, neither behind Shut nor behind ErrFull.
func TestNumbers(t *testing.T) {
	p := pool.New(1)
	for h := 1; h <= 5000; h++ {
		takes(t, p, "a", pool.Lease{H: h, Fresh: true}, api.OK)
		takes(t, p, "a", pool.Lease{}, api.ErrFull)
		must(t, p.Shut(h) && !p.Shut(h) && p.State(h) == 0)
	}
	is(t, p, 1, 0, "")
	if p.Joined(1) || p.Rest(1) || p.Shut(1) || p.Len() != 0 {
		t.Error("a handle that is gone is there again")
	}
}

// P17.2: one that was idle and is shut is neither lent nor taken away again.
func TestShutIdle(t *testing.T) {
	for gone := 1; gone <= 3; gone++ {
		p := pool.New(3)
		rests(t, p, "a", "a", "a")
		must(t, p.Shut(gone))
		takes(t, p, "b", pool.Lease{H: 4, Fresh: true}, api.OK)
		left := []int{1, 2, 3}
		left = append(left[:gone-1], left[gone:]...)
		takes(t, p, "b", pool.Lease{H: 5, Shut: left[0], Fresh: true}, api.OK)
		takes(t, p, "a", pool.Lease{H: left[1]}, api.OK)
		takes(t, p, "a", pool.Lease{}, api.ErrFull)
	}
}
