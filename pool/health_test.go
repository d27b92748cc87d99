package pool_test

import (
	"fmt"
	"math"
	"math/big"
	"math/rand"
	"slices"
	"strings"
	"testing"

	"tollbar/api"
	"tollbar/pool"
)

// doctor says again, with numbers that have no bounds, what the chapter says of health.
type doctor struct {
	turns, fails map[string]int
	until        map[string]*big.Int
}

func newDoctor() *doctor {
	return &doctor{map[string]int{}, map[string]int{}, map[string]*big.Int{}}
}

func (d *doctor) Pick(u api.Up, now int64) (string, api.Errno) {
	if len(u.Aims) == 0 {
		return "", api.ErrNone
	}
	place := d.turns[u.Name] % len(u.Aims)
	for range len(u.Aims) {
		if !d.Sick(u.Aims[place], now) {
			d.turns[u.Name] = place + 1
			return u.Aims[place], api.OK
		}
		if place++; place == len(u.Aims) {
			place = 0
		}
	}
	return "", api.ErrNone
}

func (d *doctor) Bad(aim string, now int64, c api.Conf) bool {
	d.fails[aim]++
	if d.fails[aim] < c.Fails {
		return false
	}
	d.fails[aim] = 0
	d.until[aim] = new(big.Int).Add(big.NewInt(now), big.NewInt(int64(c.Cool)))
	return true
}

func (d *doctor) Good(aim string) { d.fails[aim] = 0 }

func (d *doctor) Sick(aim string, now int64) bool {
	until := d.until[aim]
	return until != nil && big.NewInt(now).Cmp(until) < 0
}

// health is what a Health and the doctor have in common.
type health interface {
	Pick(u api.Up, now int64) (string, api.Errno)
	Bad(aim string, now int64, c api.Conf) bool
	Good(aim string)
	Sick(aim string, now int64) bool
}

func up(name string, aims ...string) api.Up { return api.Up{Name: name, Aims: aims} }

func picks(t *testing.T, x *pool.Health, u api.Up, now int64, want ...string) {
	t.Helper()
	for i, aim := range want {
		if got, e := x.Pick(u, now); got != aim || e != api.OK {
			t.Errorf("Pick %d of %q, %d = %q, %d; want %q", i, u, now, got, e, aim)
		}
	}
}

func picksNone(t *testing.T, x *pool.Health, u api.Up, now int64) {
	t.Helper()
	if got, e := x.Pick(u, now); got != "" || e != api.ErrNone {
		t.Errorf("Pick of %q, %d = %q, %d", u, now, got, e)
	}
}

// sickens makes an aim sick from a moment on, for some ticks.
func sickens(t *testing.T, x *pool.Health, aim string, now int64, cool int) {
	t.Helper()
	must(t, x.Bad(aim, now, api.Conf{Fails: 1, Cool: cool}))
}

// P17.1: at first nobody is sick, at no time.
func TestNewHealth(t *testing.T) {
	x := pool.NewHealth()
	for _, now := range []int64{math.MinInt64, -1, 0, 1, math.MaxInt64} {
		if x.Sick("a", now) || x.Sick("", now) {
			t.Errorf("sick at %d", now)
		}
	}
	x.Good("a")
	if x.Sick("a", -5) {
		t.Error("Good makes sick")
	}
	x.Bad("a", 0, api.Conf{Fails: 2, Cool: 9})
	if x.Sick("a", -5) || x.Sick("a", 0) {
		t.Error("one fail of two makes sick")
	}
}

// P17.1: without aims there is none to be picked.
func TestNoAims(t *testing.T) {
	x := pool.NewHealth()
	for _, aims := range [][]string{nil, {}} {
		picksNone(t, x, api.Up{Name: "u", Aims: aims}, 0)
	}
	picks(t, x, up("u", "a", "b"), 0, "a")
	picksNone(t, x, up("u"), 0)
	picks(t, x, up("u", "a", "b"), 0, "b", "a")
}

// P17.3: of aims that are well each has its turn.
func TestTurns(t *testing.T) {
	for n := 1; n <= 20; n++ {
		var aims []string
		for i := range n {
			aims = append(aims, fmt.Sprint("aim", i))
		}
		x := pool.NewHealth()
		for range 3 {
			picks(t, x, up("u", aims...), 0, aims...)
		}
		// With some of them sick, the others in their order.
		var well []string
		for i, aim := range aims {
			if i%3 == 1 || i == n-1 && n > 1 {
				sickens(t, x, aim, 0, 10)
			} else {
				well = append(well, aim)
			}
		}
		for range 3 {
			picks(t, x, up("u", aims...), 9, well...)
		}
	}
}

// P17.3: whatever has been, and wherever the turn is, of k aims that stay well k picks are each of them once.
func TestEachHasItsTurn(t *testing.T) {
	rnd := rand.New(rand.NewSource(173))
	for range 2000 {
		x, n := pool.NewHealth(), 1+rnd.Intn(9)
		u, now := api.Up{Name: "u"}, int64(rnd.Intn(50))
		for i := range n {
			u.Aims = append(u.Aims, fmt.Sprint(i))
		}
		for range rnd.Intn(30) {
			if rnd.Intn(3) == 0 {
				x.Bad(u.Aims[rnd.Intn(n)], now, api.Conf{Fails: 1 + rnd.Intn(2), Cool: rnd.Intn(20)})
			}
			x.Pick(u, now)
			now += int64(rnd.Intn(3))
		}
		var well, picked []string
		for _, aim := range u.Aims {
			if !x.Sick(aim, now) {
				well = append(well, aim)
			}
		}
		for range well {
			aim, e := x.Pick(u, now)
			must(t, e == api.OK)
			picked = append(picked, aim)
		}
		if slices.Sort(picked); !slices.Equal(picked, well) {
			t.Fatalf("picked are %v; well are %v", picked, well)
		}
		if len(well) == 0 {
			picksNone(t, x, u, now)
		}
	}
}

// P17.1: a turn is an upstream's own, by its name alone; sick is an aim, of whichever upstream.
func TestByName(t *testing.T) {
	x := pool.NewHealth()
	picks(t, x, up("u", "a", "b", "c"), 0, "a")
	picks(t, x, up("v", "a", "b", "c"), 0, "a", "b")
	picks(t, x, up("U", "a", "b", "c"), 0, "a")
	picks(t, x, up("", "a", "b", "c"), 0, "a", "b", "c")
	picks(t, x, up("u", "x", "y", "z"), 0, "y")
	picks(t, x, up("u", "a", "b", "c"), 0, "c")
	sickens(t, x, "b", 0, 10)
	picks(t, x, up("u", "a", "b", "c"), 9, "a", "c")
	picks(t, x, up("v", "b", "a", "b"), 9, "a")
	picks(t, x, up("v", "b", "a", "b"), 10, "b", "b", "a")
}

// P17.1: the turn is 1 more than the place, also where the number of aims changes then.
func TestOtherNumberOfAims(t *testing.T) {
	x := pool.NewHealth()
	picks(t, x, up("u", "a", "b", "c"), 0, "a", "b", "c")
	picks(t, x, up("u", "a", "b", "c", "d", "e"), 0, "d")
	picks(t, x, up("u", "a", "b", "c"), 0, "b")
	picks(t, x, up("u", "a"), 0, "a", "a")
	picks(t, x, up("u", "a", "b"), 0, "b")
	picks(t, x, up("u", "a", "b", "c"), 0, "c")
	picks(t, x, up("u", "a", "b"), 0, "b", "a")
}

// P17.1: one aim that stands in several places has a turn at each.
func TestSameAimTwice(t *testing.T) {
	x := pool.NewHealth()
	u := up("u", "a", "a", "b")
	picks(t, x, u, 0, "a", "a", "b", "a")
	sickens(t, x, "a", 0, 10)
	picks(t, x, u, 0, "b", "b")
	picks(t, x, u, 10, "a", "a", "b")
}

// P17.1: where all are sick, the turn stays.
func TestAllSick(t *testing.T) {
	x := pool.NewHealth()
	u := up("u", "a", "b", "c")
	picks(t, x, u, 0, "a")
	for i, aim := range u.Aims {
		sickens(t, x, aim, 0, 10+i)
	}
	for range 5 {
		picksNone(t, x, u, 9)
	}
	picks(t, x, u, 10, "a", "a")
	picks(t, x, u, 12, "b", "c", "a")
}

// P17.1: how many fails in a row make sick.
func TestFails(t *testing.T) {
	for _, fails := range []int{math.MinInt, -1, 0, 1, 2, 3, 100} {
		x := pool.NewHealth()
		c := api.Conf{Fails: fails, Cool: 5}
		need := max(fails, 1)
		for round := range 3 {
			now := int64(100 * round)
			for i := 1; i <= need; i++ {
				if x.Sick("a", now) {
					t.Fatalf("of %d: sick behind %d", fails, i-1)
				}
				if x.Bad("a", now, c) != (i == need) {
					t.Fatalf("of %d: Bad %d", fails, i)
				}
			}
			if !x.Sick("a", now) || !x.Sick("a", now+4) || x.Sick("a", now+5) {
				t.Fatalf("of %d: not sick for 5 ticks", fails)
			}
		}
	}
	x := pool.NewHealth()
	for range 1000 {
		must(t, !x.Bad("a", 0, api.Conf{Fails: math.MaxInt, Cool: 5}))
	}
	// The fails so far count by the configuration of each call.
	must(t, !x.Bad("a", 0, api.Conf{Fails: 1002, Cool: 5}) && x.Bad("a", 0, api.Conf{Fails: 3, Cool: 5}))
	must(t, !x.Bad("a", 0, api.Conf{Fails: 2, Cool: 5}))
}

// P17.1: Good ends the row, and leaves sick who is sick; others' fails are their own.
func TestGood(t *testing.T) {
	x := pool.NewHealth()
	c := api.Conf{Fails: 2, Cool: 10}
	for range 5 {
		must(t, !x.Bad("a", 0, c))
		x.Good("a")
	}
	must(t, !x.Bad("a", 0, c))
	x.Good("b")
	x.Good("A")
	must(t, !x.Bad("b", 0, c) && x.Bad("a", 0, c))
	x.Good("a")
	must(t, x.Sick("a", 9) && !x.Sick("a", 10) && !x.Sick("b", 0))
	must(t, x.Bad("b", 0, c))
}

// P17.1: who is sick may fail again; the moment is the last one's, also an earlier one.
func TestSickAgain(t *testing.T) {
	x := pool.NewHealth()
	c := api.Conf{Fails: 2, Cool: 10}
	must(t, !x.Bad("a", 0, c) && x.Bad("a", 0, c) && !x.Bad("a", 5, c))
	must(t, x.Sick("a", 9) && !x.Sick("a", 10))
	must(t, x.Bad("a", 6, c) && x.Sick("a", 15) && !x.Sick("a", 16))
	sickens(t, x, "a", 6, 2)
	must(t, x.Sick("a", 7) && !x.Sick("a", 8))
	sickens(t, x, "a", 7, 0)
	must(t, x.Sick("a", 6) && !x.Sick("a", 7))
	sickens(t, x, "a", 7, -3)
	must(t, x.Sick("a", 3) && !x.Sick("a", 4))
}

// P17.1: moments at the edges, where the sum has no number too.
func TestEdges(t *testing.T) {
	moments := []int64{math.MinInt64, math.MinInt64 + 1, math.MinInt64 / 2, -1 << 40, -2, -1, 0, 1, 2, 1 << 40, math.MaxInt64 / 2, math.MaxInt64 - 1, math.MaxInt64}
	for _, from := range moments {
		for _, cool := range moments {
			x, d := pool.NewHealth(), newDoctor()
			c := api.Conf{Cool: int(cool)}
			must(t, x.Bad("a", from, c) && d.Bad("a", from, c))
			for _, now := range append(slices.Clone(moments), from+cool-1, from+cool, from+cool+1) {
				if x.Sick("a", now) != d.Sick("a", now) {
					t.Errorf("sick from %d for %d, at %d: %v", from, cool, now, x.Sick("a", now))
				}
			}
		}
	}
}

// P17.1: what is handed in is neither changed nor kept, what is answered is new; one is by itself.
func TestHealthMemory(t *testing.T) {
	x := pool.NewHealth()
	name, overName := written("upstream")
	first, overFirst := written("10.0.0.1:80")
	second, overSecond := written("10.0.0.2:80")
	room := []string{first, second, "kept"}
	u := api.Up{Name: name, Aims: room[:2]}
	c := api.Conf{Fails: 2, Cool: 10}
	must(t, !x.Bad(first, 0, c) && x.Bad(second, 0, api.Conf{Cool: 10}))
	got, e := x.Pick(u, 0)
	if e != api.OK || shares(got, first) || !slices.Equal(room, []string{"10.0.0.1:80", "10.0.0.2:80", "kept"}) {
		t.Errorf("Pick = %q, %d, of %v", got, e, room)
	}
	overName()
	overFirst()
	overSecond()
	if got != "10.0.0.1:80" {
		t.Errorf("the answer is %q now", got)
	}
	must(t, x.Sick("10.0.0.2:80", 9) && x.Bad("10.0.0.1:80", 0, c))
	picks(t, x, up("upstream", "a", "b"), 0, "b")
	picks(t, pool.NewHealth(), up("upstream", "a", "10.0.0.1:80"), 0, "a", "10.0.0.1:80")
}

// P17.1: texts of any kind.
func TestTexts(t *testing.T) {
	x := pool.NewHealth()
	aims := []string{"", "a", "A", "\x00", "\xff", strings.Repeat("x", 100000)}
	u := up("\xff\x00", aims...)
	picks(t, x, u, 0, aims...)
	for _, aim := range aims {
		must(t, !x.Sick(aim, 0))
		sickens(t, x, aim, 0, 1)
		must(t, x.Sick(strings.Clone(aim), 0))
	}
	picksNone(t, x, u, 0)
	picks(t, x, u, 1, aims...)
}

// healthCall is a call of a Health.
type healthCall struct {
	kind byte // p, b, g, s
	up   api.Up
	aim  string
	now  int64
	conf api.Conf
}

func (c healthCall) does(x health) string {
	switch c.kind {
	case 'p':
		aim, e := x.Pick(c.up, c.now)
		return fmt.Sprintf("%q %d", aim, e)
	case 'b':
		return fmt.Sprint(x.Bad(c.aim, c.now, c.conf))
	case 'g':
		x.Good(c.aim)
		return ""
	}
	return fmt.Sprint(x.Sick(c.aim, c.now))
}

// P17.1: every order of a few calls.
func TestEveryOrderOfHealth(t *testing.T) {
	ab, two := up("u", "a", "b"), api.Conf{Fails: 2, Cool: 3}
	calls := []healthCall{
		{kind: 'p', up: ab, now: 1}, {kind: 'p', up: ab, now: 5}, {kind: 'p', up: up("u", "b", "c", "a"), now: 2},
		{kind: 'b', aim: "a", now: 1, conf: two}, {kind: 'b', aim: "b", now: 2, conf: two}, {kind: 'b', aim: "a", now: 3, conf: api.Conf{Fails: 1, Cool: 1}},
		{kind: 'g', aim: "a"},
	}
	var run func(done []int)
	run = func(done []int) {
		x, d := pool.NewHealth(), newDoctor()
		for _, i := range done {
			if got, want := calls[i].does(x), calls[i].does(d); got != want {
				t.Fatalf("calls %v: %s; want %s", done, got, want)
			}
		}
		for now := range int64(7) {
			if x.Sick("a", now) != d.Sick("a", now) || x.Sick("b", now) != d.Sick("b", now) {
				t.Fatalf("behind calls %v: sick at %d", done, now)
			}
		}
		if len(done) < 6 {
			for i := range calls {
				run(append(done[:len(done):len(done)], i))
			}
		}
	}
	run(nil)
}

// P17.1: long runs of calls by chance, of times that go back too.
func TestChanceOfHealth(t *testing.T) {
	rnd := rand.New(rand.NewSource(171))
	answers := map[string]int{}
	for range 500 {
		x, d := pool.NewHealth(), newDoctor()
		aims, now := 1+rnd.Intn(8), int64(0)
		for i := range 300 {
			c := healthCall{kind: "ppppbbbbgs"[rnd.Intn(10)], aim: fmt.Sprint(rnd.Intn(aims)), now: now, conf: api.Conf{Fails: rnd.Intn(5) - 1, Cool: rnd.Intn(30) - 2}}
			c.up.Name = fmt.Sprint("u", rnd.Intn(3))
			for range rnd.Intn(5) {
				c.up.Aims = append(c.up.Aims, fmt.Sprint(rnd.Intn(aims)))
			}
			got, want := c.does(x), c.does(d)
			if got != want {
				t.Fatalf("call %d, %c of %v, %q, %d: %s; want %s", i, c.kind, c.up, c.aim, c.now, got, want)
			}
			if c.kind == 'p' && len(c.up.Aims) > 0 {
				got = got[len(got)-1:]
			}
			answers[string(c.kind)+got]++
			now += int64(rnd.Intn(4)) - 1
		}
	}
	for _, answer := range []string{"p0", "p4", "btrue", "bfalse", "strue", "sfalse"} {
		if answers[answer] < 1000 {
			t.Errorf("only %d are %s", answers[answer], answer)
		}
	}
}
