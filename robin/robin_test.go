package robin_test

import (
	"math"
	"math/rand"
	"slices"
	"testing"
	"time"

	"tollbar/robin"
)

const (
	mostRate = 1048576
	segment  = 64
)

// model says again, going through all flows for each piece, what the chapter says of a robin.
type model struct {
	quantum, credit, last int
	some                  bool
}

func newModel(quantum int) *model {
	if quantum < 1 {
		quantum = 1
	}
	if quantum > mostRate {
		quantum = mostRate
	}
	return &model{quantum: quantum}
}

// wants is what each connection wants, by the first flow that names it.
func wants(fs []robin.Flow) map[int]int {
	wants := map[int]int{}
	for _, f := range fs {
		if _, named := wants[f.Conn]; !named {
			wants[f.Conn] = max(f.Want, 0)
		}
	}
	for conn, want := range wants {
		if want == 0 {
			delete(wants, conn)
		}
	}
	return wants
}

// next is the connection whose turn it is.
func (m *model) next(wants map[int]int) int {
	least, above := 0, 0
	some, someAbove := false, false
	for conn := range wants {
		if !some || conn < least {
			least, some = conn, true
		}
		if m.some && conn > m.last && (!someAbove || conn < above) {
			above, someAbove = conn, true
		}
	}
	if someAbove {
		return above
	}
	return least
}

func (m *model) Round(fs []robin.Flow) []robin.Grant {
	wants := wants(fs)
	if len(wants) == 0 {
		m.credit = 0
		return nil
	}
	m.credit += m.quantum
	var grants []robin.Grant
	for len(wants) > 0 {
		conn := m.next(wants)
		piece := wants[conn]
		if piece > segment {
			piece = segment
		}
		if piece > m.credit {
			return grants
		}
		grants = append(grants, robin.Grant{Conn: conn, N: piece})
		m.last, m.some = conn, true
		m.credit -= piece
		if wants[conn] -= piece; wants[conn] == 0 {
			delete(wants, conn)
		}
	}
	m.credit = 0
	return grants
}

func flows(numbers ...int) []robin.Flow {
	var fs []robin.Flow
	for i := 0; i < len(numbers); i += 2 {
		fs = append(fs, robin.Flow{Conn: numbers[i], Want: numbers[i+1]})
	}
	return fs
}

func rounds(t *testing.T, r *robin.Robin, fs []robin.Flow, credit int, want ...int) {
	t.Helper()
	var grants []robin.Grant
	for _, f := range flows(want...) {
		grants = append(grants, robin.Grant{Conn: f.Conn, N: f.Want})
	}
	if got := r.Round(fs); !slices.Equal(got, grants) || r.Credit() != credit {
		t.Errorf("Round(%v) = %v, credit %d; want %v, %d", fs, got, r.Credit(), grants, credit)
	}
}

// P16.1: the chapter's example.
func TestExample(t *testing.T) {
	r := robin.New(100)
	if r.Credit() != 0 {
		t.Errorf("credit %d at first", r.Credit())
	}
	rounds(t, r, flows(1, 100, 2, 100), 36, 1, 64)
	rounds(t, r, flows(1, 36, 2, 100), 0, 2, 64, 1, 36, 2, 36)
}

// P16.1: what counts as another quantum.
func TestNewIsClamped(t *testing.T) {
	for _, x := range []struct{ given, counts int }{
		{math.MinInt, 1}, {-mostRate, 1}, {-1, 1}, {0, 1}, {1, 1}, {2, 2}, {63, 63}, {64, 64}, {65, 65}, {mostRate - 1, mostRate - 1}, {mostRate, mostRate}, {mostRate + 1, mostRate}, {1 << 32, mostRate}, {1<<32 + 1, mostRate}, {math.MaxInt, mostRate},
	} {
		r := robin.New(x.given)
		if r.Credit() != 0 {
			t.Errorf("New(%d): credit %d at first", x.given, r.Credit())
		}
		sum := 0
		for _, g := range r.Round(flows(1, math.MaxInt)) {
			sum += g.N
		}
		if sum != x.counts/segment*segment || r.Credit() != x.counts%segment {
			t.Errorf("New(%d): %d bytes, credit %d", x.given, sum, r.Credit())
		}
	}
}

// P16.1: a round in which nothing is wanted takes the credit away, and leaves the turn where it is.
func TestNothingWanted(t *testing.T) {
	for _, fs := range [][]robin.Flow{nil, {}, flows(1, 0), flows(1, -1), flows(3, math.MinInt, 2, 0, 1, -5), flows(1, 0, 1, 100), flows(2, -1, 2, 64, 1, 0)} {
		r := robin.New(70)
		rounds(t, r, fs, 0)
		rounds(t, r, flows(1, 64, 2, 64, 3, 64), 6, 1, 64)
		rounds(t, r, fs, 0)
		rounds(t, r, flows(1, 64, 2, 64, 3, 64), 6, 2, 64)
	}
}

// P16.1: a round in which all that is wanted is granted takes the credit away.
func TestAllGranted(t *testing.T) {
	r := robin.New(100)
	rounds(t, r, flows(5, 30), 0, 5, 30)
	rounds(t, r, flows(5, 100), 0, 5, 64, 5, 36)
	rounds(t, r, flows(5, 101), 36, 5, 64)
	rounds(t, r, flows(5, 1), 0, 5, 1)
	rounds(t, r, flows(7, 64, 5, 36), 0, 7, 64, 5, 36)
	rounds(t, r, flows(7, 64, 5, 37), 36, 7, 64)
}

// P16.1: credit grows round by round till a piece is within it.
func TestCreditGrows(t *testing.T) {
	r := robin.New(10)
	for credit := 10; credit <= 60; credit += 10 {
		rounds(t, r, flows(1, 100), credit)
	}
	rounds(t, r, flows(1, 100), 6, 1, 64)
	rounds(t, r, flows(1, 36), 16)
	rounds(t, r, flows(1, 26), 0, 1, 26)
	one := robin.New(1)
	for credit := 1; credit < 64; credit++ {
		rounds(t, one, flows(1, 64, 2, 1), credit)
	}
	rounds(t, one, flows(1, 64, 2, 1), 0, 1, 64)
	rounds(t, one, flows(2, 1), 0, 2, 1)
}

// P16.1: a flow whose piece is too great ends the round, even if another's would do.
func TestNoneIsSkipped(t *testing.T) {
	r := robin.New(50)
	rounds(t, r, flows(1, 51, 2, 1), 50)
	rounds(t, r, flows(1, 51, 2, 1), 0, 1, 51, 2, 1)
	rounds(t, r, flows(1, 20, 2, 40, 3, 10), 20, 3, 10, 1, 20)
}

// P16.1: pieces at their edges.
func TestPieces(t *testing.T) {
	for _, x := range []struct {
		want   int
		pieces []int
	}{
		{1, []int{1}}, {63, []int{63}}, {64, []int{64}}, {65, []int{64, 1}}, {127, []int{64, 63}}, {128, []int{64, 64}}, {129, []int{64, 64, 1}}, {200, []int{64, 64, 64, 8}},
	} {
		var want []int
		for _, n := range x.pieces {
			want = append(want, 9, n)
		}
		rounds(t, robin.New(200), flows(9, x.want), 0, want...)
	}
	rounds(t, robin.New(200), flows(9, 201), 8, 9, 64, 9, 64, 9, 64)
}

// P16.1: of flows of one connection the first counts, the order of the others is no matter.
func TestFlows(t *testing.T) {
	for _, x := range []struct {
		fs   []robin.Flow
		want []int
	}{
		{flows(1, 10, 1, 500), []int{1, 10}},
		{flows(1, 10, 2, 20, 1, 500, 2, 600), []int{1, 10, 2, 20}},
		{flows(2, 20, 1, 10, 2, 0, 1, -1), []int{1, 10, 2, 20}},
		{flows(1, 0, 1, 500, 2, 3), []int{2, 3}},
		{flows(1, -7, 2, 3, 1, 500), []int{2, 3}},
		{flows(3, 1, 2, 2, 1, 3), []int{1, 3, 2, 2, 3, 1}},
		{flows(0, 1, -1, 2, 1, 3), []int{-1, 2, 0, 1, 1, 3}},
		{flows(math.MaxInt, 1, math.MinInt, 2, 0, 3, math.MaxInt-1, 4, math.MinInt+1, 5), []int{math.MinInt, 2, math.MinInt + 1, 5, 0, 3, math.MaxInt - 1, 4, math.MaxInt, 1}},
	} {
		rounds(t, robin.New(1000), x.fs, 0, x.want...)
	}
	var many []robin.Flow
	for i := range 400 {
		many = append(many, robin.Flow{Conn: (i * 7) % 20, Want: 1 + i})
	}
	first := robin.New(1000).Round(many)
	if want := newModel(1000).Round(many); !slices.Equal(first, want) || len(first) != 20 {
		t.Errorf("Round = %v; want %v", first, want)
	}
}

// P16.1: behind each last connection the turn goes to the least one above it, else to the least of all.
func TestTurn(t *testing.T) {
	conns := []int{math.MinInt, math.MinInt + 1, -1 << 40, -2, -1, 0, 1, 2, 1 << 40, math.MaxInt - 1, math.MaxInt}
	for i, last := range conns {
		r := robin.New(segment)
		rounds(t, r, flows(last, segment), 0, last, segment)
		for j := range 2 * len(conns) {
			var fs []robin.Flow
			for k := range conns {
				fs = append(fs, robin.Flow{Conn: conns[(k*3)%len(conns)], Want: 2 * segment})
			}
			rounds(t, r, fs, 0, conns[(i+1+j)%len(conns)], segment)
		}
		// The last one isn't there any more.
		var left []int
		for k, conn := range conns {
			if k != i {
				left = append(left, conn, 1000)
			}
		}
		rounds(t, r, flows(left...), 0, conns[(i+1)%len(conns)], segment)
	}
	// The last one wants alone.
	r := robin.New(200)
	rounds(t, r, flows(4, 100), 0, 4, 64, 4, 36)
	rounds(t, r, flows(4, 100, 3, 0, 9, -2), 0, 4, 64, 4, 36)
}

// P16.1: a flow that came between takes its turn, one that is done gives it on.
func TestTurnGoesOn(t *testing.T) {
	r := robin.New(300)
	rounds(t, r, flows(1, 64, 2, 200, 3, 10, 4, 1000), 34, 1, 64, 2, 64, 3, 10, 4, 64, 2, 64)
	rounds(t, r, flows(2, 72, 3, 5, 4, 64), 0, 3, 5, 4, 64, 2, 64, 2, 8)
}

// P16.1: what is handed in isn't changed, nor kept; what is answered is the caller's.
func TestMemory(t *testing.T) {
	r, m := robin.New(150), newModel(150)
	for range 20 {
		room := flows(9, 40, 3, 100, 9, 1, 5, -1, 1, 70, 3, 2, 7, 0, 77, 777, 88, 888)
		kept := slices.Clone(room)
		fs := room[:7]
		got := r.Round(fs)
		if !slices.Equal(room, kept) {
			t.Fatalf("the flows are %v behind the call", room)
		}
		want := m.Round(kept[:7])
		for i := range room {
			room[i] = robin.Flow{Conn: -1, Want: -1}
		}
		if !slices.Equal(got, want) {
			t.Fatalf("Round = %v; want %v", got, want)
		}
		for i := range got[:cap(got)] {
			got[:cap(got)][i] = robin.Grant{Conn: 99, N: 99}
		}
		for _, f := range room {
			if f.Conn != -1 {
				t.Fatal("the answer shares memory with the flows")
			}
		}
	}
	a, b := robin.New(100), robin.New(100)
	a.Round(flows(1, 100, 2, 100))
	if b.Credit() != 0 {
		t.Error("one is moved by the other")
	}
	rounds(t, b, flows(1, 100, 2, 100), 36, 1, 64)
}

// P16.1: every order of a few rounds.
func TestEveryOrder(t *testing.T) {
	calls := [][]robin.Flow{nil, flows(1, 64), flows(2, 30), flows(1, 100, 2, 100), flows(3, 64, 1, 10, 2, 64), flows(2, 0, 3, 70, 2, 9), flows(4, 1, 3, 63, 0, 200), flows(1, -1)}
	var run func(done []int)
	run = func(done []int) {
		for _, quantum := range []int{1, 30, 64, 100, 500} {
			r, m := robin.New(quantum), newModel(quantum)
			for _, i := range done {
				if !slices.Equal(r.Round(calls[i]), m.Round(calls[i])) || r.Credit() != m.credit {
					t.Fatalf("quantum %d, calls %v: %d", quantum, done, i)
				}
			}
		}
		if len(done) < 4 {
			for i := range calls {
				run(append(done[:len(done):len(done)], i))
			}
		}
	}
	run(nil)
}

// chance is flows by chance, some of one connection.
func chance(rnd *rand.Rand, conns, most int) []robin.Flow {
	fs := make([]robin.Flow, rnd.Intn(conns+1))
	for i := range fs {
		fs[i] = robin.Flow{Conn: rnd.Intn(conns) - conns/3, Want: rnd.Intn(most+3) - 2}
		switch rnd.Intn(60) {
		case 0:
			fs[i].Conn = []int{math.MinInt, math.MaxInt, math.MaxInt - 1}[rnd.Intn(3)]
		case 1:
			fs[i].Want = []int{math.MinInt, math.MaxInt, 0, 1, 63, 64, 65, 128}[rnd.Intn(8)]
		}
	}
	return fs
}

// P16.1: long runs of rounds by chance.
func TestChance(t *testing.T) {
	rnd := rand.New(rand.NewSource(16))
	some, none := 0, 0
	for range 1500 {
		quantum := []int{1, 7, 63, 64, 65, 128, 1000, rnd.Intn(400), rnd.Intn(5000) - 100}[rnd.Intn(9)]
		conns, most := 1+rnd.Intn(20), 1+rnd.Intn(400)
		r, m := robin.New(quantum), newModel(quantum)
		for i := range 40 {
			fs := chance(rnd, conns, most)
			got, want := r.Round(fs), m.Round(fs)
			if !slices.Equal(got, want) || r.Credit() != m.credit {
				t.Fatalf("New(%d), round %d of %v: %v, credit %d; want %v, %d", quantum, i, fs, got, r.Credit(), want, m.credit)
			}
			if len(got) > 0 {
				some++
			} else {
				none++
			}
		}
	}
	if some < 10000 || none < 5000 {
		t.Errorf("%d rounds grant something, %d don't", some, none)
	}
}

// P16.2: a round grants fewer than quantum and 64 bytes, and to each flow at most what it wants.
func TestBound(t *testing.T) {
	rnd := rand.New(rand.NewSource(162))
	above := 0
	for range 1000 {
		quantum := 1 + rnd.Intn(500)
		r := robin.New(quantum)
		for range 40 {
			fs := chance(rnd, 8, 300)
			left, sum := wants(fs), 0
			for _, g := range r.Round(fs) {
				sum += g.N
				if left[g.Conn] -= g.N; g.N < 1 || g.N > segment || left[g.Conn] < 0 {
					t.Fatalf("New(%d), %v: %v", quantum, fs, g)
				}
			}
			if sum >= quantum+segment {
				t.Fatalf("New(%d): %d bytes in a round", quantum, sum)
			}
			if sum > quantum {
				above++
			}
		}
	}
	if above < 1000 {
		t.Errorf("only %d rounds grant more than the quantum", above)
	}
	// As near as it may be.
	r := robin.New(63)
	rounds(t, r, flows(1, 64), 63)
	rounds(t, r, flows(1, 62, 2, 64, 3, 64), 0, 1, 62, 2, 64)
}

// P16.3: of k rounds, behind each of which some flow still wants a piece, at least k times quantum less 64 bytes are granted.
func TestShare(t *testing.T) {
	rnd := rand.New(rand.NewSource(163))
	long := 0
	for range 1000 {
		quantum := 1 + rnd.Intn(300)
		r := robin.New(quantum)
		var sums []int // of the rounds so far, one behind the other, that leave something
		for range 60 {
			fs := chance(rnd, 8, 400)
			left, sum := wants(fs), 0
			for _, g := range r.Round(fs) {
				sum += g.N
				if left[g.Conn] -= g.N; left[g.Conn] == 0 {
					delete(left, g.Conn)
				}
			}
			if len(left) == 0 {
				sums = nil
				continue
			}
			sums = append(sums, 0)
			for i := range sums {
				sums[i] += sum
				if k := len(sums) - i; sums[i] < k*quantum-segment {
					t.Fatalf("New(%d): %d bytes in %d rounds", quantum, sums[i], k)
				}
			}
			long = max(long, len(sums))
		}
	}
	if long < 20 {
		t.Errorf("at most %d rounds one behind the other", long)
	}
}

// P16.4: a flow that wants a whole piece or more isn't passed over.
func TestNotPassedOver(t *testing.T) {
	rnd := rand.New(rand.NewSource(164))
	pairs := 0
	for range 2000 {
		quantum := 1 + rnd.Intn(1500)
		r := robin.New(quantum)
		for range 10 {
			fs := chance(rnd, 6, 500)
			grants := r.Round(fs)
			for conn, want := range wants(fs) {
				// What it still wants ahead of each grant, and whether another had a piece since it had none.
				left, since := want, map[int]int{}
				for _, g := range grants {
					if g.Conn == conn {
						left -= g.N
						clear(since)
						continue
					}
					if since[g.Conn]++; since[g.Conn] > 1 && left >= segment {
						t.Fatalf("New(%d), %v: %d is passed over in %v", quantum, fs, conn, grants)
					}
					if left >= segment {
						pairs++
					}
				}
			}
		}
	}
	if pairs < 10000 {
		t.Errorf("only %d grants with another that waits", pairs)
	}
}

// P16.4: in rounds, one behind the other, none waits for more than a piece of each other.
func TestTurnsOverRounds(t *testing.T) {
	rnd := rand.New(rand.NewSource(165))
	for range 200 {
		conns := 2 + rnd.Intn(8)
		r := robin.New(1 + rnd.Intn(400))
		var all []robin.Grant
		for range 50 {
			fs := make([]robin.Flow, conns)
			for i, conn := range rnd.Perm(conns) {
				fs[i] = robin.Flow{Conn: conn, Want: 100000}
			}
			all = append(all, r.Round(fs)...)
		}
		for i, g := range all {
			if g.Conn != i%conns || g.N != segment {
				t.Fatalf("grant %d is %v", i, g)
			}
		}
	}
}

// P16.1: many flows, and a great quantum.
func TestGreat(t *testing.T) {
	const many = 400000
	fs := make([]robin.Flow, many)
	for i := range fs {
		fs[i] = robin.Flow{Conn: (i * 7919) % many, Want: 1 + i%3}
	}
	began := time.Now()
	r := robin.New(mostRate)
	got := r.Round(fs)
	if len(got) != many || r.Credit() != 0 {
		t.Fatalf("%d grants, credit %d", len(got), r.Credit())
	}
	for i, g := range got {
		if g.Conn != i {
			t.Fatalf("grant %d is %v", i, g)
		}
	}
	for i := range fs {
		fs[i] = robin.Flow{Conn: i, Want: math.MaxInt}
	}
	for round := range 30 {
		for i, g := range r.Round(fs) {
			if g.Conn != (round*mostRate/segment+i)%many || g.N != segment {
				t.Fatalf("round %d, grant %d is %v", round, i, g)
			}
		}
	}
	if took := time.Since(began); took > time.Minute {
		t.Errorf("it took %v", took)
	}
}
