package bucket_test

import (
	"math"
	"math/big"
	"math/rand"
	"testing"

	"tollbar/bucket"
)

const (
	mostRate  = 1048576
	mostTicks = 1099511627776
)

// model says again, in numbers of any size, what the chapter says of a bucket.
type model struct {
	rate, burst, tokens, at *big.Int
}

func clamp(n, least, most int64) *big.Int { return big.NewInt(min(max(n, least), most)) }

func newModel(rate, burst int) *model {
	return &model{clamp(int64(rate), 0, mostRate), clamp(int64(burst), 0, mostRate), clamp(int64(burst), 0, mostRate), big.NewInt(0)}
}

func (m *model) Tokens(now int64) int {
	time := clamp(now, m.at.Int64(), mostTicks)
	come := new(big.Int).Sub(time, m.at)
	m.tokens.Add(m.tokens, come.Mul(come, m.rate))
	if m.tokens.Cmp(m.burst) > 0 {
		m.tokens.Set(m.burst)
	}
	m.at = time
	return int(m.tokens.Int64())
}

func (m *model) Take(now int64, n int) bool {
	if has := m.Tokens(now); n < 0 || n > has {
		return false
	}
	m.tokens.Sub(m.tokens, big.NewInt(int64(n)))
	return true
}

// P14.1: the chapter's example.
func TestExample(t *testing.T) {
	b := bucket.New(2, 5)
	if !b.Take(0, 5) || b.Take(0, 1) {
		t.Error("Take at 0")
	}
	if n := b.Tokens(2); n != 4 {
		t.Errorf("Tokens(2) = %d", n)
	}
	if n := b.Tokens(9); n != 5 {
		t.Errorf("Tokens(9) = %d", n)
	}
	if !b.Take(1, 5) {
		t.Error("Take(1, 5)")
	}
}

// P14.1: what counts as another number.
func TestNewIsClamped(t *testing.T) {
	for _, x := range []struct{ given, counts int }{
		{math.MinInt, 0}, {-mostRate, 0}, {-1, 0}, {0, 0}, {1, 1}, {2, 2}, {mostRate - 1, mostRate - 1}, {mostRate, mostRate}, {mostRate + 1, mostRate}, {1 << 32, mostRate}, {1<<32 + 1, mostRate}, {math.MaxInt, mostRate},
	} {
		if n := bucket.New(3, x.given).Tokens(0); n != x.counts {
			t.Errorf("a burst of %d: %d at first", x.given, n)
		}
		b := bucket.New(3, x.given)
		if b.Take(0, x.counts+1) || !b.Take(0, x.counts) || b.Tokens(0) != 0 || b.Take(0, 1) {
			t.Errorf("a burst of %d isn't one of %d", x.given, x.counts)
		}
		if n := b.Tokens(mostTicks); n != x.counts {
			t.Errorf("a burst of %d: %d in the end", x.given, n)
		}
		b = bucket.New(x.given, mostRate)
		b.Take(0, mostRate)
		if n := b.Tokens(1); n != x.counts {
			t.Errorf("a rate of %d: %d behind a tick", x.given, n)
		}
		if n := b.Tokens(3); n != min(3*x.counts, mostRate) {
			t.Errorf("a rate of %d: %d behind 3 ticks", x.given, n)
		}
	}
}

// P14.1: what is refused takes nothing.
func TestTakeRefuses(t *testing.T) {
	b := bucket.New(0, 10)
	if !b.Take(0, 6) {
		t.Fatal("6 of 10")
	}
	for _, n := range []int{math.MinInt, math.MinInt + 1, -1 << 32, -5, -4, -1, 5, 10, 11, 1 << 32, math.MaxInt - 4, math.MaxInt} {
		if b.Take(0, n) || b.Tokens(0) != 4 {
			t.Errorf("Take(0, %d) of 4, and %d behind it", n, b.Tokens(0))
		}
	}
	for range 3 {
		if !b.Take(0, 0) || b.Tokens(0) != 4 {
			t.Error("Take(0, 0)")
		}
	}
	if !b.Take(0, 4) || b.Tokens(0) != 0 || !b.Take(0, 0) || b.Take(0, 1) || b.Take(0, -1) || b.Tokens(mostTicks) != 0 {
		t.Error("the last 4")
	}
}

// P14.1: tokens come by ticks, however many calls there are between, and never more than burst.
func TestComing(t *testing.T) {
	for _, x := range []struct{ rate, burst int }{{1, 1}, {1, 10}, {3, 10}, {10, 3}, {10, 10}, {0, 7}, {7, 0}, {0, 0}, {mostRate, mostRate}, {1, mostRate}, {mostRate, 1}} {
		often := bucket.New(x.rate, x.burst)
		often.Take(0, x.burst)
		for now := range int64(30) {
			want := min(x.rate*int(now), x.burst)
			for range 3 {
				if n := often.Tokens(now); n != want {
					t.Fatalf("%v: %d at %d; want %d", x, n, now, want)
				}
			}
			once := bucket.New(x.rate, x.burst)
			once.Take(0, x.burst)
			if n := once.Tokens(now); n != want {
				t.Fatalf("%v, asked once: %d at %d; want %d", x, n, now, want)
			}
		}
	}
}

// P14.1: no call's time is below another's ahead, be it one that takes, one that doesn't, or one that asks.
func TestTimeStays(t *testing.T) {
	for name, call := range map[string]func(b *bucket.Bucket){
		"Tokens": func(b *bucket.Bucket) { b.Tokens(10) }, "Take of 0": func(b *bucket.Bucket) { b.Take(10, 0) }, "Take of too many": func(b *bucket.Bucket) { b.Take(10, 1000) }, "Take below 0": func(b *bucket.Bucket) { b.Take(10, -1) },
	} {
		for _, back := range []int64{10, 9, 1, 0, -1, math.MinInt64} {
			b := bucket.New(2, 100)
			b.Take(0, 100)
			call(b)
			if n := b.Tokens(back); n != 20 {
				t.Errorf("%s at 10, then %d: %d", name, back, n)
			}
			if !b.Take(back, 20) || b.Take(back, 1) || b.Tokens(10) != 0 || b.Tokens(11) != 2 {
				t.Errorf("%s at 10, then %d: what is taken there", name, back)
			}
		}
	}
	b := bucket.New(2, 5)
	for _, now := range []int64{-1, -5, math.MinInt64} {
		if b.Tokens(now) != 5 {
			t.Errorf("%d at %d", b.Tokens(now), now)
		}
	}
	if !b.Take(-3, 5) || b.Tokens(-1) != 0 || b.Tokens(0) != 0 || b.Tokens(1) != 2 {
		t.Error("times below 0 are 0")
	}
}

// P14.1: no time is above 2^40.
func TestTimeEnds(t *testing.T) {
	for _, far := range []int64{mostTicks, mostTicks + 1, 1 << 41, 1 << 60, math.MaxInt64 - 1, math.MaxInt64} {
		b := bucket.New(1, 5)
		b.Take(mostTicks-2, 5)
		if n := b.Tokens(far); n != 2 {
			t.Errorf("%d at %d, two ticks ahead of the end", n, far)
		}
		for _, now := range []int64{far, math.MaxInt64, mostTicks, 0, math.MinInt64} {
			if n := b.Tokens(now); n != 2 {
				t.Errorf("%d at %d, behind the end", n, now)
			}
		}
		if !b.Take(far, 2) || b.Take(math.MaxInt64, 1) || b.Tokens(math.MaxInt64) != 0 {
			t.Errorf("what is taken at %d", far)
		}
		whole := bucket.New(mostRate, mostRate)
		whole.Take(0, mostRate)
		if n := whole.Tokens(far); n != mostRate {
			t.Errorf("%d at %d, of all that may come", n, far)
		}
	}
}

// P14.1: a bucket is by itself.
func TestBucketsAreTheirOwn(t *testing.T) {
	a, b := bucket.New(2, 5), bucket.New(2, 5)
	if !a.Take(100, 5) || b.Tokens(0) != 5 || !b.Take(0, 5) || b.Tokens(1) != 2 || a.Tokens(0) != 0 {
		t.Error("one is moved by the other")
	}
}

// number is one of some size, now and then at an edge.
func number(rnd *rand.Rand, most int64) int64 {
	switch rnd.Intn(20) {
	case 0:
		return []int64{math.MinInt64, -1, 0, 1, most - 1, most, most + 1, math.MaxInt64}[rnd.Intn(8)]
	case 1:
		return -rnd.Int63n(10)
	}
	return rnd.Int63n(most+1) >> rnd.Intn(40)
}

// P14.1: every order of a few calls.
func TestEveryOrder(t *testing.T) {
	calls := []struct {
		now int64
		n   int // -9: Tokens
	}{{0, 2}, {1, 1}, {2, 3}, {1, 0}, {3, 5}, {2, -1}, {4, -9}, {math.MaxInt64, 4}}
	var run func(done []int)
	run = func(done []int) {
		for _, rate := range []int{0, 1, 2, 5} {
			b, m := bucket.New(rate, 4), newModel(rate, 4)
			for _, i := range done {
				if c := calls[i]; c.n != -9 && b.Take(c.now, c.n) != m.Take(c.now, c.n) || c.n == -9 && b.Tokens(c.now) != m.Tokens(c.now) {
					t.Fatalf("rate %d, calls %v: %d", rate, done, i)
				}
			}
			if b.Tokens(0) != m.Tokens(0) {
				t.Fatalf("rate %d, behind calls %v", rate, done)
			}
		}
		if len(done) < 5 {
			for i := range calls {
				run(append(done[:len(done):len(done)], i))
			}
		}
	}
	run(nil)
}

// P14.1: long runs of calls by chance, held against numbers of any size.
func TestChance(t *testing.T) {
	rnd := rand.New(rand.NewSource(14))
	took, not := 0, 0
	for range 3000 {
		rate, burst := int(number(rnd, mostRate)), int(number(rnd, mostRate))
		b, m := bucket.New(rate, burst), newModel(rate, burst)
		now, step := int64(0), int64(1)<<rnd.Intn(36)
		for i := range 60 {
			now += rnd.Int63n(step + 1)
			at := now
			if rnd.Intn(6) == 0 {
				at = now - rnd.Int63n(3*step)
			} else if i > 30 && rnd.Intn(8) == 0 {
				at = number(rnd, mostTicks)
			}
			if rnd.Intn(4) == 0 {
				if got, want := b.Tokens(at), m.Tokens(at); got != want {
					t.Fatalf("New(%d, %d), call %d: Tokens(%d) = %d; want %d", rate, burst, i, at, got, want)
				}
				continue
			}
			n := int(number(rnd, mostRate))
			if rnd.Intn(2) == 0 { // just as many as there are, or one more
				n = int(m.tokens.Int64()) + rnd.Intn(2)
			}
			got, want := b.Take(at, n), m.Take(at, n)
			if got != want {
				t.Fatalf("New(%d, %d), call %d: Take(%d, %d) = %v", rate, burst, i, at, n, got)
			}
			if got {
				took++
			} else {
				not++
			}
		}
	}
	if took < 10000 || not < 10000 {
		t.Errorf("%d taken, %d not", took, not)
	}
}

// P14.2: between any two calls no more is taken out than burst and what comes in the time between.
func TestBound(t *testing.T) {
	rnd := rand.New(rand.NewSource(142))
	full := 0
	for range 2000 {
		rate, burst := rnd.Intn(20), rnd.Intn(50)
		b := bucket.New(rate, burst)
		var times []int64
		var taken []int
		now, greatest := int64(0), int64(0)
		for range 60 {
			if rnd.Intn(2) == 0 {
				now += rnd.Int63n(4)
			}
			n := rnd.Intn(burst + 2)
			if rnd.Intn(3) == 0 {
				ask := now - rnd.Int63n(5)
				n, greatest = b.Tokens(ask), max(ask, greatest)
			}
			at := now - rnd.Int63n(2)*rnd.Int63n(9)
			greatest = max(at, greatest)
			if !b.Take(at, n) {
				n = 0
			}
			times, taken = append(times, greatest), append(taken, n)
			if rnd.Intn(4) == 0 {
				b.Take(greatest, -n-1)
			}
		}
		for i := range times {
			sum := 0
			for j := i; j < len(times); j++ {
				sum += taken[j]
				bound := burst + rate*int(times[j]-times[i])
				if sum > bound {
					t.Fatalf("New(%d, %d): %d taken from %d to %d", rate, burst, sum, times[i], times[j])
				}
				if sum == bound && j > i && rate > 0 && times[j] > times[i] {
					full++
				}
			}
		}
	}
	if full < 100 {
		t.Errorf("only %d times the bound is reached", full)
	}
}

// P14.2: the bound is reached, and not passed, by who takes all that there is.
func TestBoundIsReached(t *testing.T) {
	for _, x := range []struct{ rate, burst int }{{1, 1}, {2, 5}, {3, 100}, {mostRate, mostRate}} {
		b := bucket.New(x.rate, x.burst)
		sum := 0
		for now := int64(1000); now <= 1020; now++ {
			for _, n := range []int{x.burst, x.rate, 1} {
				for b.Take(now, n) {
					sum += n
				}
			}
		}
		if sum != x.burst+20*x.rate {
			t.Errorf("%v: %d taken in 20 ticks", x, sum)
		}
	}
}
