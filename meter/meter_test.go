package meter_test

import (
	"math"
	"math/rand"
	"runtime"
	"sync"
	"sync/atomic"
	"testing"

	"tollbar/meter"
)

const mostOfAll = 1 << 40

// told checks all that a meter tells of itself.
func told(t *testing.T, m *meter.Meter, held, room, peak int) {
	t.Helper()
	if m.Held() != held || m.Room() != room || m.Peak() != peak {
		t.Fatalf("held %d, room %d, peak %d; want %d, %d, %d", m.Held(), m.Room(), m.Peak(), held, room, peak)
	}
}

// P1.1: the chapter's example.
func TestExample(t *testing.T) {
	m := meter.New(10)
	told(t, m, 0, 10, 0)
	if !m.Take(7) || m.Take(4) {
		t.Fatal("7 is taken, and not 4 more")
	}
	told(t, m, 7, 3, 7)
	if m.Give(2) != 2 || !m.Take(4) {
		t.Fatal("2 is given, and 4 taken")
	}
	told(t, m, 9, 1, 9)
}

// P1.1: what counts as another number.
func TestMostIsClamped(t *testing.T) {
	for _, x := range []struct{ most, room int }{
		{math.MinInt, 0}, {-1, 0}, {0, 0}, {1, 1}, {mostOfAll - 1, mostOfAll - 1},
		{mostOfAll, mostOfAll}, {mostOfAll + 1, mostOfAll}, {math.MaxInt, mostOfAll},
	} {
		m := meter.New(x.most)
		told(t, m, 0, x.room, 0)
		if m.Take(x.room + 1) {
			t.Fatalf("New(%d) takes %d", x.most, x.room+1)
		}
		if !m.Take(x.room) || m.Take(1) || !m.Take(0) {
			t.Fatalf("New(%d) must take %d, and no more", x.most, x.room)
		}
		told(t, m, x.room, 0, x.room)
	}
}

// P1.1: what is refused changes nothing, however far off the number is.
func TestTakeRefuses(t *testing.T) {
	m := meter.New(10)
	m.Take(6)
	for _, n := range []int{math.MinInt, -7, -1, 5, 11, mostOfAll, math.MaxInt - 6, math.MaxInt} {
		if m.Take(n) {
			t.Errorf("Take(%d) of a room of 4", n)
		}
		told(t, m, 6, 4, 6)
	}
}

// P1.1: less than 0 is nothing, more than is held is all.
func TestGiveClamps(t *testing.T) {
	for _, x := range []struct{ n, less int }{
		{math.MinInt, 0}, {-1, 0}, {0, 0}, {1, 1}, {5, 5}, {6, 6}, {7, 6}, {math.MaxInt, 6},
	} {
		m := meter.New(10)
		m.Take(6)
		if got := m.Give(x.n); got != x.less {
			t.Errorf("Give(%d) = %d, want %d", x.n, got, x.less)
		}
		told(t, m, 6-x.less, 4+x.less, 6)
	}
	if m := meter.New(10); m.Give(3) != 0 {
		t.Error("nothing is held, and something is given")
	}
}

// P1.1: the peak stays when less is held, and isn't moved by what is refused.
func TestPeak(t *testing.T) {
	m := meter.New(10)
	for _, x := range []struct{ take, give, peak int }{
		{3, 0, 3}, {0, 1, 3}, {1, 0, 3}, {9, 0, 3}, {4, 0, 7}, {0, 7, 7}, {6, 0, 7}, {4, 9, 10}, {0, 1, 10},
	} {
		m.Take(x.take)
		m.Give(x.give)
		if m.Peak() != x.peak {
			t.Fatalf("behind Take(%d), Give(%d): peak %d, want %d", x.take, x.give, m.Peak(), x.peak)
		}
	}
}

// P1.1: long runs of calls, held against plain numbers.
func TestEveryOrder(t *testing.T) {
	r := rand.New(rand.NewSource(1))
	for range 200 {
		most := r.Intn(40) - 3
		m := meter.New(most)
		most = max(most, 0)
		held, peak := 0, 0
		for range 200 {
			n := r.Intn(30) - 4
			if r.Intn(2) == 0 {
				want := n >= 0 && held+n <= most
				if m.Take(n) != want {
					t.Fatalf("Take(%d) with %d of %d held: want %v", n, held, most, want)
				}
				if want {
					held += n
				}
			} else {
				want := min(max(n, 0), held)
				if got := m.Give(n); got != want {
					t.Fatalf("Give(%d) with %d held: %d, want %d", n, held, got, want)
				}
				held -= want
			}
			peak = max(peak, held)
			told(t, m, held, most-held, peak)
		}
	}
}

// P1.2: no goroutine ever sees more held than may be, or less than nothing; the sums are right in the end.
func TestManyTakeAndGive(t *testing.T) {
	const most, workers = 50, 16
	m := meter.New(most)
	var all sync.WaitGroup
	var wrong, kept atomic.Int64
	for w := range workers {
		all.Go(func() {
			mine := 0
			for i := range 3000 {
				n := (i*7+w)%13 + 1
				if m.Take(n) {
					mine += n
				}
				if held := m.Held(); held < 0 || held > most || m.Peak() < held || m.Peak() > most {
					wrong.Add(1)
				}
				if room := m.Room(); room < 0 || room > most {
					wrong.Add(1)
				}
				if n = min(mine, (i*5+w)%17); m.Give(n) != n {
					wrong.Add(1)
				}
				mine -= n
			}
			kept.Add(int64(mine))
		})
	}
	all.Wait()
	if wrong.Load() != 0 || m.Held() != int(kept.Load()) || m.Room() != most-m.Held() {
		t.Errorf("%d wrong answers; held %d, kept %d", wrong.Load(), m.Held(), kept.Load())
	}
}

// P1.2: of many that take the last one, as many get it as there is room for.
func TestManyTakeTheLast(t *testing.T) {
	for range 200 {
		m := meter.New(3)
		var all sync.WaitGroup
		var took atomic.Int64
		for range 8 {
			all.Go(func() {
				if m.Take(1) {
					took.Add(1)
				}
			})
		}
		all.Wait()
		if took.Load() != 3 {
			t.Fatalf("%d took of 3", took.Load())
		}
		told(t, m, 3, 0, 3)
	}
}

// P1.2: a Take that is too big never makes one fail that has room.
func TestRefusedTakeIsNotSeen(t *testing.T) {
	m := meter.New(10)
	stop := make(chan struct{})
	var all sync.WaitGroup
	for range 4 {
		all.Go(func() {
			for {
				select {
				case <-stop:
					return
				default:
					m.Take(11)
				}
			}
		})
	}
	wrong := 0
	for range 20000 {
		if !m.Take(10) || m.Held() != 10 || m.Give(10) != 10 || m.Held() != 0 {
			wrong++
		}
	}
	close(stop)
	all.Wait()
	if wrong != 0 {
		t.Errorf("%d wrong answers", wrong)
	}
	told(t, m, 0, 10, 10)
}

// P1.2: of many that give, they give together what was held.
func TestManyGive(t *testing.T) {
	for range 200 {
		m := meter.New(100)
		m.Take(20)
		var all sync.WaitGroup
		var gave atomic.Int64
		for range 8 {
			all.Go(func() { gave.Add(int64(m.Give(7))) })
		}
		all.Wait()
		if gave.Load() != 20 {
			t.Fatalf("%d given of 20", gave.Load())
		}
		told(t, m, 0, 100, 20)
	}
}

// P1.2: the peak is never below what a goroutine has seen held, though another one, that makes each time a new peak, is between two steps.
func TestPeakUnderMany(t *testing.T) {
	const most = 200000
	m := meter.New(most)
	var all sync.WaitGroup
	var wrong atomic.Int64
	var over atomic.Bool
	for range 3 {
		all.Go(func() {
			last := 0
			for !over.Load() {
				held := m.Held()
				peak := m.Peak()
				if peak < held || peak < last || peak > most {
					wrong.Add(1)
				}
				last = peak
			}
		})
	}
	for n := range most + 1 {
		m.Take(n)
		m.Give(n)
	}
	over.Store(true)
	all.Wait()
	if wrong.Load() != 0 {
		t.Errorf("%d times the peak was wrong", wrong.Load())
	}
	told(t, m, 0, most, most)
}

// P1.1: a latch's zero value is open, and is closed once.
func TestLatch(t *testing.T) {
	var l meter.Latch
	calls, other := 0, 0
	if l.Closed() {
		t.Fatal("closed at first")
	}
	during := false
	if !l.Close(func() { calls++; during = l.Closed() }) || !l.Closed() {
		t.Fatal("the first Close")
	}
	if during {
		t.Error("closed ahead of f's end")
	}
	for range 3 {
		if l.Close(func() { other++ }) || l.Close(nil) || !l.Closed() {
			t.Fatal("another Close")
		}
	}
	if calls != 1 || other != 0 {
		t.Errorf("%d calls of the first, %d of others", calls, other)
	}
}

// P1.1: no function is one that does nothing.
func TestLatchOfNil(t *testing.T) {
	var l meter.Latch
	calls := 0
	if l.Closed() || !l.Close(nil) || !l.Closed() || l.Close(func() { calls++ }) || calls != 0 {
		t.Error("a latch that is closed with nil")
	}
}

// P1.1: latches are closed each by itself, also one within another's f.
func TestLatchesAreTheirOwn(t *testing.T) {
	var a, b meter.Latch
	inner := false
	if !a.Close(func() { inner = b.Close(nil) }) || !inner || !a.Closed() || !b.Closed() {
		t.Error("one within another")
	}
}

// P1.1: a panic of f comes through, and f was called: the latch is closed.
func TestLatchOfPanic(t *testing.T) {
	var l meter.Latch
	calls := 0
	func() {
		defer func() {
			if recover() != "f" {
				t.Error("f's panic was lost")
			}
		}()
		l.Close(func() { calls++; panic("f") })
	}()
	if !l.Closed() || l.Close(func() { calls++ }) || calls != 1 {
		t.Errorf("closed %v, %d calls", l.Closed(), calls)
	}
}

// P1.2: of many that close, one is the first, and f is called once.
func TestManyClose(t *testing.T) {
	for range 200 {
		var l meter.Latch
		var all sync.WaitGroup
		var firsts, calls, wrong atomic.Int64
		for range 8 {
			all.Go(func() {
				if l.Close(func() { runtime.Gosched(); calls.Add(1) }) {
					firsts.Add(1)
				}
				if calls.Load() != 1 || !l.Closed() {
					wrong.Add(1)
				}
			})
		}
		all.Wait()
		if firsts.Load() != 1 || calls.Load() != 1 || wrong.Load() != 0 {
			t.Fatalf("%d first, %d calls, %d answered ahead of f's end", firsts.Load(), calls.Load(), wrong.Load())
		}
	}
}

// P1.2: another Close answers once f is done, and not ahead of that.
func TestCloseWaits(t *testing.T) {
	var l meter.Latch
	var all sync.WaitGroup
	var done atomic.Bool
	var early atomic.Int64
	began, goOn := make(chan struct{}), make(chan struct{})
	all.Go(func() {
		l.Close(func() { close(began); <-goOn; done.Store(true) })
	})
	<-began
	for range 8 {
		all.Go(func() {
			if l.Close(nil) || !done.Load() {
				early.Add(1)
			}
		})
	}
	for range 1000 {
		runtime.Gosched()
	}
	if l.Closed() {
		t.Error("closed while f runs")
	}
	close(goOn)
	all.Wait()
	if early.Load() != 0 || !l.Closed() {
		t.Errorf("%d answered ahead of f's end", early.Load())
	}
}
