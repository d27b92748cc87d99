package ring_test

import (
	"bytes"
	"math"
	"math/rand"
	"testing"

	"tollbar/api"
	"tollbar/meter"
	"tollbar/ring"
)

// told checks all that a ring and its meter tell, if no other ring of the meter has bytes.
func told(t *testing.T, r *ring.Ring, m *meter.Meter, want string) {
	t.Helper()
	if got := string(r.Peek(math.MaxInt)); got != want || r.Len() != len(want) || m.Held() != len(want) {
		t.Fatalf("%q, of length %d, held %d; want %q", got, r.Len(), m.Held(), want)
	}
}

// count is n bytes that tell where they stand.
func count(from, n int) []byte {
	b := make([]byte, n)
	for i := range b {
		b[i] = byte((from + i) * 7 % 251)
	}
	return b
}

// P3.1: the chapter's example.
func TestExample(t *testing.T) {
	m := meter.New(10)
	r := ring.New(m)
	told(t, r, m, "")
	if !r.Put([]byte("abcdef")) {
		t.Fatal("6 bytes of 10 aren't taken")
	}
	told(t, r, m, "abcdef")
	if got := string(r.Take(2)); got != "ab" {
		t.Fatalf("Take(2) = %q", got)
	}
	told(t, r, m, "cdef")
	if r.Put([]byte("0123456")) {
		t.Fatal("7 bytes of 6 are taken")
	}
	told(t, r, m, "cdef")
	if !r.Put([]byte("012345")) {
		t.Fatal("6 bytes of 6 aren't taken")
	}
	told(t, r, m, "cdef012345")
	if got := string(r.Peek(5)); got != "cdef0" {
		t.Fatalf("Peek(5) = %q", got)
	}
	told(t, r, m, "cdef012345")
}

// P3.1: below 0 counts as 0, above Len as Len.
func TestNumbersAreClamped(t *testing.T) {
	for _, x := range []struct {
		n    int
		want string
	}{
		{math.MinInt, ""}, {-1, ""}, {0, ""}, {1, "a"}, {5, "abcde"}, {6, "abcdef"}, {7, "abcdef"}, {math.MaxInt, "abcdef"},
	} {
		m := meter.New(10)
		r := ring.New(m)
		if empty := append(r.Peek(x.n), r.Take(x.n)...); len(empty) != 0 || m.Held() != 0 {
			t.Errorf("Peek(%d) and Take of no bytes are %q", x.n, empty)
		}
		r.Put([]byte("abcdef"))
		if got := string(r.Peek(x.n)); got != x.want {
			t.Errorf("Peek(%d) = %q, want %q", x.n, got, x.want)
		}
		told(t, r, m, "abcdef")
		if got := string(r.Take(x.n)); got != x.want {
			t.Errorf("Take(%d) = %q, want %q", x.n, got, x.want)
		}
		told(t, r, m, "abcdef"[len(x.want):])
	}
}

// P3.1: what isn't taken whole changes nothing, and isn't held for a while either.
func TestPutRefuses(t *testing.T) {
	m := meter.New(100)
	r := ring.New(m)
	r.Put([]byte("abc"))
	for _, n := range []int{98, 99, 128, 5000} {
		if r.Put(count(0, n)) {
			t.Fatalf("%d bytes are taken of 97", n)
		}
		told(t, r, m, "abc")
		if m.Peak() != 3 {
			t.Fatalf("held at most %d, want 3", m.Peak())
		}
	}
	if !r.Put(count(0, 97)) || r.Put([]byte{1}) || m.Room() != 0 {
		t.Fatal("97 bytes must be taken, and no more")
	}
	told(t, r, m, "abc"+string(count(0, 97)))
}

// P3.1: no bytes may always be put, nil or empty, also where there is no room.
func TestPutOfNothing(t *testing.T) {
	for _, most := range []int{-5, 0, 1, 3} {
		m := meter.New(most)
		r := ring.New(m)
		r.Put(count(0, max(most, 0)))
		n := r.Len()
		if !r.Put(nil) || !r.Put([]byte{}) || r.Len() != n || m.Held() != n {
			t.Errorf("no bytes, of a meter of %d", most)
		}
		if r.Put(make([]byte, 4)) || r.Len() != n {
			t.Errorf("4 bytes are taken by a meter of %d", most)
		}
	}
}

// P3.1: what others hold of the meter leaves no room for the ring, and isn't given back by it.
func TestMeterOfOthers(t *testing.T) {
	m := meter.New(10)
	r := ring.New(m)
	m.Take(6)
	if r.Put([]byte("01234")) || !r.Put([]byte("0123")) || m.Held() != 10 {
		t.Fatal("4 bytes may be put, and not 5")
	}
	if string(r.Take(9)) != "0123" || m.Held() != 6 || r.Drop() != 0 || m.Held() != 6 {
		t.Fatalf("held %d, want 6", m.Held())
	}
}

// P3.1: Drop takes all away, gives it back, and leaves a ring that goes on.
func TestDrop(t *testing.T) {
	for _, n := range []int{0, 1, 63, 64, 65, 128, 1000} {
		for _, ahead := range []int{0, 1, 63, 64} {
			m := meter.New(2000)
			r := ring.New(m)
			r.Put(count(0, n+ahead))
			r.Take(ahead)
			if got := r.Drop(); got != n || r.Drop() != 0 {
				t.Fatalf("Drop of %d bytes behind %d = %d", n, ahead, got)
			}
			told(t, r, m, "")
			r.Put([]byte("xyz"))
			told(t, r, m, "xyz")
		}
	}
}

// P3.2: bytes come out in order, in whatever pieces they are put in and taken, whole segments and parts of them.
func TestPieces(t *testing.T) {
	sizes := []int{1, 2, api.Segment - 1, api.Segment, api.Segment + 1, 2 * api.Segment, 2*api.Segment + 1, 500}
	for _, in := range sizes {
		for _, out := range sizes {
			m := meter.New(10000)
			r := ring.New(m)
			put, taken := 0, 0
			for put < 2000 {
				r.Put(count(put, in))
				put += in
				for r.Len() >= out {
					if got := r.Take(out); !bytes.Equal(got, count(taken, out)) {
						t.Fatalf("in pieces of %d, out of %d: wrong bytes behind %d", in, out, taken)
					}
					taken += out
				}
				told(t, r, m, string(count(taken, put-taken)))
			}
		}
	}
}

// P3.2: as many bytes as may be held are put in at once, and come out one behind the other.
func TestManyBytes(t *testing.T) {
	m := meter.New(api.MaxQuota)
	r := ring.New(m)
	all := count(0, api.MaxQuota)
	if !r.Put(all) || r.Put([]byte{0}) {
		t.Fatalf("%d bytes must be taken, and no more", api.MaxQuota)
	}
	told(t, r, m, string(all))
	for i, want := range all {
		if got := r.Take(1); len(got) != 1 || got[0] != want {
			t.Fatalf("byte %d is %v, want %d", i, got, want)
		}
	}
	told(t, r, m, "")
}

// model says again, in one list of bytes each, what several rings of one meter have.
type model struct {
	most int
	have [3][]byte
}

func (m *model) held() int { return len(m.have[0]) + len(m.have[1]) + len(m.have[2]) }

func (m *model) first(i, n int) []byte { return m.have[i][:min(max(n, 0), len(m.have[i]))] }

// step calls one ring and the model alike; it answers what both said.
func (m *model) step(r *ring.Ring, i int, rnd *rand.Rand) (got, want []byte, same bool) {
	n := rnd.Intn(150) - 3
	switch rnd.Intn(8) {
	case 0, 1, 2, 3:
		b := count(rnd.Intn(1000), max(n, 0))
		may := m.held()+len(b) <= m.most
		if may {
			m.have[i] = append(m.have[i], b...)
		}
		return nil, nil, r.Put(b) == may
	case 4, 5:
		want = bytes.Clone(m.first(i, n))
		m.have[i] = m.have[i][len(want):]
		return r.Take(n), want, true
	case 6:
		return r.Peek(n), m.first(i, n), true
	}
	if rnd.Intn(5) > 0 {
		return nil, nil, r.Len() == len(m.have[i])
	}
	all := len(m.have[i])
	m.have[i] = nil
	return nil, nil, r.Drop() == all
}

// P3.1, P3.2: every order of calls, with several rings of one meter.
func TestEveryOrder(t *testing.T) {
	for seed := range 300 {
		rnd := rand.New(rand.NewSource(int64(seed)))
		want := &model{most: rnd.Intn(700)}
		m := meter.New(want.most)
		rings := [3]*ring.Ring{ring.New(m), ring.New(m), ring.New(m)}
		for step := range 200 {
			i := rnd.Intn(3)
			got, right, same := want.step(rings[i], i, rnd)
			if !same || !bytes.Equal(got, right) {
				t.Fatalf("seed %d, step %d: %q, want %q (%v)", seed, step, got, right, same)
			}
			for j, r := range rings {
				if r.Len() != len(want.have[j]) {
					t.Fatalf("seed %d, step %d: ring %d has %d bytes, want %d", seed, step, j, r.Len(), len(want.have[j]))
				}
			}
			if m.Held() != want.held() {
				t.Fatalf("seed %d, step %d: held %d, want %d", seed, step, m.Held(), want.held())
			}
		}
		for j, r := range rings {
			if got := r.Take(math.MaxInt); !bytes.Equal(got, want.have[j]) {
				t.Fatalf("seed %d: ring %d ends with %q, want %q", seed, j, got, want.have[j])
			}
		}
	}
}

// P3.3: what is put may be written over, and isn't changed, nor is the memory behind it.
func TestPutKeepsNothing(t *testing.T) {
	for _, n := range []int{1, 63, 64, 65, 200} {
		m := meter.New(1000)
		r := ring.New(m)
		whole := count(0, n+100)
		b := whole[:n]
		r.Put(b)
		r.Put(b)
		r.Take(n / 2)
		r.Put(b)
		if !bytes.Equal(whole, count(0, n+100)) {
			t.Fatalf("%d bytes are changed", n)
		}
		clear(whole)
		want := append(count(0, n), append(count(0, n), count(0, n)...)...)
		told(t, r, m, string(want[n/2:]))
	}
}

// P3.3: answers may be written over, their spare room too, and stay as they are.
func TestAnswersAreNew(t *testing.T) {
	for _, n := range []int{1, 10, 63, 64, 65, 200} {
		m := meter.New(1000)
		r := ring.New(m)
		r.Put(count(0, 300))
		peek, again := r.Peek(n), r.Peek(n)
		clear(peek[:cap(peek)])
		if !bytes.Equal(again, count(0, n)) {
			t.Fatalf("two answers of Peek(%d) share memory", n)
		}
		told(t, r, m, string(count(0, 300)))
		take := r.Take(n)
		kept := r.Take(n)[:0]
		clear(kept[:cap(kept)])
		if !bytes.Equal(take, count(0, n)) {
			t.Fatalf("two answers of Take(%d) share memory", n)
		}
		clear(take[:cap(take)])
		rest := count(2*n, max(300-2*n, 0))
		told(t, r, m, string(rest))
		r.Put(count(9, 300))
		clear(take[:cap(take)])
		told(t, r, m, string(rest)+string(count(9, 300)))
		r.Drop()
		r.Put(bytes.Repeat([]byte{9}, 300))
		if !bytes.Equal(again, count(0, n)) {
			t.Fatalf("Peek(%d)'s answer is written over", n)
		}
	}
}
