package cell_test

import (
	"bytes"
	"fmt"
	"math/rand"
	"strings"
	"testing"

	"tollbar/api"
	"tollbar/cell"
	"tollbar/entry"
	"tollbar/http"
)

// life is a client's connection, from its Adopt on.
type life struct {
	id     int
	asked  []string // the targets, in order
	left   string   // what it hasn't said yet
	stream []byte
	log    []api.Entry
	closed bool
}

// town is a cell with clients, and upstreams that tell in a response what they were asked for.
type town struct {
	*testing.T
	*rand.Rand
	cell  *cell.Cell
	lives []*life
	here  map[int]*life
	log   []byte
	waits []api.Out
}

// hear takes what a cell tells.
func (w *town) hear(outs []api.Out) {
	for _, o := range outs {
		switch o.Kind {
		case api.Write:
			w.here[o.Conn].stream = append(w.here[o.Conn].stream, o.Data...)
		case api.Close:
			w.here[o.Conn].closed = true
			delete(w.here, o.Conn)
		case api.Log:
			w.log = append(w.log, o.Data...)
			e, wrong := entry.Read(o.Data)
			if wrong != api.OK {
				w.Fatalf("the record %q", o.Data)
			}
			w.here[e.Conn].log = append(w.here[e.Conn].log, e)
		case api.Dial, api.Send:
			w.waits = append(w.waits, o)
		}
	}
}

// opens begins a life that will ask several times.
func (w *town) opens(id int) {
	x := &life{id: id}
	for range 1 + w.Intn(6) {
		target := fmt.Sprintf("/%d/%d", len(w.lives), len(x.asked))
		x.asked = append(x.asked, target)
		x.left += []string{"GET ", "POST ", "PUT "}[w.Intn(3)] + target + " HTTP/1.1\r\nHost: h\r\nContent-Length: 3\r\n\r\nabc"
	}
	w.lives = append(w.lives, x)
	w.here[id] = x
	w.hear(w.cell.Adopt(id, nil, 1<<20))
}

// speaks says some more of what a client asks.
func (w *town) speaks(x *life) {
	n := w.Intn(len(x.left) + 1)
	outs := w.cell.Do(says(x.id, x.left[:n]))
	if len(outs) == 0 || outs[0].Kind != api.Pause {
		x.left = x.left[n:]
	}
	w.hear(outs)
}

// answers answers one thing that waits: well, or badly if it may.
func (w *town) answers(well bool) {
	i := w.Intn(len(w.waits))
	o := w.waits[i]
	w.waits = append(w.waits[:i:i], w.waits[i+1:]...)
	bad := 99
	if !well {
		bad = w.Intn(12)
	}
	switch {
	case o.Kind == api.Dial && bad == 0:
		w.hear(w.cell.Do(failed(o.H)))
	case o.Kind == api.Dial:
		w.hear(w.cell.Do(joined(o.H)))
	case bad == 0:
		w.hear(w.cell.Do(gone(o.H)))
	case bad == 1:
		w.hear(w.cell.Do(said(o.H, "HTTP/1.1 200 OK\r\nCont")))
		w.hear(w.cell.Do(gone(o.H)))
	case bad == 2:
		w.hear(w.cell.Do(said(o.H, "?\r\n")))
	case bad == 3: // it says nothing
	default:
		target := strings.Fields(string(o.Data))[1]
		w.hear(w.cell.Do(said(o.H, fmt.Sprintf("HTTP/1.1 200 OK\r\nContent-Length: %d\r\n\r\n%s", len(target), target))))
	}
}

// step does something.
func (w *town) step() {
	id := 1 + w.Intn(3)
	x := w.here[id]
	switch n := w.Intn(20); {
	case x == nil && n < 8:
		w.opens(id)
	case n < 8:
		w.speaks(x)
	case n == 8 && x != nil && w.Intn(4) == 0:
		w.hear(w.cell.Do(ends(id)))
		delete(w.here, id)
	case n < 15 && len(w.waits) > 0:
		w.answers(false)
	case n == 15:
		w.hear(w.cell.Do(ticks(w.Intn(3))))
	default:
		w.hear(w.cell.Do(round()))
	}
}

// settles lets all that is there be said, answered and written.
func (w *town) settles() {
	for id := 1; id <= 3; id++ {
		for i := 0; w.here[id] != nil && (w.here[id].left != "" || i < 20); i++ {
			if i > 10000 {
				w.Fatal("it isn't all taken")
			}
			w.speaks(w.here[id])
			for len(w.waits) > 0 {
				w.answers(true)
			}
			w.hear(w.cell.Do(ticks(20)))
			w.hear(w.cell.Do(round()))
		}
	}
}

// check holds a life's records and responses against what it asked. Of those that stay all has come whole.
func (x *life) check(t *testing.T, stays bool) {
	t.Helper()
	if len(x.log) > len(x.asked) || stays && len(x.log) != len(x.asked) {
		t.Fatalf("%d records of %d requests", len(x.log), len(x.asked))
	}
	rest := x.stream
	for i, e := range x.log {
		if e.Target != x.asked[i] {
			t.Fatalf("record %d is of %s, want %s", i, e.Target, x.asked[i])
		}
		r, n, right := http.Response(rest, e.Method, false)
		if n == 0 && right && !stays {
			break // it went away, or was closed, ahead of that
		}
		if r.Code != e.Code || n != e.Down || r.Code == 200 && string(r.Body) != e.Target {
			t.Fatalf("the response to %s is %d, %q", e.Target, r.Code, r.Body)
		}
		rest = rest[n:]
	}
	if stays && len(rest) > 0 {
		t.Fatalf("%q is written behind", rest)
	}
}

// P19.3: each request has one record, whose Seq is the next; the responses stand in the order of the requests.
func TestOrder(t *testing.T) {
	stayed, codes := 0, map[int]int{}
	for seed := range 300 {
		s := slot()
		s.Quota, s.Pool, s.Rate, s.Burst = []int{600, 1500, 9000}[seed%3], 1+seed%4, 1, 20
		c := made(t, s, "up u a b\nroute / u /\ntotal 6\ntries 1\nfails 3\ncool 2\n")
		w := &town{T: t, Rand: rand.New(rand.NewSource(int64(seed))), cell: c, here: map[int]*life{}}
		for range 300 {
			w.step()
		}
		w.settles()
		for _, x := range w.lives {
			stays := w.here[x.id] == x
			x.check(t, stays)
			for _, e := range x.log {
				codes[e.Code]++
			}
			if stays {
				stayed++
			}
		}
		if all, wrong := entry.All(w.log); wrong != api.OK || len(all) > 0 && all[0].Seq != 1 {
			t.Fatalf("the log %q", w.log)
		}
		if c.Held() != 0 {
			t.Fatalf("%d bytes are held", c.Held())
		}
	}
	if stayed < 100 {
		t.Errorf("only %d stay", stayed)
	}
	for _, code := range []int{0, 200, 429, 502, 503, 504} {
		if codes[code] < 5 {
			t.Errorf("%d comes only %d times", code, codes[code])
		}
	}
}

// spoil writes over all of a list, its spare room too.
func spoil(b []byte, with byte) {
	b = b[:cap(b)]
	for i := range b {
		b[i] = with
	}
}

// spoilAll writes over all lists of an answer, each with another byte, and tells whether two share memory.
func spoilAll(outs []api.Out) bool {
	lists := outs[:len(outs):len(outs)]
	for i, o := range lists {
		spoil(o.Data, byte(i))
	}
	for i, o := range lists {
		for _, b := range o.Data[:cap(o.Data)] {
			if b != byte(i) {
				return true
			}
		}
	}
	outs = outs[:cap(outs)]
	for i := range outs {
		outs[i] = api.Out{Kind: 77, Data: []byte("spoilt")}
	}
	return false
}

// lent is a list with something behind its length.
func lent(b []byte) []byte {
	return append(append(make([]byte, 0, len(b)+9), b...), "behind"...)[:len(b)]
}

// P19.4: what is handed in is neither changed nor kept, and what is answered is the caller's.
func TestMemory(t *testing.T) {
	for seed := range 300 {
		s := script{rand.New(rand.NewSource(int64(seed))), map[int]string{}, map[int]string{}}
		limits := s.slot()
		hosts := append([]string{}, limits.Hosts...)
		plain, c := newModel(limits), cell.New(api.Slot{
			Name: limits.Name, Hosts: hosts, Quota: limits.Quota, Conns: limits.Conns, Pool: limits.Pool,
			Rate: limits.Rate, Burst: limits.Burst, Quantum: limits.Quantum,
		})
		if !strings.EqualFold(strings.Join(hosts, " "), "h g") {
			t.Fatal("the hosts are changed")
		}
		hosts[0], hosts[1] = "x", "y"
		for i := range 150 {
			e := s.event(plain.last)
			if i == 0 {
				e = upload(ordinary)
			}
			like := e
			data := lent(e.Data)
			e.Data = data
			var got, must []api.Out
			if e.Kind == api.Bytes && plain.find(e.Conn) == nil {
				got, must = c.Adopt(e.Conn, data, 99), plain.Adopt(e.Conn, like.Data, 99)
			} else {
				got, must = c.Do(e), plain.Do(like)
			}
			if !bytes.Equal(data[:len(data)+6], append(bytes.Clone(like.Data), "behind"...)) {
				t.Fatalf("seed %d, event %d: what was handed in is changed", seed, i)
			}
			spoil(data, '!')
			if show(got) != show(must) {
				t.Fatalf("seed %d, event %d: %s\nwant %s", seed, i, show(got), show(must))
			}
			if spoilAll(got) {
				t.Fatalf("seed %d, event %d: two lists share memory", seed, i)
			}
		}
	}
}

// P19.4: the bytes of a job that is tried anew are the same, whatever was done with those that were told.
func TestMemoryOfSend(t *testing.T) {
	c := busyCell(t, "up u a b\nroute / u /\ntotal 9\ntries 3\nfails 9\ncool 5\n", get)
	c.Do(gone(1))
	for h := 2; h <= 4; h++ {
		outs := c.Do(joined(h))
		want(t, outs, send(h, sentGet))
		spoilAll(outs)
		spoilAll(c.Do(gone(h)))
	}
}

// P2: the same calls are answered in the same way, however many connections there are.
func TestSame(t *testing.T) {
	s := slot()
	s.Conns, s.Pool, s.Quota, s.Burst = 64, 64, api.MaxQuota, 99
	var first string
	for i := range 20 {
		c := made(t, s, "up u a b c\nroute / u /\ntotal 5\ntries 0\nfails 99\ncool 5\n")
		var all []string
		for id := range 64 {
			all = append(all, show(c.Adopt(1+id*7%64, []byte(get), 30)))
		}
		for h := range 64 {
			all = append(all, show(c.Do(joined(h+1))))
		}
		for h := range 20 {
			all = append(all, show(c.Do(said(3*h+1, ok))))
		}
		all = append(all, show(c.Do(round())), show(c.Do(ticks(5))), show(c.Do(round())))
		if got := strings.Join(all, "\n"); i == 0 {
			first = got
		} else if got != first {
			t.Fatal("it is told otherwise")
		}
	}
}
