package cell_test

import (
	"fmt"
	"math"
	"slices"
	"strings"
	"testing"

	"tollbar/api"
	"tollbar/cell"
	"tollbar/http"
	"tollbar/scrub"
)

const (
	get      = "GET / HTTP/1.1\r\nHost: h\r\n\r\n"
	sentGet  = "GET / HTTP/1.1\r\nHost: h\r\n\r\n"
	ok       = "HTTP/1.1 200 OK\r\nContent-Length: 2\r\n\r\nab"
	empty    = "HTTP/1.1 204 x\r\n\r\n"
	goAhead  = "HTTP/1.1 100 Continue\r\n\r\n"
	waiting  = "PUT /w HTTP/1.1\r\nHost: h\r\nExpect: 100-continue\r\nContent-Length: 2\r\n\r\n"
	ordinary = "up u a b\nroute / u /\ntotal 9\ntries 1\nfails 3\ncool 5\n"
)

func slot() api.Slot {
	return api.Slot{Name: "t", Hosts: []string{"h", "g"}, Quota: 3000, Conns: 3, Pool: 3, Rate: 1, Burst: 20, Quantum: 500}
}

// made is a cell of a slot with a configuration.
func made(t *testing.T, s api.Slot, set string) *cell.Cell {
	t.Helper()
	c := cell.New(s)
	if got := show(c.Do(upload(set))); got != "taken" {
		t.Fatalf("the configuration is %s", got)
	}
	return c
}

func upload(set string) api.Event { return api.Event{Kind: api.Upload, Data: []byte(set)} }

func says(id int, s string) api.Event { return api.Event{Kind: api.Bytes, Conn: id, Data: []byte(s)} }

func ends(id int) api.Event { return api.Event{Kind: api.End, Conn: id} }

func opens(id, n int) api.Event { return api.Event{Kind: api.Window, Conn: id, N: n} }

func joined(h int) api.Event { return api.Event{Kind: api.Joined, H: h} }

func said(h int, s string) api.Event { return api.Event{Kind: api.Said, H: h, Data: []byte(s)} }

func failed(h int) api.Event { return api.Event{Kind: api.Failed, H: h} }

func gone(h int) api.Event { return api.Event{Kind: api.Gone, H: h} }

func ticks(n int) api.Event { return api.Event{Kind: api.Tick, N: n} }

func round() api.Event { return api.Event{Kind: api.Round} }

// one is what an out says in a line; an out that has more than its kind names, or is another tenant's, says so.
func one(o api.Out) string {
	var text string
	left := o
	switch o.Kind {
	case api.Write:
		text, left.Conn, left.Data = fmt.Sprintf("write %d %q", o.Conn, o.Data), 0, nil
	case api.Pause:
		text, left.Conn = fmt.Sprint("pause ", o.Conn), 0
	case api.Close:
		text, left.Conn = fmt.Sprint("close ", o.Conn), 0
	case api.Dial:
		text, left.H, left.Text = fmt.Sprintf("dial %d %s", o.H, o.Text), 0, ""
	case api.Send:
		text, left.H, left.Data = fmt.Sprintf("send %d %q", o.H, o.Data), 0, nil
	case api.Hang:
		text, left.H = fmt.Sprint("hang ", o.H), 0
	case api.Log:
		text, left.Data = "log "+strings.TrimSuffix(string(o.Data), "\n"), nil
	case api.Taken:
		text = "taken"
	case api.Refused:
		text = "refused"
	}
	if left.Conn != 0 || left.H != 0 || left.Text != "" || len(left.Data) != 0 || left.Tenant != "t" || text == "" {
		return fmt.Sprintf("wrong %+v", o)
	}
	return text
}

func show(outs []api.Out) string {
	var all []string
	for _, o := range outs {
		all = append(all, one(o))
	}
	return strings.Join(all, ", ")
}

func send(h int, s string) string { return fmt.Sprintf("send %d %q", h, s) }

func write(id int, s string) string { return fmt.Sprintf("write %d %q", id, s) }

// pieces is the writes of a response that is all that is written in a round.
func pieces(id int, s string) string {
	var all []string
	for piece := range slices.Chunk([]byte(s), 64) {
		all = append(all, write(id, string(piece)))
	}
	return strings.Join(all, ", ")
}

func own(code int, closes bool) string { return string(http.WriteResponse(scrub.Own(code, closes))) }

// want holds what is told against texts, each of one out or of several.
func want(t *testing.T, outs []api.Out, texts ...string) {
	t.Helper()
	if got := show(outs); got != strings.Join(texts, ", ") {
		t.Fatalf("told:\n%s\nwant:\n%s", got, strings.Join(texts, ", "))
	}
}

// has holds how much a cell has against numbers.
func has(t *testing.T, c *cell.Cell, held, conns, handles int) {
	t.Helper()
	if c.Held() != held || c.Conns() != conns || c.Handles() != handles {
		t.Fatalf("held %d, %d connections, %d handles; want %d, %d, %d", c.Held(), c.Conns(), c.Handles(), held, conns, handles)
	}
}

// busyCell is a cell whose connection 1 has a job that was sent by the handle 1.
func busyCell(t *testing.T, set, request string) *cell.Cell {
	t.Helper()
	c := made(t, slot(), set)
	want(t, c.Adopt(1, []byte(request), 1<<20), "dial 1 a")
	if got := show(c.Do(joined(1))); !strings.HasPrefix(got, "send 1 ") {
		t.Fatal(got)
	}
	return c
}

// idleCell is a cell whose handle 1 is idle, and whose connection 1 has no job.
func idleCell(t *testing.T, set string) *cell.Cell {
	t.Helper()
	c := busyCell(t, set, get)
	want(t, c.Do(said(1, empty)), "log 1 0 0 1 GET / 204 1 18")
	want(t, c.Do(round()), write(1, empty))
	has(t, c, 0, 1, 1)
	return c
}

// P19.1: the chapter's example.
func TestExample(t *testing.T) {
	s := slot()
	s.Hosts = []string{"h"}
	c := made(t, s, "up u a\nroute / u /\ntotal 9\ntries 0\nfails 1\ncool 5\n")
	want(t, c.Adopt(1, []byte(get), 99), "dial 1 a")
	want(t, c.Do(joined(1)), send(1, sentGet))
	want(t, c.Do(said(1, empty)), "log 1 0 0 1 GET / 204 1 18")
	want(t, c.Do(round()), write(1, empty))
	has(t, c, 0, 1, 1)
}

// P19.1: an empty cell has nothing, and nothing comes of events of what isn't there, or of other kinds.
func TestEmpty(t *testing.T) {
	c := cell.New(slot())
	for _, n := range []int{0, 1, -1, 7, math.MaxInt, math.MinInt} {
		for _, kind := range []int{api.Accept, api.Bytes, api.End, api.Window, api.Joined, api.Said, api.Failed, api.Gone, api.Round, 0, -1, 12, 99, math.MaxInt, math.MinInt} {
			want(t, c.Do(api.Event{Kind: kind, Conn: n, H: n, N: n, Tenant: "t", Data: []byte(get)}))
		}
		if c.Has(n) {
			t.Errorf("connection %d is there", n)
		}
	}
	has(t, c, 0, 0, 0)
	if c.Now() != 0 {
		t.Errorf("the time is %d", c.Now())
	}
}

// P19.1: at first the default configuration holds, of no routes.
func TestDefault(t *testing.T) {
	c := cell.New(slot())
	want(t, c.Adopt(1, []byte(get), 0), "log 1 0 0 1 GET / 404 0 45")
	has(t, c, 45, 1, 0)
}

// P19.1, P19.2: a connection above the cap is told so as far as its window lets, and isn't there.
func TestAdoptFull(t *testing.T) {
	s := slot()
	s.Conns = 2
	c := made(t, s, ordinary)
	want(t, c.Adopt(5, nil, 0))
	want(t, c.Adopt(6, []byte("GE"), 0))
	b := own(503, true)
	seq := 0
	for _, x := range []struct {
		window int
		text   string
	}{
		{0, ""}, {-1, ""}, {math.MinInt, ""}, {1, b[:1]}, {len(b) - 1, b[:len(b)-1]}, {len(b), b}, {len(b) + 1, b}, {1 << 30, b}, {math.MaxInt, b},
	} {
		seq++
		texts := []string{fmt.Sprintf("log %d 0 0 7 - - 503 0 %d", seq, len(b))}
		if x.text != "" {
			texts = append(texts, write(7, x.text))
		}
		outs := c.Adopt(7, []byte(get), x.window)
		want(t, outs, append(texts, "close 7")...)
		if n := len(outs[1].Data); cap(outs[1].Data) != n {
			t.Fatalf("%d bytes are cut off, with room for %d", n, cap(outs[1].Data))
		}
		has(t, c, 2, 2, 0)
		if c.Has(7) || !c.Has(5) || !c.Has(6) {
			t.Fatal("who is there")
		}
	}
	want(t, c.Do(ends(5)))
	want(t, c.Adopt(7, []byte(get), 0), "dial 1 a")
	for _, most := range []int{0, -1, math.MinInt} {
		s.Conns = most
		want(t, cell.New(s).Adopt(1, nil, 0), "log 1 0 0 1 - - 503 0 "+fmt.Sprint(len(b)), "close 1")
	}
}

// P19.1, P19.2: a connection for whose bytes there is no room isn't there, and nothing of it is held.
func TestAdoptNoRoom(t *testing.T) {
	c := made(t, slot(), ordinary)
	want(t, c.Adopt(1, make([]byte, 3001), 10), "log 1 0 0 1 - - 503 0 74", write(1, own(503, true)[:10]), "close 1")
	has(t, c, 0, 0, 0)
	want(t, c.Adopt(1, []byte("GET"), 0))
	want(t, c.Adopt(2, make([]byte, 2998), 0), "log 2 0 0 2 - - 503 0 74", "close 2")
	has(t, c, 3, 1, 0)
	for _, quota := range []int{0, -1, math.MinInt} {
		s := slot()
		s.Quota = quota
		c := cell.New(s)
		want(t, c.Adopt(1, []byte("G"), 0), "log 1 0 0 1 - - 503 0 74", "close 1")
		want(t, c.Adopt(1, nil, 0))
		want(t, c.Do(says(1, "G")), "pause 1")
		has(t, c, 0, 1, 0)
	}
}

// P19.1: a number that is there already isn't adopted again.
func TestAdoptTwice(t *testing.T) {
	c := busyCell(t, ordinary, get)
	want(t, c.Adopt(1, []byte(get), 5))
	want(t, c.Adopt(1, make([]byte, 9999), 5))
	has(t, c, len(sentGet), 1, 1)
	want(t, c.Do(said(1, empty)), "log 1 0 0 1 GET / 204 1 18")
}

// P19.1: what a window lets is counted as a connection counts it.
func TestWindow(t *testing.T) {
	c := cell.New(slot())
	c.Adopt(1, []byte(get), -5)
	want(t, c.Do(round()))
	b := own(404, false)
	for _, n := range []int{0, -1, math.MinInt} {
		want(t, c.Do(opens(1, n)))
		want(t, c.Do(round()))
	}
	want(t, c.Do(opens(1, 3)))
	want(t, c.Do(opens(2, 30)))
	want(t, c.Do(round()), write(1, b[:3]))
	want(t, c.Do(opens(1, math.MaxInt)))
	want(t, c.Do(opens(1, math.MaxInt)))
	want(t, c.Do(round()), write(1, b[3:]))
	has(t, c, 0, 1, 0)
}

// P19.1: bytes for which there is no room aren't taken, and may come again.
func TestPause(t *testing.T) {
	c := made(t, slot(), ordinary)
	head := "PUT / HTTP/1.1\r\nHost: h\r\nContent-Length: 4000\r\n\r\n"
	want(t, c.Adopt(1, []byte(head), 0))
	want(t, c.Do(says(1, strings.Repeat("x", 3001-len(head)))), "pause 1")
	has(t, c, len(head), 1, 0)
	want(t, c.Do(says(1, strings.Repeat("x", 3000-len(head)))))
	want(t, c.Do(says(1, "x")), "pause 1")
	want(t, c.Do(says(1, "")))
	has(t, c, 3000, 1, 0)
	want(t, c.Do(ends(1)))
	has(t, c, 0, 0, 0)
}

// P19.1: a request is one however its bytes come.
func TestPieces(t *testing.T) {
	for n := range len(get) {
		c := made(t, slot(), ordinary)
		want(t, c.Adopt(1, []byte(get[:n]), 0))
		has(t, c, n, 1, 0)
		want(t, c.Do(says(1, get[n:])), "dial 1 a")
		has(t, c, len(sentGet), 1, 1)
	}
}

// P19.1: a client that waits is told to go on, once, if there is room.
func TestGoAhead(t *testing.T) {
	c := made(t, slot(), ordinary)
	want(t, c.Adopt(1, []byte(waiting), 99))
	has(t, c, len(waiting)+len(goAhead), 1, 0)
	want(t, c.Do(round()), write(1, goAhead))
	want(t, c.Do(says(1, "x")))
	want(t, c.Do(round()))
	want(t, c.Do(says(1, "y"+waiting)), "dial 1 a")
	// The one behind is looked at when the job is over.
	want(t, c.Do(round()))
	want(t, c.Do(joined(1)), send(1, "PUT /w HTTP/1.1\r\nHost: h\r\nContent-Length: 2\r\n\r\nxy"))
	want(t, c.Do(said(1, empty)), "log 1 0 0 1 PUT /w 204 1 18")
	want(t, c.Do(opens(1, 99)))
	want(t, c.Do(round()), write(1, empty+goAhead))
	s := slot()
	s.Quota = len(waiting) + len(goAhead) - 1
	c = made(t, s, ordinary)
	want(t, c.Adopt(1, []byte(waiting), 99))
	want(t, c.Do(round()))
	has(t, c, len(waiting), 1, 0)
}

// P19.1: what can't be read is told its status, closes, and has a record without a request.
func TestStatus(t *testing.T) {
	for text, status := range map[string]int{
		"BAD\r\n":                                                                 400,
		"GET / HTTP/1.1\r\n\r\n":                                                  400,
		"GET / HTTP/2.0\r\n":                                                      505,
		"GET /" + strings.Repeat("x", 513):                                        0,
		strings.Repeat("x", 2048):                                                 431,
		get[:25] + "Content-Length: 9999":                                         0,
		get[:25] + "Content-Length: 4097":                                         0,
		"GET / HTTP/1.1\r\nHost: h\r\n\r\n\n":                                     400,
		"PUT / HTTP/1.1\r\nHost: h\r\nContent-Length: 4097\r\n\r\n":               413,
		"PUT / HTTP/1.1\r\nHost: h\r\nTransfer-Encoding: gzip\r\n\r\n":            501,
		"GET /" + strings.Repeat("x", 513) + " HTTP/1.1\r\nHost: h\r\n\r\n" + get: 414,
	} {
		c := cell.New(slot())
		outs := c.Adopt(1, []byte(text), 999)
		if status == 0 {
			want(t, outs)
			continue
		}
		b := own(status, true)
		line := fmt.Sprintf("0 0 1 - - %d 0 %d", status, len(b))
		if strings.HasPrefix(text, get) {
			want(t, outs, "log 1 0 0 1 GET / 404 0 45", "log 2 "+line)
			b = own(404, false) + b
		} else {
			want(t, outs, "log 1 "+line)
		}
		has(t, c, len(b), 1, 0)
		// Nothing more is taken of it.
		want(t, c.Do(says(1, get)))
		want(t, c.Do(says(1, strings.Repeat("x", 9999))))
		want(t, c.Do(round()), pieces(1, b), "close 1")
		has(t, c, 0, 0, 0)
	}
}

// P19.1: a request that isn't a job has the first code that applies, and closes if it says so.
func TestRefusals(t *testing.T) {
	s := slot()
	s.Burst, s.Rate, s.Quota = 1, 1, 900
	set := "up u a\nroute /a u /" + strings.Repeat("y", 99) + "\nset x " + strings.Repeat("z", 800) + "\ntotal 9\ntries 0\nfails 1\ncool 5\n"
	long := "/a/" + strings.Repeat("x", 500)
	for _, x := range []struct {
		target, host string
		empty        bool // the bucket
		code         int
	}{
		{long, "other", true, 421},
		{long, "other", false, 421},
		{long, "h", true, 429},
		{"/b", "h", true, 429},
		{"/b", "g:80", false, 404},
		{"/ab", "H", false, 404},
		{long, "h", false, 414},
		{"/a/b", "G", false, 503},
	} {
		for _, how := range []struct {
			version, more string
			closes        bool
		}{
			{"1", "", false}, {"1", "Connection: x, Close\r\n", true}, {"0", "", true}, {"0", "Connection: keep-alive\r\n", false},
		} {
			c := made(t, s, set)
			want(t, c.Adopt(1, nil, 999))
			if x.empty {
				want(t, c.Adopt(2, []byte("GET /q HTTP/1.1\r\nHost: h\r\n\r\n"), 0), "log 1 0 0 2 GET /q 404 0 45")
				want(t, c.Do(ends(2)))
			}
			closes := how.closes || x.code == 421
			b := own(x.code, closes)
			outs := c.Do(says(1, "HEAD "+x.target+" HTTP/1."+how.version+"\r\nHost: "+x.host+"\r\n"+how.more+"\r\n"))
			seq := 1
			if x.empty {
				seq = 2
			}
			want(t, outs, fmt.Sprintf("log %d 0 0 1 HEAD %s %d 0 %d", seq, x.target, x.code, len(b)))
			has(t, c, len(b), 1, 0)
			texts := []string{pieces(1, b)}
			if closes {
				texts = append(texts, "close 1")
			}
			want(t, c.Do(round()), texts...)
		}
	}
}

// P19.1: HTTP/1.0 without a host is of no slot's host.
func TestNoHost(t *testing.T) {
	c := made(t, slot(), ordinary)
	want(t, c.Adopt(1, []byte("GET / HTTP/1.0\r\n\r\n"), 0), "log 1 0 0 1 GET / 421 0 74")
}

// P19.1: tokens are taken by requests that are refused later too, but not by those of another host; ticks bring new ones.
func TestRate(t *testing.T) {
	s := slot()
	s.Rate, s.Burst = 2, 3
	c := cell.New(s)
	four, nine := "GET / 404 0 45", "GET / 429 0 53"
	c.Adopt(1, []byte("GET / HTTP/1.1\r\nHost: x\r\n\r\n"), 0)
	want(t, c.Adopt(2, []byte(strings.Repeat(get, 4)), 0), "log 2 0 0 2 "+four, "log 3 0 0 2 "+four, "log 4 0 0 2 "+four, "log 5 0 0 2 "+nine)
	want(t, c.Do(ticks(1)))
	want(t, c.Do(says(2, get+get+get)), "log 6 1 0 2 "+four, "log 7 1 0 2 "+four, "log 8 1 0 2 "+nine)
	want(t, c.Do(ticks(9)))
	want(t, c.Do(says(2, strings.Repeat(get, 4))), "log 9 10 0 2 "+four, "log 10 10 0 2 "+four, "log 11 10 0 2 "+four, "log 12 10 0 2 "+nine)
}

// P19.1: what is sent was scrubbed, with its route's target; the record has the target as it came.
func TestSent(t *testing.T) {
	c := made(t, slot(), "up u a\nup v c\nroute / u /\nroute /v v /n/\nset Z 3 4\ndrop Q\ntotal 9\ntries 0\nfails 1\ncool 5\n")
	want(t, c.Adopt(1, []byte("POST /v/x?y HTTP/1.0\r\nHost: G:8\r\nQ: 1\r\nX: 1\r\nConnection: x\r\nY: 2\r\nz: 5\r\nContent-Length: 2\r\n\r\nab"), 99), "dial 1 c")
	b := "POST /n/x?y HTTP/1.1\r\nHost: g\r\nY: 2\r\nZ: 3 4\r\nContent-Length: 2\r\n\r\nab"
	has(t, c, len(b), 1, 1)
	want(t, c.Do(joined(1)), send(1, b))
	has(t, c, len(b), 1, 1)
	want(t, c.Do(said(1, "HTTP/1.0 200 OK\r\nContent-Length: 1\r\nVia: x\r\nB: c\r\n\r\nz")),
		"hang 1", "log 1 0 0 1 POST /v/x?y 200 1 64")
	want(t, c.Do(round()), write(1, "HTTP/1.1 200 OK\r\nB: c\r\nContent-Length: 1\r\nConnection: close\r\n\r\nz"), "close 1")
	has(t, c, 0, 0, 0)
}

// P19.1: aims have their turns; an idle handle is sent by at once, and the one that is idle for the longest time is hung up for a fresh one.
func TestStart(t *testing.T) {
	s := slot()
	s.Pool = 2
	c := made(t, s, "up u a b c\nup v b\nroute / u /\nroute /v v /\ntotal 9\ntries 0\nfails 1\ncool 5\n")
	want(t, c.Adopt(1, []byte(get), 0), "dial 1 a")
	want(t, c.Adopt(2, []byte(get), 0), "dial 2 b")
	want(t, c.Adopt(3, []byte(get), 0), "log 1 0 0 3 GET / 503 0 55") // c, but none is idle
	c.Do(joined(1))
	c.Do(joined(2))
	c.Do(said(2, empty))
	c.Do(said(1, empty))
	want(t, c.Do(says(3, "GET /v HTTP/1.1\r\nHost: h\r\n\r\n")), send(2, sentGet))
	want(t, c.Do(said(2, empty)), "log 4 0 0 3 GET /v 204 2 18")
	want(t, c.Do(says(1, get)), send(1, sentGet)) // behind c it is a's turn
	want(t, c.Do(said(1, empty)), "log 5 0 0 1 GET / 204 1 18")
	want(t, c.Do(says(1, get)), send(2, sentGet))
	want(t, c.Do(says(2, get)), "hang 1", "dial 3 c")
	want(t, c.Do(says(3, get)), "log 6 0 0 3 GET / 503 0 55")
	has(t, c, 2*len(sentGet)+18*4+55*2, 3, 2)
}

// P19.1: of an upstream all of whose aims are sick 503 is told, till they are well again.
func TestAllSick(t *testing.T) {
	c := made(t, slot(), "up u a\nroute / u /\ntotal 9\ntries 3\nfails 1\ncool 5\n")
	want(t, c.Adopt(1, []byte(get), 0), "dial 1 a")
	// Tried anew there is nowhere to go; the record tells the last handle.
	want(t, c.Do(failed(1)), "log 1 0 0 1 GET / 503 1 55")
	want(t, c.Do(says(1, get)), "log 2 0 0 1 GET / 503 0 55")
	c.Do(ticks(4))
	want(t, c.Do(says(1, get)), "log 3 4 0 1 GET / 503 0 55")
	c.Do(ticks(1))
	want(t, c.Do(says(1, get)), "dial 2 a")
}

// loss is an event by which a handle is lost, if it is dialled, or busy, and whether it is hung up then.
type loss struct {
	busy bool
	e    api.Event
	hang bool
}

func losses() []loss {
	return []loss{
		{false, failed(1), false}, {false, gone(1), false}, {false, said(1, ok), true}, {false, said(1, ""), true},
		{true, gone(1), false}, {true, said(1, "?\r\n\r\n"), true}, {true, said(1, strings.Repeat("x", 3000)), true},
		{true, said(1, "HTTP/1.1 100 x\r\n\r\nHTTP/2\r\n"), true},
	}
}

// come tells whether a byte has come by a loss.
func (x loss) come() bool { return x.busy && len(x.e.Data) > 0 }

func (x loss) cell(t *testing.T, set, method string) *cell.Cell {
	t.Helper()
	c := made(t, slot(), set)
	want(t, c.Adopt(1, []byte(method+get[3:]), 0), "dial 1 a")
	if x.busy {
		c.Do(joined(1))
	}
	return c
}

// P19.1: a handle is lost, and its job tried anew, or not.
func TestLost(t *testing.T) {
	for _, x := range losses() {
		for method, again := range map[string]bool{
			"GET": true, "HEAD": true, "OPTIONS": true, "PUT": true, "DELETE": true, "TRACE": true,
			"POST": false, "PATCH": false, "get": false, "X": false, "CONNECT": false,
		} {
			for _, tries := range []int{0, 1, 3} {
				c := x.cell(t, fmt.Sprintf("up u a b\nroute / u /\ntotal 9\ntries %d\nfails 3\ncool 5\n", tries), method)
				var texts []string
				if x.hang {
					texts = append(texts, "hang 1")
				}
				if again && tries > 0 && !x.come() {
					texts = append(texts, "dial 2 b")
				} else {
					texts = append(texts, "log 1 0 0 1 "+method+" / 502 1 47")
				}
				want(t, c.Do(x.e), texts...)
				want(t, c.Do(joined(1)))
				want(t, c.Do(said(1, ok)))
				want(t, c.Do(gone(1)))
			}
		}
	}
}

// P19.1: it is tried as often as is said, and no more; the record has the last handle, and what it took in all.
func TestTries(t *testing.T) {
	for tries := range 4 {
		c := made(t, slot(), fmt.Sprintf("up u a b\nroute / u /\ntotal 9\ntries %d\nfails 9\ncool 5\n", tries))
		want(t, c.Adopt(1, []byte(get), 0), "dial 1 a")
		for h := 1; h <= tries; h++ {
			want(t, c.Do(ticks(1)))
			want(t, c.Do(failed(h)), fmt.Sprintf("dial %d %c", h+1, "ab"[h%2]))
			has(t, c, len(sentGet), 1, 1)
		}
		want(t, c.Do(failed(tries+1)), fmt.Sprintf("log 1 %d %d 1 GET / 502 %d 47", tries, tries, tries+1))
		has(t, c, 47, 1, 0)
	}
}

// P19.1: a job that is tried anew may be sent at once by a handle that is idle, and the same bytes are sent.
func TestTriedByIdle(t *testing.T) {
	c := idleCell(t, "up u a b\nroute / u /\ntotal 9\ntries 1\nfails 9\ncool 5\n")
	want(t, c.Do(says(1, get)), "dial 2 b")
	want(t, c.Do(joined(2)), send(2, sentGet))
	want(t, c.Do(said(2, "")))
	want(t, c.Do(gone(2)), send(1, sentGet))
	want(t, c.Do(joined(1)))
	want(t, c.Do(said(1, ok)), "log 2 0 0 1 GET / 200 1 40")
}

// P19.1: behind a handle that is lost the connection goes on.
func TestLostGoesOn(t *testing.T) {
	for _, x := range losses() {
		c := x.cell(t, "up u a b\nroute / u /\ntotal 9\ntries 0\nfails 9\ncool 5\n", "GET")
		want(t, c.Do(says(1, get+"GET / HTTP/1.1\r\nHost: x\r\n\r\n"+get)))
		var texts []string
		if x.hang {
			texts = append(texts, "hang 1")
		}
		if len(x.e.Data) == 3000 {
			x.e.Data = make([]byte, 2999)
		}
		want(t, c.Do(x.e), append(texts, "log 1 0 0 1 GET / 502 1 47", "dial 2 b")...)
		want(t, c.Do(failed(2)), "log 2 0 0 1 GET / 502 2 47", "log 3 0 0 1 GET / 421 0 74")
		has(t, c, 47+47+74, 1, 0)
	}
}

// P19.1: a byte that has come counts, though it was taken out; one that hasn't doesn't.
func TestNoByte(t *testing.T) {
	for _, x := range []struct{ came, then string }{{"", "dial 2 b"}, {"H", ""}, {"HTTP/1.1 100 x\r\n\r\n", ""}, {"HTTP/1.1 200 x\r\nContent-Length: 1\r\n\r\n", ""}} {
		c := busyCell(t, ordinary, get)
		want(t, c.Do(said(1, x.came)))
		want(t, c.Do(said(1, "")))
		if x.then == "" {
			x.then = "log 1 0 0 1 GET / 502 1 47"
		}
		want(t, c.Do(gone(1)), x.then)
	}
}

// P19.1: each lost handle is a fail of its aim, a time that is up too; a response is none, and ends the row.
func TestHealth(t *testing.T) {
	set := "up u a\nroute / u /\ntotal 9\ntries 0\nfails 2\ncool 5\n"
	for _, x := range losses() {
		c := x.cell(t, set, "GET")
		c.Do(x.e)
		want(t, c.Do(says(1, get)), "dial 2 a")
		want(t, c.Do(failed(2)), "log 2 0 0 1 GET / 502 2 47")
		want(t, c.Do(says(1, get)), "log 3 0 0 1 GET / 503 0 55")
	}
	c := made(t, slot(), set)
	c.Adopt(1, []byte(get), 0)
	want(t, c.Do(ticks(9)), "hang 1", "log 1 9 9 1 GET / 504 1 51")
	want(t, c.Do(says(1, get)), "dial 2 a")
	want(t, c.Do(failed(2)), "log 2 9 0 1 GET / 502 2 47")
	want(t, c.Do(says(1, get)), "log 3 9 0 1 GET / 503 0 55")
	c = made(t, slot(), set)
	c.Adopt(1, []byte(get+get+get), 0)
	want(t, c.Do(failed(1)), "log 1 0 0 1 GET / 502 1 47", "dial 2 a")
	c.Do(joined(2))
	want(t, c.Do(said(2, empty)), "log 2 0 0 1 GET / 204 2 18", send(2, sentGet))
	want(t, c.Do(gone(2)), "log 3 0 0 1 GET / 502 2 47")
	want(t, c.Do(says(1, get)), "dial 3 a")
	// Hung up by its own client, it hasn't failed.
	want(t, c.Do(ends(1)), "hang 3", "log 4 0 0 1 GET / 0 3 0")
	want(t, c.Adopt(1, []byte(get), 0), "dial 4 a")
}

// P19.1: a response that comes in pieces has come when it is whole; what has come is held till then.
func TestResponsePieces(t *testing.T) {
	for _, b := range []string{ok, empty, "HTTP/1.1 200 OK\r\nTransfer-Encoding: chunked\r\n\r\n2;x\r\nab\r\n0\r\nt: u\r\n\r\n"} {
		for n := range len(b) {
			c := busyCell(t, ordinary, get)
			want(t, c.Do(said(1, b[:n])))
			has(t, c, len(sentGet)+n, 1, 1)
			down := ok
			if b == empty {
				down = empty
			}
			want(t, c.Do(said(1, b[n:])), fmt.Sprintf("log 1 0 0 1 GET / %s 1 %d", b[9:12], len(down)))
			has(t, c, len(down), 1, 1)
			want(t, c.Do(round()), write(1, down))
			want(t, c.Do(says(1, get)), "dial 2 b")
		}
	}
}

// P19.1: responses of lesser codes are taken out, however many and however they come.
func TestLesserCodes(t *testing.T) {
	b := "HTTP/1.1 100 x\r\n\r\nHTTP/1.1 103 y\r\nLink: z\r\nContent-Length: 7\r\n\r\nHTTP/1.0 101 z\r\n\r\n"
	for n := range len(b) + 1 {
		c := busyCell(t, ordinary, get)
		want(t, c.Do(said(1, b[:n])))
		want(t, c.Do(said(1, b[n:])))
		has(t, c, len(sentGet), 1, 1)
		want(t, c.Do(said(1, ok)), "log 1 0 0 1 GET / 200 1 40")
		has(t, c, 40, 1, 1)
	}
	c := busyCell(t, ordinary, get)
	want(t, c.Do(said(1, b+b+ok)), "log 1 0 0 1 GET / 200 1 40")
	has(t, c, 40, 1, 1)
	// What stands behind them is given back with them, if it isn't right.
	c = busyCell(t, ordinary, get)
	want(t, c.Do(said(1, b+"HTTP/1.1 99 x\r\n")), "hang 1", "log 1 0 0 1 GET / 502 1 47")
	has(t, c, 47, 1, 0)
	c = busyCell(t, ordinary, get)
	want(t, c.Do(said(1, b+"HTTP/1.1 200 x\r\n\r\nab")))
	has(t, c, len(sentGet)+len("HTTP/1.1 200 x\r\n\r\nab"), 1, 1)
	want(t, c.Do(gone(1)), "log 1 0 0 1 GET / 200 1 39")
}

// P19.1: a handle is idle behind a response, but hung up if the response closes, or bytes stand behind it.
func TestHandleBehind(t *testing.T) {
	for b, rests := range map[string]bool{
		ok: true, empty: true,
		ok + "x": false, empty + "\r\n": false, ok + empty: false,
		"HTTP/1.0 204 x\r\n\r\n":                                                          false,
		"HTTP/1.0 204 x\r\nConnection: Keep-Alive\r\n\r\n":                                true,
		"HTTP/1.1 204 x\r\nConnection: y, CLOSE\r\n\r\n":                                  false,
		"HTTP/1.1 304 x\r\nContent-Length: 99\r\n\r\n":                                    true,
		"HTTP/1.1 500 x\r\nTransfer-Encoding: chunked\r\n\r\n1\r\na\r\n0\r\n\r\n":         true,
		"HTTP/1.1 599 x\r\nTransfer-Encoding: chunked\r\n\r\n1\r\na\r\n0\r\n\r\n\x00\x00": false,
	} {
		c := busyCell(t, "up u a\nroute / u /\ntotal 9\ntries 0\nfails 1\ncool 5\n", get)
		got := show(c.Do(said(1, b)))
		if hung := strings.HasPrefix(got, "hang 1, log 1 "); hung == rests || !hung && !strings.HasPrefix(got, "log 1 ") {
			t.Errorf("%q: %s", b, got)
		}
		if rests {
			want(t, c.Do(says(1, get)), send(1, sentGet))
		} else {
			want(t, c.Do(says(1, get)), "dial 2 a")
		}
	}
}

// P19.1: a response that goes to the end has come when the handle is gone, which isn't hung up then.
func TestGoneWithResponse(t *testing.T) {
	b := "HTTP/1.1 200 OK\r\n\r\nab"
	c := busyCell(t, ordinary, get)
	want(t, c.Do(said(1, b)))
	has(t, c, len(sentGet)+len(b), 1, 1)
	want(t, c.Do(gone(1)), "log 1 0 0 1 GET / 200 1 40")
	has(t, c, 40, 1, 0)
	want(t, c.Do(round()), write(1, ok))
	want(t, c.Do(gone(1)))
}

// P19.1: what is said of a response hangs on the job's method, and on whether its connection closes.
func TestHeadAndClose(t *testing.T) {
	c := busyCell(t, ordinary, "HEAD / HTTP/1.1\r\nHost: h\r\nConnection: close\r\n\r\n"+get)
	b := "HTTP/1.1 200 OK\r\nConnection: close\r\n\r\n"
	want(t, c.Do(said(1, ok[:len(ok)-2])), fmt.Sprintf("log 1 0 0 1 HEAD / 200 1 %d", len(b)))
	// What was behind it is dropped.
	has(t, c, len(b), 1, 1)
	want(t, c.Do(round()), write(1, b), "close 1")
	has(t, c, 0, 0, 1)
}

// P19.1, P19.3: requests that come at once are responded to one by one.
func TestPipeline(t *testing.T) {
	c := made(t, slot(), "up u a\nroute /a u /\ntotal 9\ntries 0\nfails 9\ncool 5\n")
	a := strings.Replace(get, "/", "/a", 1)
	want(t, c.Adopt(1, []byte(get+a+get+get+a+"GET / HTTP/1.1\r\n\r\n"+a), 999), "log 1 0 0 1 GET / 404 0 45", "dial 1 a")
	want(t, c.Do(joined(1)), send(1, sentGet))
	want(t, c.Do(said(1, ok)), "log 2 0 0 1 GET /a 200 1 40", "log 3 0 0 1 GET / 404 0 45", "log 4 0 0 1 GET / 404 0 45", send(1, sentGet))
	want(t, c.Do(said(1, empty)), "log 5 0 0 1 GET /a 204 1 18", "log 6 0 0 1 - - 400 0 66")
	want(t, c.Do(round()), pieces(1, own(404, false)+ok+own(404, false)+own(404, false)+empty+own(400, true)), "close 1")
	has(t, c, 0, 0, 1)
}

// P19.1: events of a handle that don't go with its state do nothing.
func TestOtherStates(t *testing.T) {
	c := made(t, slot(), ordinary)
	c.Adopt(1, []byte(get), 99)
	want(t, c.Do(joined(2)))
	want(t, c.Do(joined(1)), send(1, sentGet))
	want(t, c.Do(joined(1)))
	want(t, c.Do(failed(1)))
	has(t, c, len(sentGet), 1, 1)
	want(t, c.Do(said(1, empty)), "log 1 0 0 1 GET / 204 1 18")
	want(t, c.Do(joined(1)))
	want(t, c.Do(failed(1)))
	has(t, c, 18, 1, 1)
}

// P19.1: an idle handle that says something is hung up; one that is gone isn't there.
func TestIdle(t *testing.T) {
	for _, s := range []string{"", "x", ok} {
		c := idleCell(t, ordinary)
		want(t, c.Do(said(1, s)), "hang 1")
		has(t, c, 0, 1, 0)
	}
	c := idleCell(t, ordinary)
	want(t, c.Do(gone(1)))
	has(t, c, 0, 1, 0)
	want(t, c.Do(gone(1)))
	// Neither is a fail of the aim's.
	set := "up u a\nroute / u /\ntotal 9\ntries 0\nfails 1\ncool 5\n"
	for _, e := range []api.Event{gone(1), said(1, "x")} {
		c := idleCell(t, set)
		c.Do(e)
		want(t, c.Do(says(1, get)), "dial 2 a")
	}
}

// P19.1: a connection that is gone gives all back, and its job has a record.
func TestEnd(t *testing.T) {
	c := busyCell(t, ordinary, get+get)
	c.Do(says(1, get+"GE"))
	c.Do(said(1, "HTTP/1.1 200 OK\r\n"))
	c.Do(ticks(3))
	want(t, c.Do(ends(1)), "hang 1", "log 1 3 3 1 GET / 0 1 0")
	has(t, c, 0, 0, 0)
	want(t, c.Do(ends(1)))
	want(t, c.Do(said(1, "x")))
	// Dialled as well; and what was to be written.
	c.Adopt(1, []byte("GET / HTTP/1.1\r\nHost: h\r\n\r\n"), 0)
	want(t, c.Do(failed(2)), "dial 3 a")
	want(t, c.Do(ends(1)), "hang 3", "log 2 3 0 1 GET / 0 3 0")
	has(t, c, 0, 0, 0)
	want(t, c.Adopt(1, []byte("GET / HTTP/1.1\r\nHost: x\r\n\r\n"), 0), "log 3 3 0 1 GET / 421 0 74")
	want(t, c.Do(ends(1)))
	has(t, c, 0, 0, 0)
	want(t, c.Adopt(1, []byte("GE"), 0))
	want(t, c.Do(ends(1)))
	has(t, c, 0, 0, 0)
	// The idle ones stay.
	c = idleCell(t, ordinary)
	want(t, c.Do(ends(1)))
	has(t, c, 0, 0, 1)
}

// P19.1: the moment of a connection that is gone isn't that of the next one of its number.
func TestEndDropsMoment(t *testing.T) {
	c := busyCell(t, ordinary, get)
	c.Do(ends(1))
	c.Do(ticks(5))
	want(t, c.Adopt(1, []byte(get), 0), "dial 2 b")
	want(t, c.Do(ticks(4)))
	want(t, c.Do(ticks(4)))
	want(t, c.Do(ticks(1)), "hang 2", "log 2 14 9 1 GET / 504 2 51")
	c.Do(ends(1))
	want(t, c.Adopt(1, nil, 0))
	want(t, c.Do(ticks(99)))
}

// P19.1: a configuration holds for the requests that come; one that is refused changes nothing.
func TestUpload(t *testing.T) {
	c := made(t, slot(), ordinary)
	want(t, c.Adopt(1, []byte(get), 0), "dial 1 a")
	for _, s := range []string{"", "x\n", "total 1\n", ordinary + "\n", ordinary[:len(ordinary)-1], "up u a\nroute / v /\ntotal 9\ntries 1\nfails 3\ncool 5\n", strings.Repeat("x", 4097)} {
		want(t, c.Do(upload(s)), "refused")
	}
	want(t, c.Adopt(2, []byte(get), 0), "dial 2 b")
	want(t, c.Do(api.Event{Kind: api.Upload, Tenant: "another", Data: []byte("up u c\nroute / u /new/\ntotal 20\ntries 0\nfails 3\ncool 5\n")}), "taken")
	// Those that are under way keep their upstream, their bytes, their tries and their time.
	want(t, c.Do(failed(1)), "dial 3 a")
	want(t, c.Do(joined(2)), send(2, sentGet))
	want(t, c.Adopt(3, []byte(get), 0), "dial 4 c")
	want(t, c.Do(joined(4)), send(4, strings.Replace(sentGet, "/", "/new/", 1)))
	want(t, c.Do(ticks(9)), "hang 3", "log 1 9 9 1 GET / 504 3 51", "hang 2", "log 2 9 9 2 GET / 504 2 51")
	want(t, c.Do(ticks(11)), "hang 4", "log 3 20 20 3 GET / 504 4 51")
}

// P19.1: when its time is up a job is over, by rising moments, of one moment by rising numbers; then its connection goes on.
func TestTick(t *testing.T) {
	c := made(t, slot(), "up u a b c\nroute / u /\ntotal 5\ntries 3\nfails 9\ncool 5\n")
	c.Adopt(9, []byte(get+get), 0)
	c.Do(joined(1))
	c.Do(says(9, "GET / HTTP/1.0\r\nHost: h\r\n\r\n"))
	want(t, c.Do(ticks(1)))
	c.Adopt(7, []byte("GET / HTTP/1.1\r\nHost: h\r\nConnection: close\r\n\r\n"), 99)
	c.Adopt(-3, []byte(get), 0)
	for _, n := range []int{0, -1, math.MinInt} {
		want(t, c.Do(ticks(n)))
	}
	if c.Now() != 1 {
		t.Errorf("the time is %d", c.Now())
	}
	want(t, c.Do(ticks(3)))
	// No record of the number -3 is right: it has no line.
	want(t, c.Do(ticks(2)), "hang 1", "log 1 6 6 9 GET / 504 1 51", "dial 4 a", "hang 3", "log ", "hang 2", "log 3 6 5 7 GET / 504 2 70")
	has(t, c, 51+51+70+len(sentGet)+len("GET / HTTP/1.0\r\nHost: h\r\n\r\n"), 3, 1)
	want(t, c.Do(joined(1)))
	want(t, c.Do(ticks(4)))
	want(t, c.Do(ticks(1)), "hang 4", "log 4 11 5 9 GET / 504 4 51", "dial 5 b")
	want(t, c.Do(ticks(math.MaxInt)), "hang 5", "log 5 1099511627776 1099511627765 9 GET / 504 5 70")
	if c.Now() != api.MaxTicks {
		t.Errorf("the time is %d", c.Now())
	}
	want(t, c.Do(ticks(math.MaxInt)))
}

// P19.1: at the end of time a moment comes with the next tick.
func TestEndOfTime(t *testing.T) {
	c := made(t, slot(), ordinary)
	c.Do(ticks(math.MaxInt))
	want(t, c.Adopt(1, []byte(get+get), 0), "dial 1 a")
	want(t, c.Do(ticks(0)), "hang 1", "log 1 1099511627776 0 1 GET / 504 1 51", "dial 2 b")
	want(t, c.Do(ticks(0)), "hang 2", "log 2 1099511627776 0 1 GET / 504 2 51")
	want(t, c.Do(ticks(0)))
}

// P19.1: a job that is over in time isn't over again when its time would be up.
func TestOverInTime(t *testing.T) {
	c := idleCell(t, ordinary)
	want(t, c.Do(ticks(8)))
	want(t, c.Do(says(1, get)), "dial 2 b")
	want(t, c.Do(ticks(1)))
	want(t, c.Do(failed(2)), send(1, sentGet))
	// Tried anew it has no more time.
	want(t, c.Do(ticks(7)))
	want(t, c.Do(ticks(1)), "hang 1", "log 2 17 9 1 GET / 504 1 51")
}

// P19.1: a round writes pieces in turn, within the quantum, and closes what is done, by rising number.
func TestRound(t *testing.T) {
	s := slot()
	s.Quantum = 100
	c := made(t, s, ordinary)
	bad := "GET / HTTP/1.1\r\nHost: x\r\n\r\n"
	for _, id := range []int{30, 4, 2} {
		c.Adopt(id, []byte(bad), 74)
	}
	b := own(421, true)
	want(t, c.Do(round()), write(2, b[:64]))
	want(t, c.Do(round()), write(4, b[:64]), write(30, b[:64]))
	want(t, c.Do(round()), write(2, b[64:]), write(4, b[64:]), write(30, b[64:]), "close 2", "close 4", "close 30")
	has(t, c, 0, 0, 0)
	want(t, c.Do(round()))
	// One that has something left, or a job, or isn't closing stays.
	c.Adopt(1, []byte(bad), 73)
	c.Adopt(2, []byte("GET / HTTP/1.0\r\nHost: h\r\n\r\n"), 0)
	c.Adopt(3, nil, 0)
	for range 3 {
		c.Do(round())
	}
	has(t, c, 1+len(sentGet), 3, 1)
	want(t, c.Do(opens(1, 1)))
	want(t, c.Do(round()), write(1, b[73:]), "close 1")
	has(t, c, len(sentGet), 2, 1)
}

// P19.1, P19.2: a response for which there is no room closes its connection, and all of it is given back; its record tells its bytes.
func TestNoRoomToSay(t *testing.T) {
	s := slot()
	s.Quota = 300
	c := made(t, s, ordinary)
	c.Adopt(1, []byte(get), 0)
	c.Do(joined(1))
	want(t, c.Adopt(2, []byte(strings.Repeat("GET", 80)), 0))
	want(t, c.Do(said(1, "HTTP/1.1 200 OK\r\nTransfer-")))
	has(t, c, 27+240+26, 2, 1)
	want(t, c.Do(said(1, "Encoding")), "hang 1", "log 1 0 0 1 GET / 502 1 47")
	want(t, c.Do(says(1, "GE")))
	has(t, c, 240+47+2, 2, 0)
	want(t, c.Do(says(1, get[2:])), "pause 1")
	want(t, c.Do(says(1, "T / H\n\n")), "log 2 0 0 1 - - 400 0 66", "close 1")
	has(t, c, 240, 1, 0)
	// What it had behind it has no record: it isn't there any more.
	want(t, c.Adopt(1, []byte(get+get), 0), "dial 2 b")
	has(t, c, 240+27+27, 2, 1)
	want(t, c.Do(failed(2)), "dial 3 a")
	want(t, c.Do(failed(3)), "log 3 0 0 1 GET / 502 3 47", "close 1")
	has(t, c, 240, 1, 0)
	want(t, c.Do(ticks(99)))
}

// P19.1: what the job had is given back ahead of the response, which may need it.
func TestRoomOfJob(t *testing.T) {
	s := slot()
	s.Quota = 256
	c := made(t, s, "up u a\nroute / u /\ntotal 9\ntries 0\nfails 9\ncool 5\n")
	long := strings.Replace(get, "/", "/"+strings.Repeat("x", 100), 1)
	c.Adopt(1, []byte(long), 0)
	c.Do(joined(1))
	b := "HTTP/1.1 200 OK\r\nContent-Length: 90\r\n\r\n" + strings.Repeat("y", 90)
	has(t, c, 127, 1, 1)
	want(t, c.Do(said(1, b[:128])))
	has(t, c, 255, 1, 1)
	want(t, c.Do(said(1, b[128:])), "log 1 0 0 1 GET "+long[4:105]+" 200 1 129")
	has(t, c, 129, 1, 1)
	// One byte more has no room.
	want(t, c.Do(opens(1, 129)))
	c.Do(round())
	want(t, c.Do(says(1, long)), send(1, long))
	b = strings.Replace(b, "90", "91", 1)
	want(t, c.Do(said(1, b)))
	has(t, c, 256, 1, 1)
	want(t, c.Do(said(1, "y")), "hang 1", "log 2 0 0 1 GET "+long[4:105]+" 502 1 47")
}

// P19.1: a record of a number that no record may have has no line, but its Seq is used.
func TestNumbers(t *testing.T) {
	for id, right := range map[int]bool{1: true, 1<<31 - 1: true, 0: false, -1: false, 1 << 31: false, math.MaxInt: false, math.MinInt: false} {
		c := cell.New(slot())
		line := "log "
		if right {
			line = fmt.Sprintf("log 1 0 0 %d GET / 404 0 45", id)
		}
		want(t, c.Adopt(id, []byte(get), 99), line)
		if !c.Has(id) {
			t.Errorf("%d isn't there", id)
		}
		want(t, c.Do(round()), write(id, own(404, false)))
		want(t, c.Do(ends(id)))
		want(t, c.Adopt(1, []byte(get), 0), "log 2 0 0 1 GET / 404 0 45")
	}
}

// P19.1, P19.2: very many requests, or responses of lesser codes, at once are no matter.
func TestMany(t *testing.T) {
	s := slot()
	s.Quota, s.Burst, s.Rate = api.MaxQuota, api.MaxRate, api.MaxRate
	c := made(t, s, "up u a\nroute /a u /\ntotal 9\ntries 0\nfails 9\ncool 5\n")
	n := 10000
	outs := c.Adopt(1, []byte(strings.Repeat(get, n)+strings.Replace(get, "/", "/a", 1)), 0)
	if len(outs) != n+1 || one(outs[n-1]) != fmt.Sprintf("log %d 0 0 1 GET / 404 0 45", n) || one(outs[n]) != "dial 1 a" {
		t.Fatalf("%d outs", len(outs))
	}
	c.Do(joined(1))
	want(t, c.Do(said(1, strings.Repeat("HTTP/1.1 100 x\r\n\r\n", 30000)+ok)), fmt.Sprintf("log %d 0 0 1 GET /a 200 1 40", n+1))
	has(t, c, n*45+40, 1, 1)
}
