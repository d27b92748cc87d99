package conn_test

import (
	"bytes"
	"fmt"
	"math"
	"math/rand"
	"strconv"
	"strings"
	"testing"

	"tollbar/api"
	"tollbar/conn"
	"tollbar/http"
	"tollbar/meter"
)

const (
	get        = "GET / HTTP/1.1\r\nHost: a\r\n"
	end        = "\r\n\r\n"
	one        = get + "\r\n"
	two        = "PUT /b HTTP/1.1\r\nHost: b\r\nContent-Length: 3\r\n\r\nabc"
	three      = "POST /c HTTP/1.1\r\nHost: c\r\nTransfer-Encoding: chunked\r\n\r\n2;x\r\nab\r\n1\r\nc\r\n0\r\nt: u\r\n\r\n"
	old        = "HEAD /d HTTP/1.0\r\n\r\n"
	wrong      = "GET / HTTP/1.1\r\n\r\n"
	waiting    = "PUT /e HTTP/1.1\r\nHost: e\r\nExpect: 100-continue\r\nContent-Length: 2\r\n\r\n"
	chunked    = "PUT /f HTTP/1.1\r\nHost: f\r\nTransfer-Encoding: chunked\r\n"
	mostWindow = 1 << 30
)

// opened is a connection with these bytes in in, of a meter that has room.
func opened(t *testing.T, in string) (*conn.Conn, *meter.Meter) {
	t.Helper()
	m := meter.New(api.MaxQuota)
	c := conn.New(m)
	must(t, c.Feed([]byte(in)))
	return c, m
}

func must(t *testing.T, so bool) {
	t.Helper()
	if !so {
		t.Fatal("it isn't so")
	}
}

// told is a request and its code in one text, in which a list that is nil and one that is empty are the same.
func told(r api.Req, code int) string {
	return fmt.Sprintf("%q %q %d %q %q: %d", r.Method, r.Target, r.Minor, r.Fields, r.Body, code)
}

func nothing() string { return told(api.Req{}, -1) }

// request is what layer 8 tells of bytes that are one request.
func request(t *testing.T, s string) string {
	t.Helper()
	r, n, status := http.Request([]byte(s))
	must(t, n == len(s) && status == 0)
	return told(r, 0)
}

// next holds what Next answers against a text.
func next(t *testing.T, c *conn.Conn, want string) {
	t.Helper()
	if got := told(c.Next()); got != want {
		t.Fatalf("Next = %s, want %s", got, want)
	}
}

// is checks all that a connection tells without being changed.
func is(t *testing.T, c *conn.Conn, m *meter.Meter, busy, closing bool, held, want int) {
	t.Helper()
	if c.Busy() != busy || c.Closing() != closing || c.Held() != held || m.Held() != held || c.Want() != want {
		t.Fatalf("busy %v, closing %v, held %d (by the meter %d), want %d; must be %v, %v, %d, %d",
			c.Busy(), c.Closing(), c.Held(), m.Held(), c.Want(), busy, closing, held, want)
	}
}

// P18.1: the chapter's example.
func TestExample(t *testing.T) {
	c, m := opened(t, one+"GE")
	is(t, c, m, false, false, 29, 0)
	next(t, c, request(t, one))
	is(t, c, m, true, false, 2, 0)
	next(t, c, nothing())
	must(t, c.Feed([]byte(one[2:])))
	next(t, c, nothing())
	is(t, c, m, true, false, 27, 0)
	must(t, c.Say([]byte("said"), false))
	is(t, c, m, false, false, 31, 0)
	next(t, c, request(t, one))
	is(t, c, m, true, false, 4, 0)
}

// P18.1: a new connection has nothing, and waits for nothing.
func TestNew(t *testing.T) {
	m := meter.New(5)
	c := conn.New(m)
	is(t, c, m, false, false, 0, 0)
	next(t, c, nothing())
	if c.Waits() || c.Done() || len(c.Write(1)) != 0 {
		t.Error("a new connection")
	}
	is(t, c, m, false, false, 0, 0)
}

// P18.1: bytes that aren't taken change nothing; as many as there is room for are taken.
func TestFeedRefuses(t *testing.T) {
	m := meter.New(40)
	c := conn.New(m)
	must(t, c.Feed([]byte(one[:20])))
	m.Take(4)
	for _, n := range []int{17, 18, 64, 5000} {
		if c.Feed(make([]byte, n)) {
			t.Fatalf("%d bytes are taken of 16", n)
		}
		if c.Held() != 20 || m.Held() != 24 || c.Closing() {
			t.Fatalf("held %d, by the meter %d", c.Held(), m.Held())
		}
	}
	must(t, c.Feed([]byte(one[20:]+"GET / HTT")) && !c.Feed([]byte("P")) && c.Feed(nil) && c.Feed([]byte{}))
	next(t, c, request(t, one))
	must(t, c.Held() == 9 && m.Held() == 13)
}

// P18.1: bytes come while it is busy too; of one that is closing nothing is kept, also where there is no room.
func TestFeedBusyAndClosing(t *testing.T) {
	c, m := opened(t, one)
	next(t, c, request(t, one))
	must(t, c.Feed([]byte(two)))
	is(t, c, m, true, false, len(two), 0)
	must(t, c.Say(nil, true))
	is(t, c, m, false, true, 0, 0)
	must(t, c.Feed([]byte(one)) && c.Feed(nil) && c.Feed(make([]byte, api.MaxQuota+1)))
	is(t, c, m, false, true, 0, 0)
	next(t, c, nothing())
	if c.Waits() || m.Peak() != len(two) {
		t.Errorf("held at most %d", m.Peak())
	}
}

// P18.1: as long as it isn't whole there is no request, and nothing is changed.
func TestNextNotWhole(t *testing.T) {
	for _, s := range []string{one, two, three, old} {
		for n := range len(s) {
			c, m := opened(t, s[:n])
			for range 3 {
				next(t, c, nothing())
				is(t, c, m, false, false, n, 0)
			}
			must(t, c.Feed([]byte(s[n:])))
			next(t, c, request(t, s))
			is(t, c, m, true, false, 0, 0)
		}
	}
}

// wrongs is bytes that are no request, with their statuses.
func wrongs() map[string]int {
	return map[string]int{
		wrong:                                      400,
		"\n":                                       400,
		"GET / HTTP/1.1\n":                         400,
		"GET / HTTP/1.1\r\nHost : a\r\n":           400,
		"GET / HTTP/2.0\r\n":                       505,
		strings.Repeat("a", 2048):                  431,
		get + manyFields(40):                       431,
		get + "Content-Length: 4097" + end:         413,
		get + "Content-Length: 5, 6" + end:         400,
		chunked + "\r\n1001\r\n":                   413,
		chunked + "\r\nx\r\n":                      400,
		chunked + "\r\n" + filled(9000) + "xy\r\n": 400,
		get + "Transfer-Encoding: gzip" + end:      501,
	}
}

func manyFields(n int) string { return strings.Repeat("a: b\r\n", n) + "\r\n" }

// filled is chunks without the last one, of at least so many bytes, but of a short body.
func filled(n int) string {
	s := "1;" + strings.Repeat("x", 200) + "\r\na\r\n"
	return strings.Repeat(s, n/len(s)+1)
}

// P18.1, P18.2: a status is told once; it is closing then, and what has come is dropped, but not what is to be written.
func TestNextStatus(t *testing.T) {
	for s, status := range wrongs() {
		for _, behind := range []string{"", "rest", one, strings.Repeat("\n", 20000)} {
			c, m := opened(t, s+behind)
			must(t, c.Note([]byte("out")))
			c.Window(2)
			next(t, c, told(api.Req{}, status))
			is(t, c, m, false, true, 3, 2)
			for range 2 {
				next(t, c, nothing())
				must(t, !c.Waits() && !c.Done() && c.Feed([]byte(one+s)))
				is(t, c, m, false, true, 3, 2)
			}
			must(t, c.Say([]byte("!"), true) && string(c.Write(9)) == "ou")
			next(t, c, nothing())
			c.Window(9)
			must(t, string(c.Write(9)) == "t!" && c.Done())
		}
	}
}

// P18.2: a request ahead of a wrong one is told, and then the status, once, when it isn't busy any more.
func TestStatusBehindRequest(t *testing.T) {
	c, m := opened(t, one+wrong+one)
	next(t, c, request(t, one))
	next(t, c, nothing())
	is(t, c, m, true, false, len(wrong+one), 0)
	must(t, c.Say(nil, false))
	next(t, c, told(api.Req{}, 400))
	next(t, c, nothing())
	is(t, c, m, false, true, 0, 0)
	must(t, c.Say(nil, false))
	next(t, c, nothing())
}

// P18.1: behind the last response there is no request any more, though one was whole.
func TestNextBehindLast(t *testing.T) {
	c, m := opened(t, one+two)
	next(t, c, request(t, one))
	must(t, c.Say([]byte("bye"), true))
	next(t, c, nothing())
	is(t, c, m, false, true, 3, 0)
}

// long is requests that are more than any first look at in might see, each of another kind.
func long() []string {
	body := strings.Repeat("0123456789abcdef", 256)
	head := "PUT /g HTTP/1.1\r\nHost: g\r\nContent-Length: 4096\r\n"
	full := head + "x: " + strings.Repeat("y", 1000) + "\r\n"
	full += "x: " + strings.Repeat("y", 2048-len(full)-7) + end
	return []string{
		one, two, full + body, three, old,
		chunked + "\r\n" + filled(7000) + "0\r\n\r\n",
		chunked + "\r\n" + filled(50000) + "0\r\n" + manyFields(40),
		chunked + "\r\n" + filled(13000) + "800;y\r\n" + body[:2048] + "\r\n0\r\n\r\n",
		one,
	}
}

// served is the texts of all that Next tells of a stream, of far fewer than 100 requests, that comes in pieces, the next of which has cut(i) bytes; each request is responded to.
func served(t *testing.T, stream string, cut func(i int) int) []string {
	t.Helper()
	c, m := opened(t, "")
	var all []string
	for i := 0; stream != ""; i++ {
		n := min(cut(i), len(stream))
		must(t, c.Feed([]byte(stream[:n])))
		stream = stream[n:]
		for r, code := c.Next(); code >= 0; r, code = c.Next() {
			all = append(all, told(r, code))
			must(t, c.Busy() == (code == 0) && c.Closing() == (code > 0) && c.Say(nil, false) && len(all) < 100)
		}
		must(t, m.Held() == c.Held())
	}
	must(t, c.Held() == 0)
	return all
}

// P18.2: however the bytes come in pieces, the requests are the same, in their order; and a status once.
func TestPieces(t *testing.T) {
	var want []string
	for _, s := range long() {
		want = append(want, request(t, s))
	}
	want = append(want, told(api.Req{}, 400))
	stream := strings.Join(long(), "") + wrong + one + wrong
	for _, size := range []int{61, 64, 1000, 2048, 6143, 6144, 6145, 12288, 30000, len(stream)} {
		same(t, size, served(t, stream, func(int) int { return size }), want)
	}
	for seed := range 20 {
		rnd := rand.New(rand.NewSource(int64(seed)))
		same(t, seed, served(t, stream, func(int) int { return rnd.Intn(5000) }), want)
	}
}

// P18.2: the same byte by byte, and with empty pieces, of requests that are short.
func TestSmallPieces(t *testing.T) {
	var want []string
	for _, s := range []string{one, two, three, old, one} {
		want = append(want, request(t, s))
	}
	want = append(want, told(api.Req{}, 400))
	stream := one + two + three + old + one + wrong + one
	for size := 1; size <= len(stream); size++ {
		same(t, size, served(t, stream, func(int) int { return size }), want)
		same(t, size, served(t, stream, func(i int) int { return i % 2 * size }), want)
		same(t, size, served(t, stream, func(i int) int { return len(stream) * i }), want)
	}
}

func same(t *testing.T, what int, got, want []string) {
	t.Helper()
	if strings.Join(got, "\n") != strings.Join(want, "\n") {
		t.Fatalf("%d: %d are told, want %d: %.500q", what, len(got), len(want), got)
	}
}

// P18.2: as many requests as may be held come at once, and are taken out one behind the other; that costs what they have, not each time all that waits.
func TestManyAtOnce(t *testing.T) {
	count := api.MaxQuota / len(one)
	c, m := opened(t, strings.Repeat(one, count))
	want := request(t, one)
	for i := range count {
		next(t, c, want)
		is(t, c, m, true, false, (count-i-1)*len(one), 0)
		must(t, c.Say(nil, false))
	}
	next(t, c, nothing())
}

// P18.1: whether the client waits is told once for each request.
func TestWaits(t *testing.T) {
	c, m := opened(t, waiting[:30])
	must(t, !c.Waits() && !c.Waits())
	must(t, c.Feed([]byte(waiting[30:])))
	next(t, c, nothing())
	must(t, c.Waits() && !c.Waits())
	next(t, c, nothing())
	is(t, c, m, false, false, len(waiting), 0)
	must(t, c.Feed([]byte("a")) && !c.Waits())
	must(t, c.Note([]byte("go")) && !c.Waits())
	must(t, c.Say([]byte("on"), false) && !c.Waits())
	must(t, c.Feed([]byte("b"+waiting)) && !c.Waits())
	next(t, c, request(t, waiting+"ab"))
	must(t, !c.Waits() && c.Say(nil, false))
	must(t, c.Waits() && !c.Waits())
	must(t, c.Feed([]byte("cd"+waiting+"e")))
	next(t, c, request(t, waiting+"cd"))
	must(t, c.Say(nil, false) && c.Waits() && !c.Waits())
}

// P18.1: that it was asked, and answered with false, doesn't count.
func TestWaitsLater(t *testing.T) {
	for n := range len(waiting) {
		c, _ := opened(t, waiting[:n])
		must(t, !c.Waits() && c.Feed([]byte(waiting[n:])) && c.Waits() && !c.Waits())
	}
}

// P18.1: whoever is busy or closing isn't asked; but that doesn't count as an answer.
func TestWaitsBusyAndClosing(t *testing.T) {
	c, _ := opened(t, one+waiting)
	must(t, !c.Waits())
	next(t, c, request(t, one))
	must(t, !c.Waits() && c.Say(nil, false) && c.Waits())

	c, _ = opened(t, waiting)
	must(t, c.Say(nil, true) && !c.Waits() && c.Feed([]byte(waiting)) && !c.Waits())

	c, _ = opened(t, waiting)
	c.Drop()
	must(t, !c.Waits() && c.Feed([]byte(waiting)) && !c.Waits())
}

// P18.1: who waits by layer 8, and who doesn't, also where more has come than a request without chunks has.
func TestWhoWaits(t *testing.T) {
	expecting := strings.Replace(chunked, "Host: f", "Host: f\r\nExpect: x, 100-Continue", 1) + "\r\n"
	for s, want := range map[string]bool{
		"":                       false,
		one:                      false,
		two[:len(two)-1]:         false,
		waiting[:len(waiting)-1]: false,
		waiting:                  true,
		waiting + "a":            true,
		waiting + "ab":           false,
		waiting + "ab" + waiting: false,
		strings.Replace(waiting, "1.1", "1.0", 1): false,
		strings.Replace(waiting, ": 2", ": x", 1): false,
		expecting:                                             true,
		expecting + "x\r\n":                                   false,
		expecting + "0\r\n\r\n":                               false,
		expecting + filled(7000):                              true,
		expecting + filled(60000):                             true,
		expecting + filled(7000) + "0\r\n\r\n":                false,
		expecting + filled(60000) + "0\r\n\r\n":               false,
		expecting + filled(60000) + "0\r\n":                   true,
		expecting + filled(60000) + "\r\n":                    false,
		expecting + filled(9000) + "0\r\n\r\n" + filled(9000): false,
		waiting + "ab" + filled(60000):                        false,
	} {
		c, m := opened(t, s)
		if got := c.Waits(); got != want || c.Waits() {
			t.Errorf("Waits of %.90q (%d bytes) is %v, or is told twice", s, len(s), got)
		}
		is(t, c, m, false, false, len(s), 0)
	}
}

// P18.1, P18.3: what is said stands behind what was said; it isn't busy then, and is closing if it is the last.
func TestSay(t *testing.T) {
	c, m := opened(t, one+two)
	next(t, c, request(t, one))
	must(t, c.Say([]byte("first,"), false))
	is(t, c, m, false, false, len(two)+6, 0)
	must(t, c.Say([]byte("second,"), false))
	next(t, c, request(t, two))
	must(t, c.Note([]byte("beside,")))
	is(t, c, m, true, false, 20, 0)
	must(t, c.Feed([]byte("in")) && c.Say([]byte("last,"), true))
	is(t, c, m, false, true, 25, 0)
	must(t, c.Say([]byte("behind,"), false) && c.Note([]byte("it,")) && c.Say([]byte("still"), true))
	is(t, c, m, false, true, 40, 0)
	c.Window(100)
	must(t, !c.Done() && string(c.Write(100)) == "first,second,beside,last,behind,it,still" && c.Done())
	is(t, c, m, false, true, 0, 0)
}

// P18.1: where the meter doesn't take what is said, out is as it was, and all else is as said.
func TestSayRefuses(t *testing.T) {
	for _, last := range []bool{false, true} {
		m := meter.New(30)
		c := conn.New(m)
		must(t, c.Feed([]byte(one)))
		next(t, c, request(t, one))
		must(t, c.Note([]byte("out")) && c.Feed([]byte("GET /")))
		c.Window(100)
		if c.Say(make([]byte, 28), last) {
			t.Fatal("28 bytes are taken of 27")
		}
		held := 8
		if last {
			held = 3
		}
		is(t, c, m, false, last, held, 3)
		must(t, string(c.Write(100)) == "out" && c.Done() == last)
	}
}

// P18.1: what is in in is dropped ahead of the last that is said, which has its room then.
func TestLastHasRoom(t *testing.T) {
	m := meter.New(30)
	c := conn.New(m)
	must(t, c.Feed(make([]byte, 20)) && c.Note([]byte("12345")))
	must(t, !c.Say(make([]byte, 6), false) && !c.Closing() && c.Held() == 25)
	must(t, c.Say(bytes.Repeat([]byte("6"), 25), true))
	is(t, c, m, false, true, 30, 0)
	c.Window(30)
	must(t, string(c.Write(30)) == "12345"+strings.Repeat("6", 25))
}

// P18.1: what is noted changes nothing but out; where it isn't taken, nothing.
func TestNote(t *testing.T) {
	m := meter.New(len(one) + 5)
	c := conn.New(m)
	must(t, c.Feed([]byte(one)) && c.Note([]byte("abc")) && !c.Note([]byte("def")))
	is(t, c, m, false, false, len(one)+3, 0)
	next(t, c, request(t, one))
	must(t, c.Note([]byte("de")))
	is(t, c, m, true, false, 5, 0)
	must(t, !c.Note(make([]byte, len(one)+1)) && c.Note(nil))
	is(t, c, m, true, false, 5, 0)
	must(t, c.Say(nil, true) && c.Note([]byte("f")))
	is(t, c, m, false, true, 6, 0)
	c.Window(10)
	must(t, string(c.Write(10)) == "abcdef")
}

// P18.3: how much may be written, at numbers of every size.
func TestWindow(t *testing.T) {
	for _, x := range []struct {
		windows []int
		want    int
	}{
		{nil, 0}, {[]int{0}, 0}, {[]int{-1}, 0}, {[]int{math.MinInt}, 0}, {[]int{1}, 1}, {[]int{9}, 9}, {[]int{10}, 10},
		{[]int{11}, 10}, {[]int{3, 4}, 7}, {[]int{3, -2}, 3}, {[]int{-2, 3}, 3}, {[]int{5, math.MinInt, 1}, 6},
		{[]int{mostWindow}, 10}, {[]int{math.MaxInt}, 10}, {[]int{math.MaxInt, math.MaxInt, 5}, 10}, {[]int{1, math.MaxInt}, 10},
	} {
		c, m := opened(t, "")
		for _, n := range x.windows {
			c.Window(n)
		}
		must(t, c.Want() == 0 && c.Note([]byte("0123456789")))
		is(t, c, m, false, false, 10, x.want)
		if got := string(c.Write(math.MaxInt)); got != "0123456789"[:x.want] {
			t.Errorf("Windows %d: %q is written", x.windows, got)
		}
		is(t, c, m, false, false, 10-x.want, 0)
	}
}

// P18.3: the window is at most 2^30, however often it is made more: then it is used up, and made more again.
func TestMostWindow(t *testing.T) {
	c, m := opened(t, "")
	for _, n := range []int{5, math.MaxInt, 1 << 40, mostWindow, 1} {
		c.Window(n)
	}
	piece := make([]byte, api.MaxQuota)
	for i := range mostWindow / len(piece) {
		must(t, c.Note(piece))
		if got := len(c.Write(math.MaxInt)); got != len(piece) {
			t.Fatalf("%d bytes are written of the window's part %d", got, i)
		}
	}
	must(t, c.Note([]byte("abc")))
	is(t, c, m, false, false, 3, 0)
	c.Window(2)
	must(t, string(c.Write(3)) == "ab")
	c.Window(mostWindow)
	must(t, string(c.Write(3)) == "c")
}

// P18.3: as many bytes are written as are asked for, never more than there are and than may be; they are taken out of both.
func TestWrite(t *testing.T) {
	for _, x := range []struct{ n, want int }{
		{math.MinInt, 0}, {-1, 0}, {0, 0}, {1, 1}, {5, 5}, {6, 6}, {7, 6}, {10, 6}, {11, 6}, {math.MaxInt, 6},
	} {
		c, m := opened(t, "")
		must(t, c.Note([]byte("0123456789")))
		c.Window(6)
		if got := string(c.Write(x.n)); got != "0123456789"[:x.want] {
			t.Errorf("Write(%d) = %q", x.n, got)
		}
		is(t, c, m, false, false, 10-x.want, 6-x.want)
		c.Window(100)
		must(t, string(c.Write(99)) == "0123456789"[x.want:])
		must(t, c.Note(make([]byte, 200)) && c.Want() == 96)
	}
}

// P18.1: it is done when it is closing, not busy, and has nothing to write: all of these.
func TestDone(t *testing.T) {
	for i := range 8 {
		closing, busy, out := i&1 > 0, i&2 > 0, i&4 > 0
		c, m := opened(t, one)
		if busy {
			next(t, c, request(t, one))
		}
		if closing {
			c.Drop()
		}
		held := 0
		if out {
			must(t, c.Note([]byte("x")))
			held = 1
		}
		if !busy && !closing {
			held += len(one)
		}
		is(t, c, m, busy, closing, held, 0)
		if c.Done() != (closing && !busy && !out) {
			t.Errorf("closing %v, busy %v, out %v: done %v", closing, busy, out, c.Done())
		}
	}
}

// P18.1, P18.3: all is given back, and no more than that; it is closing, and nothing else is changed.
func TestDrop(t *testing.T) {
	m := meter.New(1000)
	m.Take(100)
	c, d := conn.New(m), conn.New(m)
	must(t, c.Feed([]byte(one+two)) && d.Feed([]byte(three)) && d.Note([]byte("other")))
	next(t, c, request(t, one))
	must(t, c.Note([]byte("note")))
	c.Window(7)
	for range 2 {
		c.Drop()
		if c.Held() != 0 || !c.Closing() || !c.Busy() || c.Done() || c.Want() != 0 || m.Held() != 105+len(three) {
			t.Fatalf("held %d, by the meter %d", c.Held(), m.Held())
		}
		next(t, c, nothing())
		must(t, c.Feed([]byte(one)) && len(c.Write(9)) == 0)
	}
	must(t, c.Say([]byte("0123456789"), false) && c.Want() == 7 && c.Closing() && !c.Busy())
	next(t, c, nothing())
	must(t, string(c.Write(99)) == "0123456" && !c.Done())
	c.Drop()
	must(t, c.Done() && m.Held() == 105+len(three))
	next(t, d, request(t, three))
	d.Drop()
	must(t, m.Held() == 100)
}

// P18.4: what is handed in may be written over, and isn't changed, nor is the memory behind it.
func TestArgumentsStay(t *testing.T) {
	c, _ := opened(t, "")
	hand := func(s string, call func(b []byte) bool) {
		t.Helper()
		whole := []byte(s + "behind the length")
		must(t, call(whole[:len(s)]) && string(whole) == s+"behind the length")
		clear(whole)
	}
	say := func(b []byte) bool { return c.Say(b, false) }
	hand(two, c.Feed)
	hand("one,", c.Note)
	next(t, c, request(t, two))
	hand("two,", say)
	hand(three[:70], c.Feed)
	hand(three[70:], c.Feed)
	hand("three", c.Note)
	next(t, c, request(t, three))
	c.Window(100)
	must(t, string(c.Write(100)) == "one,two,three")
	hand(one, c.Feed)
	hand("", c.Feed)
	must(t, c.Say(nil, true))
	hand(one, c.Feed)
}

// P18.4: what is answered may be written over, spare room too, and stays as it is.
func TestAnswersAreNew(t *testing.T) {
	c, _ := opened(t, two+two)
	first, code := c.Next()
	must(t, code == 0 && c.Say([]byte("abcdefghi"), false))
	second, code := c.Next()
	must(t, code == 0)
	spoil(first)
	if told(second, 0) != request(t, two) {
		t.Errorf("a changed answer changed %s", told(second, 0))
	}
	c.Window(100)
	some := c.Write(3)
	more := c.Write(3)
	clear(some[:cap(some)])
	must(t, string(more) == "def")
	must(t, c.Note([]byte("jkl")))
	clear(more[:cap(more)])
	must(t, string(c.Write(100)) == "ghijkl")

	c, _ = opened(t, three)
	first, _ = c.Next()
	must(t, c.Say(nil, false) && c.Feed([]byte(strings.ToUpper(three))))
	c.Drop()
	if told(first, 0) != request(t, three) {
		t.Errorf("what came later changed %s", told(first, 0))
	}
}

func spoil(r api.Req) {
	for i := range r.Fields[:cap(r.Fields)] {
		r.Fields[:cap(r.Fields)][i] = api.Field{Name: "spoilt"}
	}
	clear(r.Body[:cap(r.Body)])
}

// model says again, with plain lists of bytes, what the chapter says of a connection; room is what the meter has left.
type model struct {
	room                  *int
	in, out               []byte
	window                int
	busy, closing, waited bool
}

func (m *model) put(to *[]byte, b []byte) bool {
	if len(b) > *m.room {
		return false
	}
	*m.room -= len(b)
	*to = append(bytes.Clone(*to), b...)
	return true
}

func (m *model) away(from *[]byte, n int) []byte {
	*m.room += n
	gone := (*from)[:n]
	*from = (*from)[n:]
	return gone
}

func (m *model) Feed(b []byte) bool {
	if m.closing {
		return true
	}
	return m.put(&m.in, b)
}

func (m *model) Next() (api.Req, int) {
	if m.busy || m.closing {
		return api.Req{}, -1
	}
	r, n, status := http.Request(m.in)
	if status > 0 {
		m.away(&m.in, len(m.in))
		m.closing = true
		return api.Req{}, status
	}
	if n == 0 {
		return api.Req{}, -1
	}
	m.away(&m.in, n)
	m.busy, m.waited = true, false
	return r, 0
}

func (m *model) Waits() bool {
	if m.busy || m.closing || m.waited || !http.Waits(m.in) {
		return false
	}
	m.waited = true
	return true
}

func (m *model) Say(b []byte, last bool) bool {
	m.busy = false
	if last {
		m.away(&m.in, len(m.in))
		m.closing = true
	}
	return m.put(&m.out, b)
}

func (m *model) Note(b []byte) bool { return m.put(&m.out, b) }

func (m *model) Window(n int) {
	if n < 0 {
		return
	}
	if n > mostWindow {
		n = mostWindow
	}
	m.window += n
	if m.window > mostWindow {
		m.window = mostWindow
	}
}

func (m *model) Want() int {
	if m.window < len(m.out) {
		return m.window
	}
	return len(m.out)
}

func (m *model) Write(n int) []byte {
	if n < 0 {
		n = 0
	}
	if n > m.Want() {
		n = m.Want()
	}
	m.window -= n
	return m.away(&m.out, n)
}

func (m *model) Done() bool    { return m.closing && !m.busy && len(m.out) == 0 }
func (m *model) Busy() bool    { return m.busy }
func (m *model) Closing() bool { return m.closing }
func (m *model) Held() int     { return len(m.in) + len(m.out) }

func (m *model) Drop() {
	m.away(&m.in, len(m.in))
	m.away(&m.out, len(m.out))
	m.closing = true
}

// client is what a connection and the model have in common.
type client interface {
	Feed(b []byte) bool
	Next() (api.Req, int)
	Waits() bool
	Say(b []byte, last bool) bool
	Note(b []byte) bool
	Window(n int)
	Want() int
	Write(n int) []byte
	Done() bool
	Busy() bool
	Closing() bool
	Held() int
	Drop()
}

// call is a call of one connection.
type call struct {
	kind byte
	b    string
	n    int
	last bool
}

// does makes the call, and tells what is answered, and then all that may be asked.
func (x call) does(c client) string {
	answer := ""
	switch x.kind {
	case 'f':
		answer = strconv.FormatBool(c.Feed([]byte(x.b)))
	case 'n':
		answer = told(c.Next())
	case 'w':
		answer = strconv.FormatBool(c.Waits())
	case 's':
		answer = strconv.FormatBool(c.Say([]byte(x.b), x.last))
	case 'o':
		answer = strconv.FormatBool(c.Note([]byte(x.b)))
	case 'm':
		c.Window(x.n)
	case 'p':
		answer = fmt.Sprintf("%q", c.Write(x.n))
	case 'd':
		c.Drop()
	}
	return fmt.Sprint(answer, c.Want(), c.Done(), c.Busy(), c.Closing(), c.Held())
}

// stream is what a client says, for the most part right, of which a call feeds the next piece.
func stream(rnd *rand.Rand) string {
	var b strings.Builder
	for range 12 {
		slow := strings.Replace(waiting, ": 2", ": 99", 1) + strings.Repeat("s", 99)
		kinds := []string{one, two, three, old, waiting + "ab", slow, slow, slow, chunked + "\r\n" + filled(500) + "0\r\n\r\n"}
		if rnd.Intn(12) == 0 {
			kinds = []string{wrong, "\n", "GET / HTTP/3.0\r\n", chunked + "\r\nx\r\n"}
		}
		b.WriteString(kinds[rnd.Intn(len(kinds))])
	}
	return b.String()
}

// some is a call by chance; the last response and Drop are rare, so that much happens ahead of them.
func some(rnd *rand.Rand, rest *string) call {
	n := rnd.Intn(90) - 5
	text := strings.Repeat("s", max(n, 0)/2) + strings.Repeat("t", max(n, 0)-max(n, 0)/2)
	switch rnd.Intn(16) {
	case 0, 1, 2, 3, 4:
		n = min(max(n, 0), len(*rest))
		x := call{kind: 'f', b: (*rest)[:n]}
		*rest = (*rest)[n:]
		return x
	case 5, 6:
		return call{kind: 'n'}
	case 7, 8:
		return call{kind: 'w'}
	case 9, 10:
		return call{kind: 's', b: text, last: rnd.Intn(25) == 0}
	case 11:
		return call{kind: 'o', b: text}
	case 12, 13:
		return call{kind: 'm', n: n}
	case 14:
		return call{kind: 'p', n: n}
	}
	if rnd.Intn(15) == 0 {
		return call{kind: 'd'}
	}
	return call{kind: 'p', n: math.MaxInt}
}

// P18.1, P18.3: every order of calls, of several connections of one meter.
func TestEveryOrder(t *testing.T) {
	for seed := range 1500 {
		rnd := rand.New(rand.NewSource(int64(seed)))
		most := 200 + rnd.Intn(1500)
		m, room := meter.New(most), most
		var real [3]*conn.Conn
		var plain [3]*model
		var rests [3]string
		for i := range real {
			real[i], plain[i], rests[i] = conn.New(m), &model{room: &room}, stream(rnd)
		}
		for step := range 300 {
			i := rnd.Intn(len(real))
			x := some(rnd, &rests[i])
			if got, want := x.does(real[i]), x.does(plain[i]); got != want {
				t.Fatalf("seed %d, step %d: %c %q %d of %d is %s, want %s", seed, step, x.kind, x.b, x.n, i, got, want)
			}
			if m.Held() != most-room {
				t.Fatalf("seed %d, step %d: held %d, want %d", seed, step, m.Held(), most-room)
			}
		}
	}
}

// P18.1: all short orders of calls.
func TestShortOrders(t *testing.T) {
	calls := []call{
		{kind: 'f', b: one}, {kind: 'f', b: waiting}, {kind: 'f', b: "ab"}, {kind: 'f', b: wrong}, {kind: 'n'}, {kind: 'w'},
		{kind: 's', b: "said"}, {kind: 's', b: "the last", last: true}, {kind: 'o', b: "note"}, {kind: 'm', n: 6}, {kind: 'p', n: 3}, {kind: 'd'},
	}
	const most, length = 100, 5
	orders := 1
	for range length {
		orders *= len(calls)
	}
	for order := range orders {
		m, room := meter.New(most), most
		c, plain := conn.New(m), &model{room: &room}
		made := ""
		for rest := order; len(made) < length; rest /= len(calls) {
			x := calls[rest%len(calls)]
			made += string(x.kind)
			if got, want := x.does(c), x.does(plain); got != want || m.Held() != most-room {
				t.Fatalf("behind %q: %s, want %s", made, got, want)
			}
		}
	}
}
