package http_test

import (
	"bytes"
	"math"
	"math/rand"
	"reflect"
	"strconv"
	"strings"
	"testing"

	"tollbar/api"
	"tollbar/chunk"
	"tollbar/field"
	"tollbar/frame"
	"tollbar/http"
	"tollbar/line"
)

const (
	get   = "GET / HTTP/1.1\r\n"
	old   = "GET / HTTP/1.0\r\n"
	put   = "PUT /x?y HTTP/1.1\r\n"
	host  = "Host: a\r\n"
	coded = "Transfer-Encoding: chunked\r\n"
	ok    = "HTTP/1.1 200 OK\r\n"
	end   = "\r\n"
)

// of is fields of these names and values, one behind the other.
func of(pairs ...string) []api.Field {
	var fs []api.Field
	for i := 0; i < len(pairs); i += 2 {
		fs = append(fs, api.Field{Name: pairs[i], Value: pairs[i+1]})
	}
	return fs
}

// reqAnswer is what Request and Head answer, respAnswer what Response answers; an empty list is nil in them.
type reqAnswer struct {
	r         api.Req
	n, status int
}

type respAnswer struct {
	r     api.Resp
	n     int
	right bool
}

func plain(fs []api.Field, body []byte) ([]api.Field, []byte) {
	if len(fs) == 0 {
		fs = nil
	}
	if len(body) == 0 {
		body = nil
	}
	return fs, body
}

// ask calls a reader of requests, and holds its argument against what was handed in.
func ask(t *testing.T, call func([]byte) (api.Req, int, int), s string) reqAnswer {
	t.Helper()
	b := []byte(s + "behind the length")
	r, n, status := call(b[:len(s)])
	if string(b) != s+"behind the length" {
		t.Fatalf("%.80q was changed", s)
	}
	r.Fields, r.Body = plain(r.Fields, r.Body)
	return reqAnswer{r, n, status}
}

func waits(t *testing.T, s string) bool {
	t.Helper()
	b := []byte(s + "behind the length")
	w := http.Waits(b[:len(s)])
	if string(b) != s+"behind the length" {
		t.Fatalf("%.80q was changed", s)
	}
	return w
}

func response(t *testing.T, s, method string, ended bool) respAnswer {
	t.Helper()
	b := []byte(s + "behind the length")
	r, n, right := http.Response(b[:len(s)], method, ended)
	if string(b) != s+"behind the length" {
		t.Fatalf("%.80q was changed", s)
	}
	r.Fields, r.Body = plain(r.Fields, r.Body)
	return respAnswer{r, n, right}
}

// cutLine says again what the chapter says of a line of a head: the line, its bytes with its end, and a status.
func cutLine(s string, at int) (string, int, int) {
	room := s[at:]
	if len(s) > 2048 {
		room = s[at:2048]
	}
	i := strings.IndexAny(room, "\r\n")
	switch {
	case i >= 0 && (room[i] == '\n' || i+1 < len(room) && room[i+1] != '\n'):
		return "", 0, 400
	case i >= 0 && i+1 < len(room):
		return room[:i], i + 2, 0
	case len(s) >= 2048:
		return "", 0, 431
	}
	return "", 0, 0
}

// headOf says again what the chapter says of a head: its lines but the empty one, its bytes, and a status; firstStatus is that of the first line.
func headOf(s string, firstStatus func(string) int) ([]api.Field, int, int) {
	var fields []api.Field
	at := 0
	for number := 0; ; number++ {
		text, n, status := cutLine(s, at)
		if n == 0 {
			return nil, 0, status
		}
		at += n
		if number == 0 {
			if status := firstStatus(text); status != 0 {
				return nil, 0, status
			}
			continue
		}
		if text == "" {
			return fields, at, 0
		}
		f, e := field.Parse(text)
		if e != 0 {
			return nil, 0, 400
		}
		if number > 40 {
			return nil, 0, 431
		}
		fields = append(fields, f)
	}
}

// wantHead says again what the chapter says of Head.
func wantHead(s string) reqAnswer {
	var r api.Req
	fields, n, status := headOf(s, func(text string) (status int) {
		r, status = line.Request(text)
		return status
	})
	if n == 0 {
		return reqAnswer{status: status}
	}
	hosts, wrong := 0, false
	for _, f := range fields {
		if strings.ToLower(f.Name) == "host" {
			hosts++
			_, right := line.Host(f.Value)
			wrong = wrong || !right
		}
	}
	if r.Minor == 1 && hosts != 1 || hosts > 1 || wrong {
		return reqAnswer{status: 400}
	}
	if _, _, status := frame.Request(fields, r.Minor); status != 0 {
		return reqAnswer{status: status}
	}
	r.Fields = fields
	return reqAnswer{r, n, 0}
}

// wantRequest says again what the chapter says of Request.
func wantRequest(s string) reqAnswer {
	a := wantHead(s)
	if a.n == 0 {
		return a
	}
	behind := s[a.n:]
	size, inChunks, _ := frame.Request(a.r.Fields, a.r.Minor)
	if !inChunks && len(behind) < size {
		return reqAnswer{}
	}
	if !inChunks {
		_, a.r.Body = plain(nil, []byte(behind[:size]))
		a.n += size
		return a
	}
	body, n, e := chunk.Decode([]byte(behind), 4096)
	switch {
	case e == api.ErrLong:
		return reqAnswer{status: 413}
	case e != api.OK:
		return reqAnswer{status: 400}
	case n == 0:
		return reqAnswer{}
	}
	_, a.r.Body = plain(nil, body)
	a.n += n
	return a
}

// wantWaits says again what the chapter says of Waits.
func wantWaits(s string) bool {
	a := wantHead(s)
	expects := false
	for _, f := range a.r.Fields {
		if strings.ToLower(f.Name) != "expect" {
			continue
		}
		for part := range strings.SplitSeq(f.Value, ",") {
			expects = expects || strings.ToLower(strings.Trim(part, " \t")) == "100-continue"
		}
	}
	return a.n > 0 && a.r.Minor == 1 && expects && reflect.DeepEqual(wantRequest(s), reqAnswer{})
}

// wantResponse says again what the chapter says of Response.
func wantResponse(s, method string, ended bool) respAnswer {
	notYet, wrong := respAnswer{right: !ended}, respAnswer{}
	var r api.Resp
	fields, n, status := headOf(s, func(text string) int {
		var right bool
		r, right = line.Status(text)
		return map[bool]int{true: 0, false: 1}[right]
	})
	if status != 0 {
		return wrong
	}
	if n == 0 {
		return notYet
	}
	r.Fields = fields
	kind, size, right := frame.Response(method, r)
	behind := s[n:]
	switch {
	case !right:
		return wrong
	case kind == frame.None:
		return respAnswer{r, n, true}
	case kind == frame.Sized && len(behind) < size:
		return notYet
	case kind == frame.Sized:
		_, r.Body = plain(nil, []byte(behind[:size]))
		return respAnswer{r, n + size, true}
	case kind == frame.ToEnd && len(behind) > 4096:
		return wrong
	case kind == frame.ToEnd && !ended:
		return notYet
	case kind == frame.ToEnd:
		_, r.Body = plain(nil, []byte(behind))
		return respAnswer{r, len(s), true}
	}
	body, took, e := chunk.Decode([]byte(behind), 4096)
	switch {
	case e != api.OK:
		return wrong
	case took == 0:
		return notYet
	}
	_, r.Body = plain(nil, body)
	return respAnswer{r, n + took, true}
}

// check holds every reader against the second reading.
func check(t *testing.T, s string) {
	t.Helper()
	if got, want := ask(t, http.Request, s), wantRequest(s); !reflect.DeepEqual(got, want) {
		t.Fatalf("Request(%.300q) = %+v, want %+v", s, got, want)
	}
	if got, want := ask(t, http.Head, s), wantHead(s); !reflect.DeepEqual(got, want) {
		t.Fatalf("Head(%.300q) = %+v, want %+v", s, got, want)
	}
	if got, want := waits(t, s), wantWaits(s); got != want {
		t.Fatalf("Waits(%.300q) = %v", s, got)
	}
	for _, method := range []string{"GET", "HEAD"} {
		for _, ended := range []bool{false, true} {
			if got, want := response(t, s, method, ended), wantResponse(s, method, ended); !reflect.DeepEqual(got, want) {
				t.Fatalf("Response(%.300q, %s, %v) = %+v, want %+v", s, method, ended, got, want)
			}
		}
	}
}

// P8.1: requests, whole ones.
func TestRequest(t *testing.T) {
	a := of("Host", "a")
	sized := of("Host", "a", "Content-Length", "3")
	inChunks := of("Host", "a", "Transfer-Encoding", "chunked")
	for _, x := range []struct {
		s    string
		want reqAnswer
	}{
		{get + host + end, reqAnswer{api.Req{Method: "GET", Target: "/", Minor: 1, Fields: a}, 27, 0}},
		{get + host + end + "more\n", reqAnswer{api.Req{Method: "GET", Target: "/", Minor: 1, Fields: a}, 27, 0}},
		{old + end, reqAnswer{api.Req{Method: "GET", Target: "/"}, 18, 0}},
		{old + host + end, reqAnswer{api.Req{Method: "GET", Target: "/", Fields: a}, 27, 0}},
		{"OPTIONS * HTTP/1.1\r\nhOST:B.c:80\r\n\r\n", reqAnswer{api.Req{Method: "OPTIONS", Target: "*", Minor: 1, Fields: of("hOST", "B.c:80")}, 35, 0}},
		{get + "b: 2\r\nB:  1 \r\nHost: a\r\nb:\r\n" + end, reqAnswer{api.Req{Method: "GET", Target: "/", Minor: 1, Fields: of("b", "2", "B", "1", "Host", "a", "b", "")}, 45, 0}},
		{put + host + "Content-Length: 3\r\n\r\nabcd", reqAnswer{api.Req{Method: "PUT", Target: "/x?y", Minor: 1, Fields: sized, Body: []byte("abc")}, 52, 0}},
		{put + host + "Content-Length: 3\r\n\r\n\r\n\n", reqAnswer{api.Req{Method: "PUT", Target: "/x?y", Minor: 1, Fields: sized, Body: []byte("\r\n\n")}, 52, 0}},
		{put + host + "Content-Length: 0\r\n\r\nabc", reqAnswer{api.Req{Method: "PUT", Target: "/x?y", Minor: 1, Fields: of("Host", "a", "Content-Length", "0")}, 49, 0}},
		{put + host + coded + "\r\n3;x\r\nabc\r\n1\r\nd\r\n0\r\nx: y\r\n\r\n0", reqAnswer{api.Req{Method: "PUT", Target: "/x?y", Minor: 1, Fields: inChunks, Body: []byte("abcd")}, 85, 0}},
		{put + host + coded + "\r\n0\r\n\r\n", reqAnswer{api.Req{Method: "PUT", Target: "/x?y", Minor: 1, Fields: inChunks}, 63, 0}},
		{get + host + end + get + host + end, reqAnswer{api.Req{Method: "GET", Target: "/", Minor: 1, Fields: a}, 27, 0}},
	} {
		if got := ask(t, http.Request, x.s); !reflect.DeepEqual(got, x.want) {
			t.Errorf("Request(%q) = %+v, want %+v", x.s, got, x.want)
		}
		check(t, x.s)
	}
}

// P8.1: statuses, the first that applies from the front; with one, and of a request that isn't whole yet, all else is zero.
func TestStatuses(t *testing.T) {
	for _, x := range []struct {
		s      string
		status int
	}{
		{"", 0}, {"G", 0}, {"\r", 0}, {"GET / HTTP/1.1\r", 0}, {get, 0}, {get + "\r", 0}, {get + host, 0}, {get + host + "\r", 0}, {"bad line", 0}, {get + "no field", 0}, {"\x00", 0}, {" ", 0}, {get + host + end[:1], 0},
		{"\n", 400}, {"\r\n", 400}, {"\r\n" + get, 400}, {"\r\r", 400}, {"\rG", 400}, {"GET / HTTP/1.1\n", 400}, {"GET / HTTP/1.1\rHost: a\r\n", 400}, {"GET /  HTTP/1.1\r\n", 400}, {"GET x HTTP/1.1\r\n", 400}, {"GET / HTTP/1.1 \r\n", 400}, {"GET * HTTP/1.1\r\n", 400}, {ok, 400}, {"GET / HTTP/3.0\n", 400}, {"GET /" + strings.Repeat("x", 512) + " HTTP/1.1\n", 400},
		{"GET /" + strings.Repeat("x", 512) + " HTTP/1.1\r\n", 414}, {"GET /" + strings.Repeat("x", 511) + " HTTP/1.1\r\n", 0}, {"GET /x HTTP/3.0\r\n", 505}, {"GET /x HTTP/1.2\r\n\n", 505}, {"GET /x HTTP/2.0\r\nno field\r\n", 505},
		{get + "\n", 400}, {get + "no field\r\n", 400}, {get + host + " X: y\r\n", 400}, {get + host + "X : y\r\n", 400}, {get + host + "X\r\n", 400}, {get + ": y\r\n", 400}, {get + host + "X: a\rb\r\n", 400}, {get + host + "X: a\x00\r\n", 400}, {get + host + "X: a\nY: b\r\n\r\n", 400}, {get + host + "\n", 400}, {get + host + "\rx", 400}, {get + host + strings.Repeat("n", 101) + ": x\r\n", 400}, {get + host + "X: " + strings.Repeat("v", 1001) + "\r\n", 400},
		{get + end, 400}, {get + host + host + end, 400}, {get + host + "HOST: b\r\n" + end, 400}, {old + host + host + end, 400}, {get + "Host:\r\n" + end, 400}, {old + "Host:\r\n" + end, 400}, {get + "Host: a b\r\n" + end, 400}, {old + "Host: a_b\r\n" + end, 400}, {get + "Host: :80\r\n" + end, 400}, {get + "Host: " + strings.Repeat("a", 65) + "\r\n" + end, 400}, {get + "Hos: a\r\n" + end, 400},
		{get + host + "Content-Length: 5, 6\r\n" + end, 400}, {get + host + "Content-Length: 5\r\n" + coded + end, 400}, {old + coded + end, 400}, {get + host + "Content-Length: 4097\r\n" + end, 413}, {get + host + "Transfer-Encoding: gzip\r\n" + end, 501}, {get + "Transfer-Encoding: gzip\r\n" + end, 400}, {get + host + "Transfer-Encoding: gzip\r\n", 0}, {get + "Host: \r\nContent-Length: 4097\r\n" + end, 400},
		{put + host + "Content-Length: 3\r\n\r\nab", 0}, {put + host + coded + end, 0}, {put + host + coded + "\r\n3\r\nab", 0}, {put + host + coded + "\r\n3\r\nabc\r\n0\r\n", 0}, {put + host + coded + "\r\n1000\r\n", 0},
		{put + host + coded + "\r\nx\r\n", 400}, {put + host + coded + "\r\n\r\n", 400}, {put + host + coded + "\r\n1\r\nab", 400}, {put + host + coded + "\r\n0\r\nno field\r\n", 400}, {put + host + coded + "\r\n0\r\n\n", 400}, {put + host + coded + "\r\n0\r\n" + strings.Repeat("a: b\r\n", 41), 400},
		{put + host + coded + "\r\n1001\r\n", 413}, {put + host + coded + "\r\nfff\r\n" + strings.Repeat("x", 4095) + "\r\n2\r\n", 413}, {put + host + coded + "\r\n" + strings.Repeat("0", 257), 413}, {put + host + coded + "\r\n0\r\n" + strings.Repeat("n", 257), 413},
	} {
		if got, want := ask(t, http.Request, x.s), (reqAnswer{status: x.status}); !reflect.DeepEqual(got, want) {
			t.Errorf("Request(%.120q) = %+v, want status %d", x.s, got, x.status)
		}
		check(t, x.s)
	}
}

// fill is lines of fields that have so many bytes in all (0, or 4 at least).
func fill(size int) string {
	var b strings.Builder
	for b.Len() < size {
		n := min(size-b.Len(), 900)
		if left := size - b.Len() - n; left > 0 && left < 4 {
			n -= 4
		}
		b.WriteString("f:" + strings.Repeat("v", n-4) + "\r\n")
	}
	return b.String()
}

// P8.1: a head has MaxHead bytes at most; what stands behind them isn't looked at for it.
func TestRoom(t *testing.T) {
	whole := func(size int) string { return get + host + fill(size-27) + end }
	for size := 2000; size < 2100; size++ {
		s := whole(size)
		if len(s) != size {
			t.Fatalf("a head of %d bytes has %d", size, len(s))
		}
		want := 0
		if size > 2048 {
			want = 431
		}
		for _, behind := range []string{"", "x", "\n", strings.Repeat("x", 3000)} {
			if got := ask(t, http.Request, s+behind); got.status != want || (want == 0) != (got.n == size) {
				t.Errorf("Request of %d bytes and %.5q = %d, %d", size, behind, got.n, got.status)
			}
			check(t, s+behind)
		}
		answer := strings.Replace(s, get+host, ok+"ab: cd\r\n", 1)
		if got := response(t, answer, "HEAD", false); got.right != (len(answer) <= 2048) {
			t.Errorf("Response of %d bytes = %d, %v", len(answer), got.n, got.right)
		}
		for _, cut := range []int{2045, 2046, 2047, 2048, 2049, 2050} {
			check(t, s[:min(cut, size)])
			check(t, answer[:min(cut, len(answer))])
		}
	}
	for n := 2040; n < 2060; n++ {
		for _, c := range []string{"a", "\x00", " ", ":"} {
			s := strings.Repeat(c, n)
			want := 0
			if n >= 2048 {
				want = 431
			}
			if got := ask(t, http.Request, s); !reflect.DeepEqual(got, reqAnswer{status: want}) {
				t.Errorf("Request of %d times %q = %+v", n, c, got)
			}
			if got := response(t, s, "GET", false); !reflect.DeepEqual(got, respAnswer{right: n < 2048}) {
				t.Errorf("Response of %d times %q = %+v", n, c, got)
			}
			for _, behind := range []string{"\r", "\n", "\r\n", "\rx", "\r\n\r\n", "\n\r", get, strings.Repeat("\r\n", 20)} {
				check(t, s+behind)
				check(t, get+host+fill(n-29)+behind)
				check(t, ok+fill(n-29)+behind)
			}
		}
	}
}

// P8.1: 40 fields may be, the 41st line is no field first, and too many then.
func TestFields(t *testing.T) {
	for n := 30; n < 45; n++ {
		for _, last := range []string{"", end, "c", "no field\r\n", "c: d\r\n", "c: d\r\n\r\n", "c: d\n", "\n", "c: d\r\n\n", "c: d\r\nno field\r\n"} {
			check(t, get+host+strings.Repeat("a: b\r\n", n-1)+last)
			check(t, old+strings.Repeat("a: b\r\n", n)+last)
			check(t, ok+strings.Repeat("a: b\r\n", n)+last)
		}
	}
	forty := strings.Repeat("a: b\r\n", 39) + host
	for _, x := range []struct {
		s         string
		n, status int
	}{
		{get + forty + end, len(get) + len(forty) + 2, 0}, {get + forty + "a", 0, 0}, {get + forty + "a: b\r\n", 0, 431}, {get + forty + "a\r\n", 0, 400}, {get + forty + "a: b\n", 0, 400}, {get + forty + "a: b\r\n\n", 0, 431},
	} {
		if got := ask(t, http.Request, x.s); got.n != x.n || got.status != x.status || x.n > 0 != (len(got.r.Fields) == 40) {
			t.Errorf("Request(..%q) = %d, %d", x.s[len(get)+len(forty):], got.n, got.status)
		}
	}
	answer := strings.Repeat("a: b\r\n", 40)
	if got := response(t, ok+answer+end, "HEAD", false); len(got.r.Fields) != 40 || !got.right {
		t.Errorf("Response of 40 fields = %+v", got)
	}
	for _, last := range []string{"a: b\r\n", "a\r\n"} {
		if got := response(t, ok+answer+last, "HEAD", false); !reflect.DeepEqual(got, respAnswer{}) {
			t.Errorf("Response of 40 fields and %q = %+v", last, got)
		}
	}
}

// P8.1: the bounds of a body, and that it is its bytes alone.
func TestBodies(t *testing.T) {
	for _, n := range []int{0, 1, 2, 100, 4094, 4095, 4096, 4097, 4098, 5000} {
		body := strings.Repeat("\r\n\x00x", n/4+1)[:n]
		size := strconv.Itoa(n)
		for _, head := range []string{put + host, ok} {
			for _, size := range []int{1, 7, 4096, 5000} {
				s := head + coded + end + string(chunk.Encode([]byte(body), max(size, n/50)))
				check(t, s)
				check(t, s[:len(s)-1])
				check(t, s+"\n")
			}
			s := head + "Content-Length: " + size + "\r\n\r\n" + body
			check(t, s)
			check(t, s[:len(s)-1])
			check(t, s+"\n")
			check(t, head+end+body)
		}
		want := 0
		if n > 4096 {
			want = 413
		}
		for _, s := range []string{put + host + "Content-Length: " + size + "\r\n\r\n" + body, put + host + coded + end + string(chunk.Encode([]byte(body), 1000))} {
			if got := ask(t, http.Request, s); got.status != want || want == 0 && (got.n != len(s) || string(got.r.Body) != body) {
				t.Errorf("Request with %d bytes = %d, %d", n, got.n, got.status)
			}
		}
		for _, s := range []string{ok + end + body, ok + "Content-Length: " + size + "\r\n\r\n" + body, ok + coded + end + string(chunk.Encode([]byte(body), 1000))} {
			if got := response(t, s, "GET", true); got.right != (want == 0) || want == 0 && (got.n != len(s) || string(got.r.Body) != body) {
				t.Errorf("Response with %d bytes = %d, %v", n, got.n, got.right)
			}
		}
	}
}

// P8.1: Head doesn't look at bodies.
func TestHead(t *testing.T) {
	for _, x := range []struct {
		s         string
		n, status int
	}{
		{get + host + end, 27, 0}, {get + host + end + "x\n", 27, 0}, {get + host, 0, 0}, {"", 0, 0}, {get + end, 0, 400}, {get + "\n", 0, 400}, {"GET / HTTP/2.0\r\n", 0, 505},
		{put + host + "Content-Length: 3\r\n\r\n", 49, 0}, {put + host + "Content-Length: 3\r\n\r\nabcd", 49, 0}, {put + host + "Content-Length: 4097\r\n\r\n", 0, 413}, {put + host + "Content-Length: x\r\n\r\n", 0, 400}, {put + host + "Transfer-Encoding: x\r\n\r\n", 0, 501},
		{put + host + coded + end, 58, 0}, {put + host + coded + "\r\nx\r\n", 58, 0}, {put + host + coded + "\r\n1001\r\n", 58, 0}, {put + host + coded + "\r\n1\r\na\r\n0\r\n\r\n", 58, 0},
	} {
		got := ask(t, http.Head, x.s)
		if got.n != x.n || got.status != x.status || got.r.Body != nil || x.n == 0 && !reflect.DeepEqual(got.r, api.Req{}) {
			t.Errorf("Head(%q) = %+v", x.s, got)
		}
		check(t, x.s)
	}
}

// P8.1: who waits to be told to go on.
func TestWaits(t *testing.T) {
	expect := put + host + "Expect: 100-continue\r\n"
	for _, x := range []struct {
		s    string
		want bool
	}{
		{expect + "Content-Length: 2\r\n\r\n", true}, {expect + "Content-Length: 2\r\n\r\na", true}, {expect + "Content-Length: 2\r\n\r\nab", false}, {expect + "Content-Length: 0\r\n\r\n", false}, {expect + end, false},
		{put + host + "expect: x, 100-Continue ,\r\nContent-Length: 2\r\n\r\n", true}, {put + host + "Expect: x\r\nContent-Length: 2\r\nEXPECT: 100-CONTINUE\r\n\r\n", true}, {put + host + "Expect: 100-continue;x\r\nContent-Length: 2\r\n\r\n", false}, {put + host + "Expect: 100\r\nContent-Length: 2\r\n\r\n", false}, {put + host + "X: 100-continue\r\nContent-Length: 2\r\n\r\n", false}, {put + host + "Expect:\r\nContent-Length: 2\r\n\r\n", false}, {put + host + "Content-Length: 2\r\n\r\n", false},
		{expect + "Content-Length: 2\r\n\r", false}, {expect + "Content-Length: 2\r\n", false}, {"", false}, {expect + "Content-Length: 4097\r\n\r\n", false}, {expect + "Content-Length: 2, 3\r\n\r\n", false}, {expect + "Content-Length: 2\r\n" + host + end, false}, {expect + "no field\r\n\r\n", false}, {strings.Replace(expect, host, "", 1) + "Content-Length: 2\r\n\r\n", false},
		{expect + coded + end, true}, {expect + coded + "\r\n1", true}, {expect + coded + "\r\n1\r\na\r\n0\r\n", true}, {expect + coded + "\r\n1\r\na\r\n0\r\n\r\n", false}, {expect + coded + "\r\nx\r\n", false}, {expect + coded + "\r\n1001\r\n", false}, {expect + coded + "\r\n1\r\nab", false},
		{"PUT / HTTP/1.0\r\n" + host + "Expect: 100-continue\r\nContent-Length: 2\r\n\r\n", false},
	} {
		if got := waits(t, x.s); got != x.want {
			t.Errorf("Waits(%q) = %v", x.s, got)
		}
		check(t, x.s)
	}
}

// P8.1: responses.
func TestResponse(t *testing.T) {
	yes := api.Resp{Code: 200, Reason: "OK", Minor: 1}
	with := func(body string, pairs ...string) api.Resp {
		r := yes
		r.Fields, r.Body = plain(of(pairs...), []byte(body))
		return r
	}
	none := respAnswer{}
	notYet := respAnswer{right: true}
	for _, x := range []struct {
		s, method      string
		going, nothing respAnswer // while more may come, and once nothing does
	}{
		{"", "GET", notYet, none}, {"HTTP/1.1 2", "GET", notYet, none}, {ok, "GET", notYet, none}, {ok + "\r", "GET", notYet, none}, {"\x00", "GET", notYet, none},
		{ok + end, "GET", notYet, respAnswer{yes, 19, true}}, {ok + "\r\nab", "GET", notYet, respAnswer{with("ab"), 21, true}}, {ok + "\r\nab", "", notYet, respAnswer{with("ab"), 21, true}}, {ok + "\r\nab", "head", notYet, respAnswer{with("ab"), 21, true}}, {ok + "a: b\r\n\r\n" + ok, "POST", notYet, respAnswer{with(ok, "a", "b"), 42, true}},
		{ok + "\r\nab", "HEAD", respAnswer{yes, 19, true}, respAnswer{yes, 19, true}}, {ok + "Content-Length: x\r\n\r\n", "HEAD", respAnswer{with("", "Content-Length", "x"), 38, true}, respAnswer{with("", "Content-Length", "x"), 38, true}},
		{ok + "Content-Length: 1\r\n\r\nab", "GET", respAnswer{with("a", "Content-Length", "1"), 39, true}, respAnswer{with("a", "Content-Length", "1"), 39, true}}, {ok + "Content-Length: 3\r\n\r\nab", "GET", notYet, none}, {ok + "Content-Length: 0\r\n\r\nab", "GET", respAnswer{with("", "Content-Length", "0"), 38, true}, respAnswer{with("", "Content-Length", "0"), 38, true}},
		{ok + coded + "\r\n1\r\na\r\n0\r\n\r\n", "GET", respAnswer{with("a", "Transfer-Encoding", "chunked"), 58, true}, respAnswer{with("a", "Transfer-Encoding", "chunked"), 58, true}}, {ok + coded + "\r\n1\r\na\r\n0\r\n", "GET", notYet, none}, {ok + coded + "\r\n1\r\nab", "GET", none, none}, {ok + coded + "\r\n1001\r\n", "GET", none, none}, {ok + coded + "\r\nx\r\n", "HEAD", respAnswer{with("", "Transfer-Encoding", "chunked"), 47, true}, respAnswer{with("", "Transfer-Encoding", "chunked"), 47, true}},
		{"HTTP/1.1 100 x\r\n\r\n" + ok, "GET", respAnswer{api.Resp{Code: 100, Reason: "x", Minor: 1}, 18, true}, respAnswer{api.Resp{Code: 100, Reason: "x", Minor: 1}, 18, true}}, {"HTTP/1.0 204\r\n\r\n", "GET", respAnswer{api.Resp{Code: 204}, 16, true}, respAnswer{api.Resp{Code: 204}, 16, true}}, {"HTTP/1.0 304 \r\nContent-Length: 9\r\n\r\n", "GET", respAnswer{api.Resp{Code: 304, Fields: of("Content-Length", "9")}, 36, true}, respAnswer{api.Resp{Code: 304, Fields: of("Content-Length", "9")}, 36, true}},
		{"\n", "GET", none, none}, {"\r\n", "GET", none, none}, {"HTTP/1.1 200 OK\n", "GET", none, none}, {"HTTP/1.1 2 x\r\n", "GET", none, none}, {"HTTP/1.2 200 OK\r\n", "GET", none, none}, {get, "GET", none, none}, {ok + "bad\r\n", "GET", none, none}, {ok + "bad\r\n", "HEAD", none, none}, {ok + " a: b\r\n", "GET", none, none}, {ok + "a: b\n", "GET", none, none}, {ok + "\rx", "GET", none, none},
		{ok + "Content-Length: 4097\r\n\r\n", "GET", none, none}, {ok + "Content-Length: 1\r\n" + coded + "\r\n", "GET", none, none}, {"HTTP/1.0 200 OK\r\n" + coded + "\r\n", "GET", none, none}, {ok + "Transfer-Encoding: gzip\r\n\r\n", "GET", none, none}, {ok + "Transfer-Encoding: gzip\r\n", "GET", notYet, none},
		{ok + end + strings.Repeat("x", 4096), "GET", notYet, respAnswer{with(strings.Repeat("x", 4096)), 4115, true}}, {ok + end + strings.Repeat("x", 4097), "GET", none, none}, {ok + end + strings.Repeat("x", 4097), "HEAD", respAnswer{yes, 19, true}, respAnswer{yes, 19, true}},
		{ok + host + host + "\r\n", "HEAD", respAnswer{with("", "Host", "a", "Host", "a"), 37, true}, respAnswer{with("", "Host", "a", "Host", "a"), 37, true}},
	} {
		if got := response(t, x.s, x.method, false); !reflect.DeepEqual(got, x.going) {
			t.Errorf("Response(%.80q, %q, false) = %+v, want %+v", x.s, x.method, got, x.going)
		}
		if got := response(t, x.s, x.method, true); !reflect.DeepEqual(got, x.nothing) {
			t.Errorf("Response(%.80q, %q, true) = %+v, want %+v", x.s, x.method, got, x.nothing)
		}
		check(t, x.s)
	}
}

// samples are messages of all sorts, right ones and wrong ones.
func samples() []string {
	return []string{
		get + host + end, old + end, put + host + "Content-Length: 3\r\n\r\nabc", put + "Host: b.c:8\r\nExpect: 100-continue\r\n" + coded + "\r\n2;x\r\nab\r\n0\r\nt: u\r\n\r\n", get + host + host + end, put + host + "Content-Length: 1, 2\r\n\r\n", old + "Host: a b\r\n\r\n", put + host + coded + "\r\n2\r\nabc", get + "bad\r\n\r\n", "GET /  HTTP/1.1\r\n\r\n",
		ok + "a: b\r\n\r\nxyz", ok + "Content-Length: 2\r\n\r\nab", ok + coded + "\r\n2\r\nab\r\n0\r\n\r\n", "HTTP/1.0 304\r\nContent-Length: 2\r\n\r\n", ok + "Content-Length: 2\r\n" + coded + end, ok + coded + "\r\nz\r\n", "HTTP/1.1 99 x\r\n\r\n",
	}
}

// P8.1: each byte in the place of each of a message, and ahead of it.
func TestEveryByte(t *testing.T) {
	for _, s := range samples() {
		for at := range len(s) + 1 {
			for c := range 256 {
				b := string([]byte{byte(c)})
				check(t, s[:at]+b+s[min(at+1, len(s)):])
				if c < 33 || c == 58 {
					check(t, s[:at]+b+s[at:])
				}
			}
		}
	}
}

// P8.1: all rows of up to five of these pieces.
func TestEveryRow(t *testing.T) {
	pieces := []string{get, old, ok, host, "Host: \r\n", "Content-Length: 1\r\n", coded, "Expect: 100-continue\r\n", "x\r\n", "\r\n", "\r", "\n", "1\r\na\r\n", "0\r\n"}
	var walk func(s string, left int)
	walk = func(s string, left int) {
		check(t, s)
		for i := range len(pieces) * min(left, 1) {
			walk(s+pieces[i], left-1)
		}
	}
	walk("", 3)
	for _, s := range []string{get + host, old, ok, ok + coded + end, get + host + "Expect: 100-continue\r\n" + coded + end} {
		walk(s, 3)
	}
}

// P8.2: what is answered of a beginning is answered of the whole, once it isn't "not whole yet".
func TestBeginnings(t *testing.T) {
	all := append(samples(), get+host+strings.Repeat("a: b\r\n", 41), get+host+fill(2030)+end, ok+fill(2000)+end+strings.Repeat("x", 4200), strings.Repeat("y", 2100), put+host+coded+end+string(chunk.Encode(make([]byte, 4097), 900)))
	for _, s := range all {
		s += "\r\nwhat\nstands\rbehind\r\n\r\n"
		var request, head reqAnswer
		answers := map[string]respAnswer{"GET": {right: true}, "HEAD": {right: true}}
		for n := range len(s) + 1 {
			got := ask(t, http.Request, s[:n])
			if request.n+request.status != 0 && !reflect.DeepEqual(got, request) {
				t.Fatalf("Request of %d bytes of %.100q = %+v, was %+v", n, s, got, request)
			}
			request = got
			got = ask(t, http.Head, s[:n])
			if head.n+head.status != 0 && !reflect.DeepEqual(got, head) {
				t.Fatalf("Head of %d bytes of %.100q = %+v, was %+v", n, s, got, head)
			}
			head = got
			for method, was := range answers {
				got := response(t, s[:n], method, false)
				if (was.n > 0 || !was.right) && !reflect.DeepEqual(got, was) {
					t.Fatalf("Response of %d bytes of %.100q = %+v, was %+v", n, s, got, was)
				}
				answers[method] = got
			}
		}
	}
}

// someRequest is a request that may be, its body, and how it is told.
func someRequest(rnd *rand.Rand) (api.Req, string) {
	r := api.Req{Method: []string{"GET", "PUT", "X-y"}[rnd.Intn(3)], Target: []string{"/", "/a?b=c", "/%zz"}[rnd.Intn(3)], Minor: rnd.Intn(2)}
	if r.Minor == 1 || rnd.Intn(2) == 0 {
		r.Fields = of([]string{"Host", "HOST"}[rnd.Intn(2)], []string{"a", "B.c:80", "x:"}[rnd.Intn(3)])
	}
	for range rnd.Intn(5) {
		r.Fields = append(r.Fields, of([]string{"a", "B-c", "Expect"}[rnd.Intn(3)], []string{"", "x y", "a: b, c", "\xff\t\xfe"}[rnd.Intn(4)])...)
	}
	body := make([]byte, rnd.Intn(3)*rnd.Intn(30))
	rnd.Read(body)
	switch kind := rnd.Intn(3); {
	case kind == 1:
		r.Fields = append(r.Fields, of("content-Length", strconv.Itoa(len(body)))...)
		r.Body = body
		return r, string(body)
	case kind == 2 && r.Minor == 1:
		r.Fields = append(r.Fields, of("Transfer-encoding", "Chunked")...)
		r.Body = body
		return r, string(chunk.Encode(body, rnd.Intn(12)))
	}
	return r, ""
}

// P8.3: a request that is read, whose body is written as it is told, is read again, whatever stands behind it.
func TestReadAgain(t *testing.T) {
	rnd := rand.New(rand.NewSource(1))
	for range 3000 {
		r, body := someRequest(rnd)
		told := r
		told.Body = []byte(body)
		s := string(http.WriteRequest(told))
		r.Fields, r.Body = plain(r.Fields, r.Body)
		want := reqAnswer{r, len(s), 0}
		for _, behind := range []string{"", "\n", "\r", "0\r\n\r\n", get + host + end, string(body) + "x", strings.Repeat("z", 3000)} {
			if got := ask(t, http.Request, s+behind); !reflect.DeepEqual(got, want) {
				t.Fatalf("Request(%q and %.20q) = %+v, want %+v", s, behind, got, want)
			}
		}
	}
	for _, s := range samples() {
		for at := range len(s) {
			for _, c := range "\t :a1,;" {
				first := ask(t, http.Request, s[:at]+string(c)+s[at+1:])
				if first.n == 0 {
					continue
				}
				told := first.r
				if _, inChunks, _ := frame.Request(told.Fields, told.Minor); inChunks {
					told.Body = chunk.Encode(told.Body, 1)
				}
				b := http.WriteRequest(told)
				if again := ask(t, http.Request, string(b)+"\n"); !reflect.DeepEqual(again.r, first.r) || again.n != len(b) {
					t.Fatalf("%+v, written as %q, is read as %+v", first, b, again)
				}
			}
		}
	}
}

// P8.1: messages are written as they stand, whatever they are.
func TestWrite(t *testing.T) {
	for _, x := range []struct {
		r    api.Req
		want string
	}{
		{api.Req{}, "  HTTP/1.0\r\n\r\n"}, {api.Req{Method: "GET", Target: "/", Minor: 1, Fields: of("Host", "a")}, get + host + end},
		{api.Req{Method: "PUT", Target: "/x?y", Minor: 1, Fields: of("b", "", "a", " c ", "b", "d"), Body: []byte("x\r\n\x00\xff")}, put + "b: \r\na:  c \r\nb: d\r\n\r\nx\r\n\x00\xff"},
		{api.Req{Method: "\n", Target: "é", Minor: math.MinInt, Fields: []api.Field{}, Body: []byte{}}, "\n é HTTP/1." + strconv.Itoa(math.MinInt) + "\r\n\r\n"},
		{api.Req{Method: "GET", Target: "/", Minor: 1, Fields: of("Transfer-Encoding", "chunked"), Body: []byte("as it is")}, get + coded + "\r\nas it is"},
	} {
		if got := string(http.WriteRequest(x.r)); got != x.want {
			t.Errorf("WriteRequest(%+v) = %q", x.r, got)
		}
	}
	for _, x := range []struct {
		r    api.Resp
		want string
	}{
		{api.Resp{}, "HTTP/1.0 000 \r\n\r\n"}, {api.Resp{Code: 200, Reason: "OK", Minor: 1, Fields: of("a", "b", "A", "b"), Body: []byte("x")}, ok + "a: b\r\nA: b\r\n\r\nx"},
		{api.Resp{Code: 7, Reason: "a b", Minor: 1, Body: []byte("\r\n")}, "HTTP/1.1 007 a b\r\n\r\n\r\n"}, {api.Resp{Code: 304, Minor: math.MaxInt, Fields: of("", "\n")}, "HTTP/1." + strconv.Itoa(math.MaxInt) + " 304 \r\n: \n\r\n\r\n"},
	} {
		if got := string(http.WriteResponse(x.r)); got != x.want {
			t.Errorf("WriteResponse(%+v) = %q", x.r, got)
		}
	}
	many := bytes.Repeat([]byte("ab"), 50000)
	if got := http.WriteRequest(api.Req{Method: "GET", Target: "/", Minor: 1, Body: many}); string(got) != get+end+string(many) {
		t.Errorf("WriteRequest of %d bytes has %d", len(many), len(got))
	}
}

// P8.1: the host of a request.
func TestHost(t *testing.T) {
	for _, x := range []struct {
		fs   []api.Field
		want string
	}{
		{nil, ""}, {[]api.Field{}, ""}, {of("X", "a"), ""}, {of("Host", "a"), "a"}, {of("hOsT", "A.b:80"), "a.b"}, {of("X", "y", "Host", "b", "Host", "c"), "b"}, {of("Host", "", "Host", "c"), ""}, {of("Host", "a b"), ""}, {of("Host", ":80"), ""}, {of("Host", "a:"), "a"}, {of("Host", strings.Repeat("a", 64)), strings.Repeat("a", 64)}, {of("Host", strings.Repeat("a", 65)), ""}, {of("Host ", "a", "Ho\u017ft", "b"), ""},
	} {
		if got := http.Host(api.Req{Method: "x", Fields: x.fs}); got != x.want {
			t.Errorf("Host(%q) = %q, want %q", x.fs, got, x.want)
		}
	}
}

// P8.1: many bytes are no more work than those that are a message's: this many times many would take hours else.
func TestManyBytes(t *testing.T) {
	many := strings.Repeat("x\r\n", 1<<22)
	for _, s := range []string{many, get + host + end + many, get + host + many, ok + end + many, strings.Repeat("x", 1<<24), put + host + coded + end + many} {
		b := []byte(s)
		for range 2000 {
			http.Request(b)
			http.Head(b)
			http.Waits(b)
			http.Response(b, "GET", true)
		}
		check(t, s)
	}
}

// P8.4: answers are new memory; what was handed in may be written over.
func TestAnswersAreNew(t *testing.T) {
	for _, s := range []string{put + host + "Content-Length: 3\r\n\r\nabc", put + host + coded + "\r\n3\r\nabc\r\n0\r\n\r\n"} {
		b := []byte(s)
		r, _, _ := http.Request(b)
		head, _, _ := http.Head(b)
		want, wantHead := wantRequest(s).r, wantHead(s).r
		clear(b)
		if !reflect.DeepEqual(r, want) || !reflect.DeepEqual(head, wantHead) {
			t.Errorf("written over, %q is read as %+v, %+v", s, r, head)
		}
		copy(b, s)
		again, _, _ := http.Request(b)
		spoilList(r.Fields[:cap(r.Fields)])
		spoilBytes(r.Body[:cap(r.Body)])
		if string(b) != s || !reflect.DeepEqual(again, want) {
			t.Errorf("a changed answer changed %q, %+v", b, again)
		}
	}
	for _, s := range []string{ok + "a: b\r\n\r\nabc", ok + "Content-Length: 3\r\n\r\nabc", ok + coded + "\r\n3\r\nabc\r\n0\r\n\r\n"} {
		b := []byte(s)
		r, _, _ := http.Response(b, "GET", true)
		want := wantResponse(s, "GET", true).r
		clear(b)
		if !reflect.DeepEqual(r, want) {
			t.Errorf("written over, %q is read as %+v", s, r)
		}
		copy(b, s)
		again, _, _ := http.Response(b, "GET", true)
		spoilList(r.Fields[:cap(r.Fields)])
		spoilBytes(r.Body[:cap(r.Body)])
		if string(b) != s || !reflect.DeepEqual(again, want) {
			t.Errorf("a changed answer changed %q, %+v", b, again)
		}
	}
}

func spoilList(fs []api.Field) {
	for i := range fs {
		fs[i] = api.Field{Name: "spoilt"}
	}
}

func spoilBytes(b []byte) {
	for i := range b {
		b[i] = 255
	}
}

// P8.4: what is written is new memory, and what it is written from stays.
func TestWrittenIsNew(t *testing.T) {
	fields := of("a", "b", "c", "d", "behind", "the length")
	body := []byte("abcbehind")
	req := api.Req{Method: "GET", Target: "/", Minor: 1, Fields: fields[:2], Body: body[:3]}
	resp := api.Resp{Code: 200, Reason: "OK", Minor: 1, Fields: fields[:2], Body: body[:3]}
	for range 2 {
		asked, answered := http.WriteRequest(req), http.WriteResponse(resp)
		if string(asked) != get+"a: b\r\nc: d\r\n\r\nabc" || string(answered) != ok+"a: b\r\nc: d\r\n\r\nabc" {
			t.Errorf("written as %q, %q", asked, answered)
		}
		spoilBytes(asked[:cap(asked)])
		spoilBytes(answered[:cap(answered)])
		if string(body) != "abcbehind" || !reflect.DeepEqual(fields, of("a", "b", "c", "d", "behind", "the length")) {
			t.Errorf("the arguments are now %q, %q", body, fields)
		}
	}
	host := http.Host(api.Req{Fields: fields})
	if host != "" || !reflect.DeepEqual(fields, of("a", "b", "c", "d", "behind", "the length")) {
		t.Errorf("Host = %q", host)
	}
}
