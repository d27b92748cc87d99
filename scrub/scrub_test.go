package scrub_test

import (
	"bytes"
	"math"
	"math/rand"
	"reflect"
	"slices"
	"strconv"
	"strings"
	"testing"
	"unsafe"

	"tollbar/api"
	"tollbar/conf"
	"tollbar/frame"
	"tollbar/http"
	"tollbar/scrub"
)

var kept = []string{"host", "content-length", "transfer-encoding", "connection", "keep-alive", "proxy-connection", "te", "trailer", "upgrade", "expect", "via"}

// of is fields of these names and values, one behind the other.
func of(pairs ...string) []api.Field {
	var fs []api.Field
	for i := 0; i < len(pairs); i += 2 {
		fs = append(fs, api.Field{Name: pairs[i], Value: pairs[i+1]})
	}
	return fs
}

// lower is a text with A to Z as a to z, and no other sign changed.
func lower(s string) string {
	b := []byte(s)
	for i, c := range b {
		if strings.IndexByte("ABCDEFGHIJKLMNOPQRSTUVWXYZ", c) >= 0 {
			b[i] = c | 32
		}
	}
	return string(b)
}

// in tells whether a name is, folded, one of several.
func in(name string, several []string) bool {
	for _, one := range several {
		if lower(one) == lower(name) {
			return true
		}
	}
	return false
}

// wantHop says again what the chapter's Words say.
func wantHop(fs []api.Field, name string) bool {
	if in(name, kept) || len(name) >= 10 && lower(name[:10]) == "x-tollbar-" {
		return true
	}
	for _, f := range fs {
		if lower(f.Name) != "connection" {
			continue
		}
		for _, part := range strings.Split(f.Value, ",") {
			if part = strings.Trim(part, " \t"); part != "" && lower(part) == lower(name) {
				return true
			}
		}
	}
	return false
}

// wantRequest says again what the chapter says of Request.
func wantRequest(r api.Req, c api.Conf, host, target string) api.Req {
	fs := of("Host", host)
	for _, f := range r.Fields {
		out := wantHop(r.Fields, f.Name) || in(f.Name, c.Drop)
		for _, s := range c.Set {
			out = out || lower(s.Name) == lower(f.Name)
		}
		if !out {
			fs = append(fs, f)
		}
	}
	fs = append(fs, c.Set...)
	if len(r.Body) > 0 || slices.Contains([]string{"POST", "PUT", "PATCH"}, r.Method) {
		fs = append(fs, of("Content-Length", strconv.Itoa(len(r.Body)))...)
	}
	return api.Req{Method: r.Method, Target: target, Minor: 1, Fields: fs, Body: r.Body}
}

// wantResponse says again what the chapter says of Response.
func wantResponse(r api.Resp, method string, closes bool) api.Resp {
	var fs []api.Field
	for _, f := range r.Fields {
		if !wantHop(r.Fields, f.Name) {
			fs = append(fs, f)
		}
	}
	kind, _, right := frame.Response(method, r)
	body := r.Body
	if right && kind == frame.None {
		body = nil
	} else {
		fs = append(fs, of("Content-Length", strconv.Itoa(len(r.Body)))...)
	}
	if closes {
		fs = append(fs, of("Connection", "close")...)
	}
	return api.Resp{Code: r.Code, Reason: r.Reason, Minor: 1, Fields: fs, Body: body}
}

func sameReq(a, b api.Req) bool {
	return a.Method == b.Method && a.Target == b.Target && a.Minor == b.Minor && slices.Equal(a.Fields, b.Fields) && bytes.Equal(a.Body, b.Body)
}

func sameResp(a, b api.Resp) bool {
	return a.Code == b.Code && a.Reason == b.Reason && a.Minor == b.Minor && slices.Equal(a.Fields, b.Fields) && bytes.Equal(a.Body, b.Body)
}

// holdRequest holds Request against the chapter.
func holdRequest(t *testing.T, r api.Req, c api.Conf, host, target string) {
	t.Helper()
	if got, want := scrub.Request(r, c, host, target), wantRequest(r, c, host, target); !sameReq(got, want) {
		t.Fatalf("Request(%+v, %+v, %+v, %+v) = %+v; want %+v", r, c, host, target, got, want)
	}
}

// holdResponse holds Response against the chapter.
func holdResponse(t *testing.T, r api.Resp, method string, closes bool) {
	t.Helper()
	if got, want := scrub.Response(r, method, closes), wantResponse(r, method, closes); !sameResp(got, want) {
		t.Fatalf("Response(%+v, %+v, %v) = %+v; want %+v", r, method, closes, got, want)
	}
}

// set is a configuration that sets and drops.
func set(fs []api.Field, drop ...string) api.Conf {
	c := conf.Default()
	c.Set, c.Drop = fs, drop
	return c
}

// P12.1: which names don't go on.
func TestHop(t *testing.T) {
	for _, name := range kept {
		for _, s := range []string{name, strings.ToUpper(name), strings.ToUpper(name[:1]) + name[1:]} {
			if !scrub.Hop(nil, s) || !scrub.Hop(of("a", "b"), s) {
				t.Errorf("%q goes on", s)
			}
		}
		for _, s := range []string{name + "s", "x" + name, name[1:], name + " ", " " + name, name + "\x00"} {
			if scrub.Hop(nil, s) {
				t.Errorf("%q doesn't go on", s)
			}
		}
	}
	named := of("Connection", "A, close", "b", "1", "CONNECTION", ",c\t, ,D ", "connection", "", "connections", "e", "Proxy-Connection", "f", "connection", "g h, \u212a, \"i\", j;q=1", "Keep-Alive", "k")
	for _, x := range []struct {
		fs   []api.Field
		name string
		want bool
	}{
		{nil, "x-tollbar-", true}, {nil, "X-Tollbar-Q", true}, {nil, "X-TOLLBAR-a-b", true}, {nil, "x-tollbar-\xff", true}, {nil, "x-tollbar", false}, {nil, "x_tollbar-a", false}, {nil, "tollbar-a", false}, {nil, "ax-tollbar-a", false}, {nil, " x-tollbar-a", false}, {nil, "x-tollba", false},
		{nil, "", false}, {nil, "a", false}, {nil, "Set-Cookie", false}, {nil, "Authorization", false}, {nil, "Date", false}, {nil, "Close", false}, {nil, "te\u017f", false},
		{named, "a", true}, {named, "A", true}, {named, "close", true}, {named, "CLOSE", true}, {named, "b", false}, {named, "c", true}, {named, "C", true}, {named, "d", true}, {named, "D", true},
		{named, "", false}, {named, "e", false}, {named, "f", false}, {named, "g", false}, {named, "h", false}, {named, "g h", true}, {named, "G H", true}, {named, "k", false}, {named, "K", false}, {named, "\u212a", true}, {named, "i", false}, {named, "\"i\"", true}, {named, "j", false}, {named, "J;Q=1", true},
		{named, "connections", false}, {named, "keep-alive", true}, {named, " a", false}, {named, "a ", false}, {named, "a,close", false},
		{of("a", "b", "c", "d"), "b", false}, {of("connection", "x"), "X", true}, {of("connection", "X"), "x", true}, {of("connection ", "x"), "x", false}, {of("Connection", "x", "Connection", "y"), "x", true}, {of("Connection", "x", "Connection", "y"), "y", true}, {of("Connection", ", ,\t"), "", false},
	} {
		if got := scrub.Hop(x.fs, x.name); got != x.want || wantHop(x.fs, x.name) != x.want {
			t.Errorf("Hop(%q, %q) = %v", x.fs, x.name, got)
		}
	}
	for i := range 256 {
		b := string([]byte{byte(i)})
		for _, name := range []string{b, b + "x", "x" + b, "x-tollbar" + b, "x-tollbar-" + b, "t" + b, b + "e", "vi" + b} {
			for _, fs := range [][]api.Field{nil, of("Connection", name), of("connection", "Q, "+b+" ,"), of("c"+b, "x")} {
				if got := scrub.Hop(fs, name); got != wantHop(fs, name) {
					t.Fatalf("Hop(%q, %q) = %v", fs, name, got)
				}
			}
		}
	}
}

// P12.1, P12.2: the chapter's example, and others.
func TestRequest(t *testing.T) {
	for _, x := range []struct {
		r    api.Req
		c    api.Conf
		want []api.Field
	}{
		{api.Req{Method: "GET", Fields: of("X", "1", "Connection", "x, close", "Y", "2")}, set(of("Z", "3")), of("Host", "h", "Y", "2", "Z", "3")},
		{api.Req{Method: "GET"}, api.Conf{}, of("Host", "h")},
		// The order, and what stands twice.
		{api.Req{Fields: of("b", "1", "A", "2", "b", "3", "", "", "B", "4")}, api.Conf{}, of("Host", "h", "b", "1", "A", "2", "b", "3", "", "", "B", "4")},
		{api.Req{Fields: of("Connection", "b", "b", "1", "c", "2", "CONNECTION", "c", "B", "3", "d", "4")}, api.Conf{}, of("Host", "h", "d", "4")},
		// The other Hosts, the lengths, and what an upstream isn't asked to do.
		{api.Req{Fields: of("HOST", "other", "host", "", "Host", "h")}, api.Conf{}, of("Host", "h")},
		{api.Req{Fields: of("Content-Length", "7", "Transfer-Encoding", "chunked", "TE", "trailers", "Trailer", "x", "Expect", "100-continue", "Upgrade", "h2c", "Via", "v", "Keep-Alive", "5", "Proxy-Connection", "x", "x", "y")}, api.Conf{}, of("Host", "h", "x", "y")},
		{api.Req{Fields: of("Connection", "host, content-length", "a", "b"), Body: []byte("x")}, api.Conf{}, of("Host", "h", "a", "b", "Content-Length", "1")},
		{api.Req{Fields: of("X-Tollbar-Tenant", "t", "x-tollbar-", "", "x-tollba", "1")}, api.Conf{}, of("Host", "h", "x-tollba", "1")},
		// Drop and Set.
		{api.Req{Fields: of("cookie", "1", "Cookie", "2", "cookies", "3")}, set(nil, "COOKIE"), of("Host", "h", "cookies", "3")},
		{api.Req{Fields: of("z", "1", "Z", "2", "zz", "3")}, set(of("Z", "set")), of("Host", "h", "zz", "3", "Z", "set")},
		{api.Req{Fields: of("a", "1")}, set(of("b", "1", "a", "2", "B", "3", "a", "2"), "b", "A", "none"), of("Host", "h", "b", "1", "a", "2", "B", "3", "a", "2")},
		// What c sets is there, whatever Connection names.
		{api.Req{Fields: of("Connection", "z", "Z", "1", "a", "2")}, set(of("z", "set")), of("Host", "h", "a", "2", "z", "set")},
		{api.Req{Fields: of("a", "2")}, set(of("X-Tollbar-A", "set")), of("Host", "h", "a", "2", "X-Tollbar-A", "set")},
		// What c sets names nothing that doesn't go on.
		{api.Req{Fields: of("a", "2")}, set(of("Connection", "a")), of("Host", "h", "a", "2", "Connection", "a")},
		// A Connection that c drops or sets still names what doesn't go on.
		{api.Req{Fields: of("a", "2", "Connection", "a")}, set(of("Connection", "b"), "connection"), of("Host", "h", "Connection", "b")},
	} {
		x.r.Target, x.r.Minor = "/came", 0
		got := scrub.Request(x.r, x.c, "h", "/sent")
		if want := (api.Req{Method: x.r.Method, Target: "/sent", Minor: 1, Fields: x.want, Body: x.r.Body}); !sameReq(got, want) {
			t.Errorf("Request(%+v, %+v) = %+v", x.r, x.c, got)
		}
		holdRequest(t, x.r, x.c, "h", "/sent")
	}
}

// P12.1: of which requests the length is told.
func TestRequestLength(t *testing.T) {
	for _, method := range []string{"", "GET", "HEAD", "POST", "PUT", "PATCH", "DELETE", "OPTIONS", "post", "Put", "POST ", "POSTS", "PU", "patch"} {
		for _, n := range []int{0, 1, 9, 10, 4096, 4097, 100000} {
			for _, fs := range [][]api.Field{nil, of("Content-Length", "5"), of("a", "b", "Transfer-Encoding", "chunked")} {
				r := api.Req{Method: method, Minor: 0, Fields: fs, Body: bytes.Repeat([]byte("b"), n)}
				holdRequest(t, r, conf.Default(), "h", "/")
				last := scrub.Request(r, conf.Default(), "h", "/").Fields
				told := last[len(last)-1] == api.Field{Name: "Content-Length", Value: strconv.Itoa(n)}
				if told != (n > 0 || method == "POST" || method == "PUT" || method == "PATCH") {
					t.Errorf("%q with %d bytes: %q", method, n, last)
				}
			}
		}
	}
}

// P12.1: hosts, targets, methods and minors are taken as they are.
func TestRequestTexts(t *testing.T) {
	for _, s := range []string{"", "h", "H:80", "a b", "x\r\ny", "\x00\xff", strings.Repeat("x", 100000)} {
		for _, minor := range []int{0, 1, 2, -1, math.MinInt, math.MaxInt} {
			r := api.Req{Method: s, Target: "/came", Minor: minor, Fields: of("Host", s, s, s, "a", s)}
			holdRequest(t, r, conf.Default(), s, "/sent")
			holdRequest(t, r, set(of(s, s), s), "h", s)
		}
	}
}

// P12.1: of which responses the length and the body are sent.
func TestResponse(t *testing.T) {
	some := of("A", "1", "Connection", "a", "B", "2", "Content-Length", "2", "X-Tollbar-B", "3", "via", "4", "b", "5")
	for _, x := range []struct {
		code   int
		method string
		fs     []api.Field
		body   string
		want   []api.Field
		sent   string
	}{
		{200, "GET", some, "ab", of("B", "2", "b", "5", "Content-Length", "2"), "ab"},
		{200, "GET", nil, "", of("Content-Length", "0"), ""}, {404, "POST", nil, "ab", of("Content-Length", "2"), "ab"},
		{200, "GET", of("Transfer-Encoding", "chunked", "C", "1"), "abc", of("C", "1", "Content-Length", "3"), "abc"},
		// No body, whatever the fields are.
		{200, "HEAD", some, "ab", of("B", "2", "b", "5"), ""}, {204, "GET", some, "ab", of("B", "2", "b", "5"), ""}, {304, "GET", some, "ab", of("B", "2", "b", "5"), ""}, {100, "GET", some, "ab", of("B", "2", "b", "5"), ""}, {199, "GET", nil, "ab", nil, ""},
		{0, "GET", nil, "ab", nil, ""}, {-1, "GET", nil, "ab", nil, ""}, {204, "HEAD", of("Content-Length", "x", "Transfer-Encoding", "y"), "", nil, ""},
		// Methods are as they are, and other codes have a body.
		{200, "head", nil, "ab", of("Content-Length", "2"), "ab"}, {200, "", nil, "", of("Content-Length", "0"), ""}, {205, "GET", nil, "", of("Content-Length", "0"), ""}, {303, "GET", nil, "ab", of("Content-Length", "2"), "ab"}, {1000, "GET", nil, "ab", of("Content-Length", "2"), "ab"},
		// It isn't told rightly how long the body is.
		{200, "GET", of("Content-Length", "5, 6"), "ab", of("Content-Length", "2"), "ab"}, {200, "GET", of("Content-Length", "2", "Transfer-Encoding", "chunked"), "ab", of("Content-Length", "2"), "ab"}, {200, "GET", of("Transfer-Encoding", "gzip"), "", of("Content-Length", "0"), ""}, {200, "GET", of("Content-Length", "4097"), "ab", of("Content-Length", "2"), "ab"},
		// What is told needn't be what there is.
		{200, "GET", of("Content-Length", "7"), "ab", of("Content-Length", "2"), "ab"}, {200, "GET", of("Connection", "content-length, close", "Content-Length", "7"), "ab", of("Content-Length", "2"), "ab"},
	} {
		for _, minor := range []int{1, 0, -1, 7} {
			for _, closes := range []bool{false, true} {
				r := api.Resp{Code: x.code, Reason: "Some Reason", Minor: minor, Fields: x.fs, Body: []byte(x.body)}
				want := api.Resp{Code: x.code, Reason: "Some Reason", Minor: 1, Fields: slices.Clone(x.want), Body: []byte(x.sent)}
				if closes {
					want.Fields = append(want.Fields, of("Connection", "close")...)
				}
				if got := scrub.Response(r, x.method, closes); !sameResp(got, want) {
					t.Errorf("Response(%+v, %+v, %v) = %+v", r, x.method, closes, got)
				}
				holdResponse(t, r, x.method, closes)
			}
		}
	}
}

// P12.1: all codes, and each kind of body.
func TestResponseEvery(t *testing.T) {
	codes := []int{math.MinInt, -1, 600, 999, 1000, 1 << 32, math.MaxInt}
	for code := range 600 {
		codes = append(codes, code)
	}
	for _, code := range codes {
		for _, method := range []string{"GET", "HEAD", "CONNECT", "head"} {
			for _, fs := range [][]api.Field{nil, of("Content-Length", "2"), of("content-length", ""), of("Transfer-Encoding", "chunked"), of("Content-Length", "2", "Transfer-Encoding", "chunked")} {
				for minor := range 2 {
					holdResponse(t, api.Resp{Code: code, Minor: minor, Fields: fs, Body: []byte("ab")}, method, code%2 == 0)
				}
			}
		}
	}
	for _, n := range []int{1, 10, 4096, 4097, 1 << 20} {
		holdResponse(t, api.Resp{Code: 200, Body: make([]byte, n)}, "GET", true)
	}
}

// P12.1: the gateway's own responses.
func TestOwn(t *testing.T) {
	for _, x := range []struct {
		code   int
		reason string
	}{
		{200, "OK"}, {204, "No Content"}, {400, "Bad Request"}, {404, "Not Found"}, {413, "Content Too Large"}, {414, "URI Too Long"}, {421, "Misdirected Request"}, {429, "Too Many Requests"}, {431, "Request Header Fields Too Large"},
		{501, "Not Implemented"}, {502, "Bad Gateway"}, {503, "Service Unavailable"}, {504, "Gateway Timeout"}, {505, "HTTP Version Not Supported"}, {0, "Status"}, {100, "Status"}, {304, "Status"}, {500, "Status"}, {-1, "Status"}, {math.MaxInt, "Status"}, {math.MinInt, "Status"},
	} {
		want := api.Resp{Code: x.code, Reason: x.reason, Minor: 1, Fields: of("Content-Length", "0")}
		if got := scrub.Own(x.code, false); !sameResp(got, want) {
			t.Errorf("Own(%d, false) = %+v", x.code, got)
		}
		want.Fields = of("Content-Length", "0", "Connection", "close")
		if got := scrub.Own(x.code, true); !sameResp(got, want) {
			t.Errorf("Own(%d, true) = %+v", x.code, got)
		}
	}
}

var pieces = []string{"Host", "host", "Connection", "connection", "CONNECTION", "Content-Length", "Transfer-Encoding", "TE", "Via", "Expect", "Upgrade", "X-Tollbar-A", "x-tollbar-", "x-tollbar", "A", "a", "b", "B", "Cookie", "cookie", "Z", "k", "\u212a", "", "a b"}

// chance is fields by chance, among them some that others name.
func chance(rnd *rand.Rand, most int) []api.Field {
	var fs []api.Field
	for range rnd.Intn(most + 1) {
		f := api.Field{Name: pieces[rnd.Intn(len(pieces))]}
		for range rnd.Intn(3) {
			f.Value += []string{pieces[rnd.Intn(len(pieces))], ",", ", ", " ", "2", "chunked", "close"}[rnd.Intn(7)]
		}
		fs = append(fs, f)
	}
	return fs
}

// P12.1, P12.2: messages and configurations by chance.
func TestChance(t *testing.T) {
	rnd := rand.New(rand.NewSource(12))
	methods := []string{"GET", "HEAD", "POST", "PUT", "PATCH", "DELETE", "get", ""}
	for range 60000 {
		fs, name := chance(rnd, 8), pieces[rnd.Intn(len(pieces))]
		if got := scrub.Hop(fs, name); got != wantHop(fs, name) {
			t.Fatalf("Hop(%q, %q) = %v", fs, name, got)
		}
		c := conf.Default()
		c.Set = chance(rnd, 3)
		for range rnd.Intn(3) {
			c.Drop = append(c.Drop, pieces[rnd.Intn(len(pieces))])
		}
		method, body := methods[rnd.Intn(len(methods))], make([]byte, rnd.Intn(3))
		holdRequest(t, api.Req{Method: method, Minor: rnd.Intn(2), Fields: fs, Body: body}, c, "h", "/t")
		holdResponse(t, api.Resp{Code: []int{100, 200, 204, 304, 404}[rnd.Intn(5)], Minor: rnd.Intn(2), Fields: fs, Body: body}, method, rnd.Intn(2) == 0)
		c.Set = nil
		holdSent(t, fs, scrub.Request(api.Req{Method: method, Fields: fs, Body: body}, c, "h", "/t").Fields, "Host", "Content-Length")
		holdSent(t, fs, scrub.Response(api.Resp{Code: 200, Fields: fs, Body: body}, method, true).Fields, "Content-Length", "Connection")
	}
}

// holdSent asks P12.2 of what is sent: no field is one that doesn't go on, but one of each of these names.
func holdSent(t *testing.T, came, sent []api.Field, once ...string) {
	t.Helper()
	for _, f := range sent {
		at := slices.Index(once, f.Name)
		if at >= 0 {
			once = slices.Delete(slices.Clone(once), at, at+1)
		} else if scrub.Hop(came, f.Name) || scrub.Hop(sent, f.Name) {
			t.Fatalf("of %q is sent %q", came, sent)
		}
	}
}

// P12.2: what was sent is scrubbed: scrubbed again, it is the same.
func TestAgain(t *testing.T) {
	rnd := rand.New(rand.NewSource(122))
	for range 20000 {
		r := api.Req{Method: "POST", Fields: chance(rnd, 8), Body: []byte("ab")}
		c := set(of("Z", "set"), "cookie")
		once := scrub.Request(r, c, "h", "/t")
		if again := scrub.Request(once, c, "h", "/t"); !sameReq(again, once) {
			t.Fatalf("%+v, again %+v", once, again)
		}
		p := api.Resp{Code: 200, Fields: r.Fields, Body: r.Body}
		first := scrub.Response(p, "GET", false)
		if again := scrub.Response(first, "GET", false); !sameResp(again, first) {
			t.Fatalf("%+v, again %+v", first, again)
		}
	}
}

// P12.3: what is sent of a right request is read again, by layer 8, if its head isn't too great.
func TestReadAgain(t *testing.T) {
	rnd := rand.New(rand.NewSource(123))
	names := []string{"Connection", "connection", "A", "b", "Cookie", "X-Tollbar-A", "TE", "Via", "Upgrade", "Expect", "Keep-Alive", "!#$%&'*+-.^_`|~09"}
	values := []string{"", "a", "b, cookie", "close", "x: y", "\xff\x80", "a \t b", "100-continue", "host, content-length", ",,", strings.Repeat("v", 300)}
	field := func() api.Field {
		return api.Field{Name: names[rnd.Intn(len(names))], Value: values[rnd.Intn(len(values))]}
	}
	read, tooGreat := 0, 0
	for range 20000 {
		body := bytes.Repeat([]byte("b"), []int{0, 0, 1, 17, 4096}[rnd.Intn(5)])
		r := api.Req{Method: []string{"GET", "POST", "PUT", "PATCH", "DELETE", "OPTIONS", "x"}[rnd.Intn(7)], Target: "/came", Minor: rnd.Intn(2), Fields: of("Host", "a.b:80")}
		for range rnd.Intn(45) {
			r.Fields = append(r.Fields, field())
		}
		bytesOf := body
		if r.Minor == 1 && rnd.Intn(2) == 0 {
			r.Fields = append(r.Fields, of("Transfer-Encoding", "Chunked")...)
			bytesOf = []byte("0\r\n\r\n")
			if len(body) > 0 {
				bytesOf = []byte(strconv.FormatInt(int64(len(body)), 16) + "\r\n" + string(body) + "\r\n0\r\n\r\n")
			}
		} else {
			r.Fields = append(r.Fields, of("content-length", strconv.Itoa(len(body)))...)
		}
		r.Body = bytesOf
		came, n, status := http.Request(http.WriteRequest(r))
		if n == 0 || status != 0 {
			continue // not a right request: its head is too great
		}
		c := conf.Default()
		for range rnd.Intn(17) {
			f := field()
			if rnd.Intn(10) == 0 {
				f.Value = strings.Repeat("s", 1000)
			}
			if !conf.Kept(f.Name) {
				c.Set = append(c.Set, f)
			}
		}
		if rnd.Intn(2) == 0 {
			c.Drop = []string{"b", "cookie"}
		}
		if e := conf.Check(c); e != api.OK {
			t.Fatalf("the configuration %+v isn't right: %d", c, e)
		}
		target := "/" + strings.Repeat("t", []int{0, 5, 511}[rnd.Intn(3)])
		sent := scrub.Request(came, c, "a.b", target)
		wire := http.WriteRequest(sent)
		if len(wire)-len(sent.Body) > api.MaxHead || len(sent.Fields) > api.MaxFields {
			tooGreat++
			continue
		}
		for _, behind := range []string{"", "GET / HTTP/1.1\r\n", "\r\n", "x"} {
			again, n, status := http.Request([]byte(string(wire) + behind))
			if status != 0 || n != len(wire) || !sameReq(again, sent) || !bytes.Equal(again.Body, body) || http.Host(again) != "a.b" {
				t.Fatalf("of %+v is sent %+v: read again %+v, %d of %d, %d", came, sent, again, n, len(wire), status)
			}
		}
		read++
	}
	if read < 3000 || tooGreat < 100 {
		t.Errorf("%d were read again, %d were too great", read, tooGreat)
	}
}

// P12.3: heads of just MaxHead bytes, and of just MaxFields fields.
func TestReadAgainBounds(t *testing.T) {
	for most := 38; most <= 40; most++ {
		r := api.Req{Method: "POST", Fields: slices.Concat(of("Host", "h"), slices.Repeat(of("a", "b"), most-2))}
		sent := scrub.Request(r, conf.Default(), "h", "/")
		if again, n, status := http.Request(http.WriteRequest(sent)); n == 0 || status != 0 || len(again.Fields) != most {
			t.Errorf("%d fields: %d, %d", most, n, status)
		}
	}
	for _, size := range []int{2047, 2048} {
		r := api.Req{Method: "GET", Fields: of("Host", "h", "a", strings.Repeat("a", 1000), "c", "some more", "b", "")}
		head := len(http.WriteRequest(scrub.Request(r, conf.Default(), "h", "/")))
		r.Fields[3].Value = strings.Repeat("b", size-head)
		sent := scrub.Request(r, conf.Default(), "h", "/")
		if again, n, status := http.Request(http.WriteRequest(sent)); n != size || status != 0 || !sameReq(again, sent) {
			t.Errorf("a head of %d bytes: %d, %d", size, n, status)
		}
	}
}

// P12.3: of responses too: what is sent is read as it, by layer 8, and nothing is left for another.
func TestResponseReadAgain(t *testing.T) {
	for _, code := range []int{200, 204, 304, 404, 599} {
		for _, method := range []string{"GET", "HEAD"} {
			for _, closes := range []bool{false, true} {
				for _, fs := range [][]api.Field{nil, of("Transfer-Encoding", "chunked"), of("Content-Length", "2", "a", "b"), of("Connection", "a, close", "a", "b", "Content-Length", "9")} {
					sent := scrub.Response(api.Resp{Code: code, Reason: "r", Fields: fs, Minor: 1, Body: []byte("ab")}, method, closes)
					wire := http.WriteResponse(sent)
					again, n, right := http.Response(append(wire, "HTTP/1.1"...), method, false)
					if !right || n != len(wire) || !sameResp(again, sent) || frame.Closes(again.Fields, again.Minor) != closes {
						t.Errorf("sent %+v: read again %+v, %d, %v", wire, again, n, right)
					}
				}
			}
		}
	}
}

// A message and a configuration that name very many are scrubbed soon enough.
func TestMany(t *testing.T) {
	r, c := api.Req{Method: "GET"}, conf.Default()
	for i := range 30000 {
		name := "n" + strconv.Itoa(i)
		r.Fields = append(r.Fields, of(name, "v", "Connection", "m"+name, "x-tollbar-"+name, "v")...)
		c.Set, c.Drop = append(c.Set, of("s"+name, "v")...), append(c.Drop, "d"+name)
	}
	if got := scrub.Request(r, c, "h", "/"); len(got.Fields) != 60001 || got.Fields[30000].Name != "n29999" {
		t.Errorf("%d fields", len(got.Fields))
	}
	if got := scrub.Response(api.Resp{Code: 200, Fields: r.Fields}, "GET", false); len(got.Fields) != 30001 {
		t.Errorf("%d fields", len(got.Fields))
	}
}

// shared tells whether two texts have memory in common.
func shared(a, b string) bool {
	if a == "" || b == "" {
		return false
	}
	from, to := uintptr(unsafe.Pointer(unsafe.StringData(a))), uintptr(unsafe.Pointer(unsafe.StringData(b)))
	return from < to+uintptr(len(b)) && to < from+uintptr(len(a))
}

// textsOf is the texts of fields.
func textsOf(fs []api.Field) []string {
	var texts []string
	for _, f := range fs {
		texts = append(texts, f.Name, f.Value)
	}
	return texts
}

// holdNew asks that no answered text has memory of one that was handed in.
func holdNew(t *testing.T, answered, handed []string) {
	t.Helper()
	for _, a := range answered {
		for _, h := range handed {
			if shared(a, h) {
				t.Errorf("%q has memory of %q", a, h)
			}
		}
	}
}

// cloned is a text of its own memory.
func cloned(s string) string { return strings.Clone(s) }

// P12.4: what is answered is new memory.
func TestNewMemory(t *testing.T) {
	host, target, method, reason := cloned("some.host"), cloned("/target"), cloned("POST"), cloned("Reason")
	fs := of(cloned("Name"), cloned("value"), cloned("Connection"), cloned("x, y"), cloned("Other"), cloned("one"))
	c := set(of(cloned("Set"), cloned("it")), cloned("Drop"))
	body := []byte("body of some bytes")
	handed := slices.Concat(textsOf(fs), textsOf(c.Set), c.Drop, []string{host, target, method, reason})

	r := api.Req{Method: method, Target: target, Fields: fs, Body: body}
	sent := scrub.Request(r, c, host, target)
	holdNew(t, append(textsOf(sent.Fields), sent.Method, sent.Target), handed)
	p := api.Resp{Code: 200, Reason: reason, Fields: fs, Body: body}
	told := scrub.Response(p, method, true)
	holdNew(t, append(textsOf(told.Fields), told.Reason), handed)

	wantSent, wantTold := wantRequest(r, c, host, target), wantResponse(p, method, true)
	wantSent.Body, wantTold.Body = []byte(string(body)), []byte(string(body))
	for i := range body {
		body[i] = '!'
	}
	for i := range fs {
		fs[i] = api.Field{Name: "over", Value: "over"}
	}
	c.Set[0], c.Drop[0] = api.Field{}, ""
	if !sameReq(sent, wantSent) || !sameResp(told, wantTold) {
		t.Errorf("written over behind the call: %+v, %+v", sent, told)
	}
	own := scrub.Own(404, true)
	own.Fields[0].Value, own.Fields[1].Value = "over", "over"
	if again := scrub.Own(404, true); !slices.Equal(again.Fields, of("Content-Length", "0", "Connection", "close")) {
		t.Errorf("Own, again: %+v", again)
	}
}

// P12.4: arguments stay, the memory behind a list's length too.
func TestArgumentsStay(t *testing.T) {
	fs := of("A", "1", "Connection", "b", "b", "2", "c", "3", "behind", "", "behind", "", "behind", "")
	put := of("S", "1", "behind", "", "behind", "")
	drop := []string{"c", "behind", "behind"}
	body := []byte("body, behind")
	before := []any{slices.Clone(fs), slices.Clone(put), slices.Clone(drop), slices.Clone(body)}
	for range 2 {
		c := set(put[:1], drop[:1]...)
		if got := scrub.Request(api.Req{Method: "GET", Fields: fs[:4], Body: body[:4]}, c, "h", "/"); !slices.Equal(got.Fields, of("Host", "h", "A", "1", "S", "1", "Content-Length", "4")) || string(got.Body) != "body" {
			t.Errorf("Request = %+v", got)
		} else {
			_ = append(got.Body, "over"...)
			_ = append(got.Fields, of("over", "over")...)
		}
		for _, method := range []string{"GET", "HEAD"} {
			got := scrub.Response(api.Resp{Code: 200, Fields: fs[:4], Body: body[:4]}, method, true)
			_ = append(got.Body, "over"...)
			_ = append(got.Fields, of("over", "over")...)
		}
		if !scrub.Hop(fs[:2], "B") || scrub.Hop(fs[:1], "B") {
			t.Error("Hop")
		}
	}
	if after := []any{fs, put, drop, body}; !reflect.DeepEqual(after, before) {
		t.Errorf("changed: %q", after)
	}
}

// A list that is nil and one that is empty are the same thing.
func TestEmpty(t *testing.T) {
	none := api.Conf{Set: []api.Field{}, Drop: []string{}}
	a := scrub.Request(api.Req{Method: "GET"}, api.Conf{}, "h", "/")
	b := scrub.Request(api.Req{Method: "GET", Fields: []api.Field{}, Body: []byte{}}, none, "h", "/")
	if !sameReq(a, b) || len(a.Fields) != 1 {
		t.Errorf("%+v, %+v", a, b)
	}
	p := scrub.Response(api.Resp{Code: 204}, "", false)
	q := scrub.Response(api.Resp{Code: 204, Fields: []api.Field{}, Body: []byte{}}, "", false)
	if !sameResp(p, q) || len(p.Fields) != 0 {
		t.Errorf("%+v, %+v", p, q)
	}
}
