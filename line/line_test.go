package line_test

import (
	"bytes"
	"math"
	"math/rand"
	"reflect"
	"strings"
	"testing"
	"unsafe"

	"tollbar/api"
	"tollbar/line"
)

const (
	letters = "abcdefghijklmnopqrstuvwxyzABCDEFGHIJKLMNOPQRSTUVWXYZ"
	tokens  = letters + "0123456789" + "!#$%&'*+-.^_`|~"
)

// cut is what Cut answers.
type cut struct {
	text string
	n    int
	e    api.Errno
}

func cutOf(b string, most int) cut {
	text, n, e := line.Cut([]byte(b), most)
	return cut{text, n, e}
}

// wantCut says again what the chapter says of Cut: where the first 13 or 10 is, and whether it comes in time.
func wantCut(b string, most int) cut {
	most = max(most, 0)
	at := strings.IndexAny(b, "\r\n")
	if at < 0 && len(b) <= most || at >= 0 && at <= most && b[at:] == "\r" {
		return cut{}
	}
	if at < 0 || at > most {
		return cut{e: api.ErrLong}
	}
	if !strings.HasPrefix(b[at:], "\r\n") {
		return cut{e: api.ErrForm}
	}
	return cut{text: b[:at], n: at + 2}
}

// words calls f with every text of at most n signs.
func words(signs string, n int, f func(string)) {
	f("")
	if n > 0 {
		for i := range len(signs) {
			words(signs, n-1, func(s string) { f(signs[i:i+1] + s) })
		}
	}
}

// P5.1: lines with their ends, without them yet, with wrong ones, and too long ones.
func TestCut(t *testing.T) {
	long := strings.Repeat("x", 5000)
	for _, x := range []struct {
		b    string
		most int
		want cut
	}{
		{"ab\r\ncd", 9, cut{"ab", 4, api.OK}}, {"ab\r\ncd", 2, cut{"ab", 4, api.OK}}, {"ab\r\ncd", 1, cut{e: api.ErrLong}}, {"ab\r\n\r\n", 9, cut{"ab", 4, api.OK}},
		{"\r\n", 0, cut{"", 2, api.OK}}, {"\r\n", math.MinInt, cut{"", 2, api.OK}}, {"\r\nab", -1, cut{"", 2, api.OK}}, {"", 0, cut{}}, {"", -1, cut{}}, {"", math.MaxInt, cut{}},
		{"ab", 2, cut{}}, {"abc", 2, cut{e: api.ErrLong}}, {"a", 0, cut{e: api.ErrLong}}, {"a", -5, cut{e: api.ErrLong}}, {"a", math.MinInt, cut{e: api.ErrLong}},
		{"ab\r", 2, cut{}}, {"ab\r", 1, cut{e: api.ErrLong}}, {"\r", 0, cut{}}, {"\r", -5, cut{}}, {"ab\rc", 2, cut{e: api.ErrForm}}, {"ab\rc", 1, cut{e: api.ErrLong}},
		{"a\nb", 9, cut{e: api.ErrForm}}, {"\n", -5, cut{e: api.ErrForm}}, {"ab\n", 2, cut{e: api.ErrForm}}, {"ab\n", 1, cut{e: api.ErrLong}}, {"\n\r\n", 9, cut{e: api.ErrForm}},
		{"\r\r\n", 9, cut{e: api.ErrForm}}, {"ab\r\r\n", 2, cut{e: api.ErrForm}}, {"ab\r\n\n", 9, cut{"ab", 4, api.OK}}, {"ab\r\nabcdefgh", 2, cut{"ab", 4, api.OK}},
		{"a\x00\xff\t\u00e9\r\n", 9, cut{"a\x00\xff\t\u00e9", 8, api.OK}}, {long + "\r\n", 5000, cut{long, 5002, api.OK}}, {long + "\r\n", 4999, cut{e: api.ErrLong}}, {long + "\r\n", math.MaxInt, cut{long, 5002, api.OK}},
		{long, 5000, cut{}}, {long, 4999, cut{e: api.ErrLong}}, {long + "\n", 4999, cut{e: api.ErrLong}}, {long + "\n", 5000, cut{e: api.ErrForm}},
	} {
		if got := cutOf(x.b, x.most); got != x.want {
			t.Errorf("Cut(%.20q, %d) = %.20v, want %.20v", x.b, x.most, got, x.want)
		}
	}
	if s, n, e := line.Cut(nil, 5); s != "" || n != 0 || e != api.OK {
		t.Errorf("Cut(nil) = %q, %d, %d", s, n, e)
	}
}

// P5.1: every byte but 13 and 10 may stand in a line, at each place.
func TestCutEveryByte(t *testing.T) {
	for i := range 256 {
		b := string([]byte{byte(i)})
		for _, s := range []string{b, b + "x", "x" + b, "x" + b + "y"} {
			want := cut{s, len(s) + 2, api.OK}
			if b == "\r" || b == "\n" {
				want = cut{e: api.ErrForm}
			}
			if got := cutOf(s+"\r\n", 3); got != want {
				t.Errorf("Cut(%q) = %v, want %v", s+"\r\n", got, want)
			}
		}
	}
}

// P5.1, P5.2: every short text; what is found of a beginning is found of each text that goes on.
func TestCutEveryText(t *testing.T) {
	for most := -1; most <= 6; most++ {
		words("ab\r\n", 6, func(s string) {
			got := cutOf(s, most)
			if want := wantCut(s, most); got != want {
				t.Fatalf("Cut(%q, %d) = %v, want %v", s, most, got, want)
			}
			for i := range s {
				if part := cutOf(s[:i], most); part != (cut{}) && part != got {
					t.Fatalf("Cut(%q, %d) = %v, but %v of %q", s, most, got, part, s[:i])
				}
			}
		})
	}
}

// P5.1: Cut keeps and changes nothing of what it is handed.
func TestCutIsNew(t *testing.T) {
	whole := []byte("some line\r\nmore")
	text, _, _ := line.Cut(whole[:11], 100)
	if string(whole) != "some line\r\nmore" {
		t.Errorf("the argument is now %q", whole)
	}
	clear(whole)
	if text != "some line" {
		t.Errorf("the line is now %q", text)
	}
}

// readRequest checks that all else is zero beside a status.
func readRequest(t *testing.T, s string) (api.Req, int) {
	t.Helper()
	r, code := line.Request(s)
	if code != 0 && !reflect.DeepEqual(r, api.Req{}) {
		t.Errorf("beside %d the request is %v", code, r)
	}
	if len(r.Fields) != 0 || len(r.Body) != 0 {
		t.Errorf("%.40q has fields or a body", s)
	}
	return r, code
}

// P5.1: requests' lines that are right.
func TestRequest(t *testing.T) {
	method, target := strings.Repeat("M", 20), "/"+strings.Repeat("t", api.MaxTarget-1)
	for _, x := range []struct {
		method, target, version string
		minor                   int
	}{
		{"GET", "/a", "HTTP/1.1", 1}, {"GET", "/a", "HTTP/1.0", 0}, {"OPTIONS", "*", "HTTP/1.1", 1}, {"OPTIONS", "/*", "HTTP/1.0", 0}, {"options", "/", "HTTP/1.1", 1},
		{"get", "/", "HTTP/1.1", 1}, {"!", "//", "HTTP/1.1", 1}, {method, target, "HTTP/1.1", 1}, {"G", "/!\"#~?a=b%20c;,:@[]{}\\", "HTTP/1.0", 0},
	} {
		s := x.method + " " + x.target + " " + x.version
		r, code := readRequest(t, s)
		if code != 0 || r.Method != x.method || r.Target != x.target || r.Minor != x.minor {
			t.Errorf("Request(%.60q) = %q, %.40q, %d and %d", s, r.Method, r.Target, r.Minor, code)
		}
	}
}

// P5.1: requests' lines that are wrong, each with the status that is named first.
func TestRequestWrong(t *testing.T) {
	long := "/" + strings.Repeat("t", api.MaxTarget)
	for _, x := range []struct {
		s    string
		code int
	}{
		{"", 400}, {" ", 400}, {"  ", 400}, {"   ", 400}, {"GET", 400}, {"GET /a", 400}, {"GET /a ", 400}, {"GET  HTTP/1.1", 400}, {" /a HTTP/1.1", 400}, {"/a HTTP/1.1", 400},
		{" GET /a HTTP/1.1", 400}, {"GET  /a HTTP/1.1", 400}, {"GET /a  HTTP/1.1", 400}, {"GET /a HTTP/1.1 ", 400}, {"GET /a HTTP/1.1 x", 400}, {"GET /a b HTTP/1.1", 400},
		{"GET\t/a\tHTTP/1.1", 400}, {"GET\t/a HTTP/1.1", 400}, {"GET /a\tHTTP/1.1", 400}, {"GET /a HTTP/1.1\r", 400}, {"GET /a HTTP/1.1\r\n", 400}, {"GET /a\x00 HTTP/1.1", 400},
		{strings.Repeat("M", 21) + " /a HTTP/1.1", 400}, {"G@T /a HTTP/1.1", 400}, {"G\u00e9 /a HTTP/1.1", 400}, {"GET: /a HTTP/1.1", 400},
		{"GET * HTTP/1.1", 400}, {"options * HTTP/1.1", 400}, {"OPTIONS ** HTTP/1.1", 400}, {"OPTIONS */ HTTP/1.1", 400}, {"OPTIONS a HTTP/1.1", 400}, {"OPTIONS  HTTP/1.1", 400},
		{"GET a HTTP/1.1", 400}, {"GET http://a/ HTTP/1.1", 400}, {"CONNECT a:80 HTTP/1.1", 400}, {"GET ?/ HTTP/1.1", 400}, {"GET /\u00e9 HTTP/1.1", 400}, {"GET /\x7f HTTP/1.1", 400},
		{"GET " + long + " HTTP/1.1", 414}, {"GET " + long + " HTTP/9.9", 414}, {"GET " + long + " x", 414}, {"GET " + long + " ", 414}, {"GET " + long, 400}, {"GET " + long + " HTTP/1.1 ", 400},
		{"G@T " + long + " HTTP/1.1", 400}, {"GET x" + long + " HTTP/1.1", 400}, {"GET " + long + "\x01 HTTP/1.1", 400}, {strings.Repeat("M", 21) + " " + long + " HTTP/1.1", 400},
		{"GET /a x", 400}, {"GET /a http/1.1", 400}, {"GET /a HTTP/", 400}, {"GET /a HTTP/1", 400}, {"GET /a HTTP/1.", 400}, {"GET /a HTTP/.1", 400}, {"GET /a HTTP/1,1", 400}, {"GET /a HTTP/1.10", 400}, {"GET /a HTTP/11.1", 400}, {"GET /a HTTP/a.1", 400}, {"GET /a HTTP/1.a", 400}, {"GET /a XHTTP/1.1", 400}, {"GET /a HTTP/1.1x", 400}, {"GET /a HTTP/1.\u0661", 400}, {"GET /a HTTP/-.1", 400},
		{"GET /a HTTP/2.0", 505}, {"GET /a HTTP/1.2", 505}, {"GET /a HTTP/0.9", 505}, {"GET /a HTTP/0.1", 505}, {"GET /a HTTP/9.9", 505}, {"GET /a HTTP/2.1", 505}, {"OPTIONS * HTTP/0.0", 505},
		{strings.Repeat(" ", 100000), 400}, {strings.Repeat("G", 100000), 400}, {"GET /" + strings.Repeat("t", 100000) + " HTTP/1.1", 414},
	} {
		if _, code := readRequest(t, x.s); code != x.code {
			t.Errorf("Request(%.40q) = %d, want %d", x.s, code, x.code)
		}
	}
}

// P5.1: each byte in a method, in a target and in a version.
func TestRequestEveryByte(t *testing.T) {
	for i := range 256 {
		b := string([]byte{byte(i)})
		target, version := 400, 400
		if i > 32 && i < 127 {
			target = 0
		}
		if i >= '0' && i <= '9' {
			version = 505
		}
		method := 400
		if strings.Contains(tokens, b) {
			method = 0
		}
		for s, want := range map[string]int{"G" + b + " /a HTTP/1.1": method, b + "G /a HTTP/1.1": method, "G /" + b + " HTTP/1.1": target, "G /" + b + "a HTTP/1.1": target, "G / HTTP/" + b + ".7": version, "G / HTTP/7." + b: version} {
			if _, code := readRequest(t, s); code != want {
				t.Errorf("Request(%q) = %d, want %d", s, code, want)
			}
		}
	}
}

// P5.1: status lines that are right.
func TestStatus(t *testing.T) {
	long := strings.Repeat("r", 100)
	for _, x := range []struct {
		s    string
		want api.Resp
	}{
		{"HTTP/1.1 200 OK", api.Resp{Code: 200, Reason: "OK", Minor: 1}}, {"HTTP/1.0 599", api.Resp{Code: 599}}, {"HTTP/1.1 100 ", api.Resp{Code: 100, Minor: 1}},
		{"HTTP/1.1 404 Not Found", api.Resp{Code: 404, Reason: "Not Found", Minor: 1}}, {"HTTP/1.1 200  a  b ", api.Resp{Code: 200, Reason: " a  b ", Minor: 1}}, {"HTTP/1.0 200 \t", api.Resp{Code: 200, Reason: "\t"}},
		{"HTTP/1.1 200 \u00e9\xff", api.Resp{Code: 200, Reason: "\u00e9\xff", Minor: 1}}, {"HTTP/1.1 200 " + long, api.Resp{Code: 200, Reason: long, Minor: 1}},
	} {
		if got, ok := line.Status(x.s); !ok || !reflect.DeepEqual(got, x.want) {
			t.Errorf("Status(%.40q) = %v, %v", x.s, got, ok)
		}
	}
	for code := range 1000 {
		digits := string([]byte{byte('0' + code/100), byte('0' + code/10%10), byte('0' + code%10)})
		r, ok := line.Status("HTTP/1.1 " + digits + " x")
		if want := code >= 100 && code <= 599; ok != want || ok && r.Code != code || !ok && r.Code != 0 {
			t.Errorf("Status of %s = %d, %v", digits, r.Code, ok)
		}
	}
}

// P5.1: status lines that are none, and answer nothing.
func TestStatusWrong(t *testing.T) {
	for _, s := range []string{
		"", " ", "HTTP/1.1", "HTTP/1.1 ", "HTTP/1.1  ", "HTTP/1.1 20", "HTTP/1.1 20 x", "HTTP/1.1 2000", "HTTP/1.1 0200 OK", "HTTP/1.1 200x", "HTTP/1.1 200\tOK", "HTTP/1.1\t200 OK", "HTTP/1.1  200 OK", " HTTP/1.1 200 OK", "HTTP/1.1200 OK",
		"HTTP/1.1 099 x", "HTTP/1.1 600 x", "HTTP/1.1 000 x", "HTTP/1.1 999", "HTTP/1.1 +20 x", "HTTP/1.1 -20 x", "HTTP/1.1 2a0 x", "HTTP/1.1 \u0662\u0660 x", "HTTP/1.1 2 0 x", "HTTP/1.1 OK",
		"HTTP/2.0 200 x", "HTTP/1.2 200 x", "HTTP/0.9 200 x", "http/1.1 200 x", "HTTP/1 200 x", "HTTP/1.10 200 x", "HTTP/2 200", "XHTTP/1.1 200 x", "200 OK", "GET / HTTP/1.1",
		"HTTP/1.1 200 " + strings.Repeat("r", 101), "HTTP/1.1 200 " + strings.Repeat(" ", 101), "HTTP/1.1 200 a\x00", "HTTP/1.1 200 \x7f", "HTTP/1.1 200 OK\r", "HTTP/1.1 200 OK\r\n", "HTTP/1.1 200 a\nb", "HTTP/1.1 200\r\n", "HTTP/1.1 200 " + strings.Repeat("r", 100000),
	} {
		if r, ok := line.Status(s); ok || !reflect.DeepEqual(r, api.Resp{}) {
			t.Errorf("Status(%.40q) = %v, %v", s, r, ok)
		}
	}
	for i := range 256 {
		want := i == 9 || i >= 32 && i != 127
		if _, ok := line.Status("HTTP/1.1 200 a" + string([]byte{byte(i)})); ok != want {
			t.Errorf("a reason with byte %d: %v", i, ok)
		}
	}
}

// P5.1: hosts, with ports and without, and texts that are none.
func TestHost(t *testing.T) {
	long := strings.Repeat("h", api.MaxHost)
	for _, x := range []struct{ s, want string }{
		{"A.b:80", "a.b"}, {"a", "a"}, {"a:", "a"}, {"a:0", "a"}, {"1.2.3.4", "1.2.3.4"}, {"1", "1"}, {"80", "80"}, {"A-Z.EXAMPLE:8080", "a-z.example"}, {".", "."}, {"-", "-"}, {"a.", "a."}, {"..", ".."}, {"a:00000", "a"},
		{"a:" + strings.Repeat("9", 1000), "a"}, {long, long}, {long + ":443", long}, {strings.ToUpper(long), long}, {long + ":", long},
		{"", ""}, {":", ""}, {":80", ""}, {"::", ""}, {"a::", ""}, {"a::80", ""}, {"a:1:2", ""}, {"a:b", ""}, {"a:80b", ""}, {"a:-1", ""}, {"a:+1", ""}, {"a:8 0", ""}, {"a: 80", ""}, {"a:80 ", ""}, {"a:80.", ""},
		{"a_b", ""}, {"a b", ""}, {" a", ""}, {"a ", ""}, {"a\t", ""}, {"a/b", ""}, {"a,b", ""}, {"u@a", ""}, {"*", ""}, {"[::1]", ""}, {"[::1]:80", ""}, {"::1", ""}, {"a\x00", ""}, {"a\n", ""},
		{"\u00e9", ""}, {"\u212a", ""}, {"a\xff", ""}, {"\xc3", ""}, {"\uff41", ""}, {"a:\u0661", ""}, {"a:\xff", ""}, {"\U0001d41a", ""}, {"\ufffd", ""},
		{long + "h", ""}, {long + "h:80", ""}, {strings.Repeat("h", 100000), ""}, {strings.Repeat(":", 100000), ""},
	} {
		if got, ok := line.Host(x.s); got != x.want || ok != (x.want != "") {
			t.Errorf("Host(%.40q) = %q, %v, want %q", x.s, got, ok, x.want)
		}
	}
}

// P5.1: each byte, at each place of a host, and of a port.
func TestHostEveryByte(t *testing.T) {
	for i := range 256 {
		b := string([]byte{byte(i)})
		may := strings.Contains(letters+"0123456789-.", b)
		for _, s := range []string{b, b + "x", "x" + b + "y", b + b + "z"} {
			if got, ok := line.Host(s); ok != may || ok && got != strings.ToLower(s) || !ok && got != "" {
				t.Errorf("Host(%q) = %q, %v", s, got, ok)
			}
		}
		may = strings.Contains("0123456789", b)
		for _, s := range []string{"h:1" + b, "h:" + b + "1", "h:" + b} {
			if got, ok := line.Host(s); ok != may || ok && got != "h" {
				t.Errorf("Host(%q) = %q, %v", s, got, ok)
			}
		}
	}
}

// P5.1: a line is made of every request and response, right or not.
func TestLines(t *testing.T) {
	for _, x := range []struct {
		r    api.Req
		want string
	}{
		{api.Req{Method: "GET", Target: "/a", Minor: 1}, "GET /a HTTP/1.1\r\n"}, {api.Req{}, "  HTTP/1.0\r\n"}, {api.Req{Method: "a b", Target: "\n", Minor: 12}, "a b \n HTTP/1.12\r\n"},
		{api.Req{Method: "P", Target: "*", Fields: []api.Field{{Name: "a", Value: "b"}}, Body: []byte("c")}, "P * HTTP/1.0\r\n"}, {api.Req{Minor: -1}, "  HTTP/1.-1\r\n"},
	} {
		if got := line.RequestLine(x.r); got != x.want {
			t.Errorf("RequestLine(%v) = %q, want %q", x.r, got, x.want)
		}
	}
	for _, x := range []struct {
		r    api.Resp
		want string
	}{
		{api.Resp{Code: 200, Reason: "OK", Minor: 1}, "HTTP/1.1 200 OK\r\n"}, {api.Resp{}, "HTTP/1.0 000 \r\n"}, {api.Resp{Code: 7, Reason: "x"}, "HTTP/1.0 007 x\r\n"}, {api.Resp{Code: 42}, "HTTP/1.0 042 \r\n"}, {api.Resp{Code: 99}, "HTTP/1.0 099 \r\n"}, {api.Resp{Code: 100}, "HTTP/1.0 100 \r\n"}, {api.Resp{Code: 999}, "HTTP/1.0 999 \r\n"},
		{api.Resp{Code: 1000, Reason: "a b", Minor: 2}, "HTTP/1.2 1000 a b\r\n"}, {api.Resp{Code: -7}, "HTTP/1.0 -007 \r\n"}, {api.Resp{Code: -1234}, "HTTP/1.0 -1234 \r\n"}, {api.Resp{Code: math.MinInt64}, "HTTP/1.0 -9223372036854775808 \r\n"},
		{api.Resp{Code: 204, Fields: []api.Field{{Name: "a", Value: "b"}}, Body: []byte("c")}, "HTTP/1.0 204 \r\n"},
	} {
		if got := line.StatusLine(x.r); got != x.want {
			t.Errorf("StatusLine(%v) = %q, want %q", x.r, got, x.want)
		}
	}
}

// P5.1: the reasons that are named, and one for all others.
func TestReason(t *testing.T) {
	named := map[int]string{
		200: "OK", 204: "No Content", 400: "Bad Request", 404: "Not Found", 413: "Content Too Large", 414: "URI Too Long", 421: "Misdirected Request", 429: "Too Many Requests",
		431: "Request Header Fields Too Large", 501: "Not Implemented", 502: "Bad Gateway", 503: "Service Unavailable", 504: "Gateway Timeout", 505: "HTTP Version Not Supported",
	}
	for _, code := range []int{math.MinInt, math.MaxInt, -200, 200 + 1<<32} {
		named[code] = "Status"
	}
	for code := -10; code < 1100; code++ {
		if named[code] == "" {
			named[code] = "Status"
		}
	}
	for code, want := range named {
		if got := line.Reason(code); got != want {
			t.Errorf("Reason(%d) = %q, want %q", code, got, want)
		}
	}
}

// pick is n bytes of a text.
func pick(rnd *rand.Rand, signs string, n int) string {
	b := make([]byte, n)
	for i := range b {
		b[i] = signs[rnd.Intn(len(signs))]
	}
	return string(b)
}

// span is the bytes from low to high.
func span(low, high int) string {
	var b []byte
	for i := low; i <= high; i++ {
		b = append(b, byte(i))
	}
	return string(b)
}

// P5.3: a right request's line is cut off and read back, whatever stands behind it.
func TestRequestIsReadBack(t *testing.T) {
	rnd := rand.New(rand.NewSource(5))
	for range 3000 {
		want := api.Req{Method: pick(rnd, tokens, 1+rnd.Intn(20)), Target: "/" + pick(rnd, span(33, 126), rnd.Intn(api.MaxTarget)), Minor: rnd.Intn(2)}
		if rnd.Intn(20) == 0 {
			want.Method, want.Target = "OPTIONS", "*"
		}
		told := line.RequestLine(want)
		text, n, e := line.Cut([]byte(told+pick(rnd, "ab\r\n", rnd.Intn(5))), len(told)-2)
		got, code := line.Request(text)
		if e != api.OK || n != len(told) || code != 0 || !reflect.DeepEqual(got, want) {
			t.Fatalf("%v is told as %q, and read as %v, %d", want, told, got, code)
		}
	}
}

// P5.3: a right response's line is cut off and read back, whatever stands behind it.
func TestResponseIsReadBack(t *testing.T) {
	rnd := rand.New(rand.NewSource(5))
	for code := 100; code <= 599; code++ {
		for _, reason := range []string{"", line.Reason(code), pick(rnd, "\t"+span(32, 126)+span(128, 255), 1+rnd.Intn(100))} {
			want := api.Resp{Code: code, Reason: reason, Minor: rnd.Intn(2)}
			told := line.StatusLine(want)
			text, n, e := line.Cut([]byte(told+pick(rnd, "ab\r\n", rnd.Intn(5))), len(told)-2)
			got, ok := line.Status(text)
			if e != api.OK || n != len(told) || !ok || !reflect.DeepEqual(got, want) {
				t.Fatalf("%v is told as %q, and read as %v, %v", want, told, got, ok)
			}
		}
	}
}

// shared tells whether two texts have memory in common.
func shared(a, b string) bool {
	if a == "" || b == "" {
		return false
	}
	from, to := uintptr(unsafe.Pointer(unsafe.StringData(a))), uintptr(unsafe.Pointer(unsafe.StringData(b)))
	return from < to+uintptr(len(b)) && to < from+uintptr(len(a))
}

// P5.1: no text of an answer shares memory with what was handed in, nor with another one.
func TestAnswersAreNew(t *testing.T) {
	request, status, host := "METHOD /target HTTP/1.1", "HTTP/1.1 200 Reason", "host.of.small.letters"
	r, _ := line.Request(request)
	s, _ := line.Status(status)
	h, _ := line.Host(host)
	told := []string{r.Method, r.Target, s.Reason, h}
	for i, a := range told {
		for _, b := range append([]string{request, status, host}, told[:i]...) {
			if shared(a, b) {
				t.Errorf("%q shares memory with %q", a, b)
			}
		}
	}
	body := bytes.Repeat([]byte("b"), 3)
	line.RequestLine(api.Req{Body: body[:1]})
	line.StatusLine(api.Resp{Body: body[:1]})
	if string(body) != "bbb" {
		t.Errorf("a body is now %q", body)
	}
}
