package frame_test

import (
	"math"
	"math/big"
	"slices"
	"strings"
	"testing"

	"tollbar/api"
	"tollbar/frame"
)

const (
	size   = "Content-Length"
	coding = "Transfer-Encoding"
	hop    = "Connection"
)

var minors = []int{0, 1, 2, 9, -1, math.MinInt, math.MaxInt}

// of is fields of these names and values, one behind the other.
func of(pairs ...string) []api.Field {
	var fs []api.Field
	for i := 0; i < len(pairs); i += 2 {
		fs = append(fs, api.Field{Name: pairs[i], Value: pairs[i+1]})
	}
	return fs
}

// body is what Request answers, told what Response answers.
type body struct {
	n      int
	coded  bool
	status int
}

type told struct {
	kind, n int
	right   bool
}

func request(fs []api.Field, minor int) body {
	n, coded, status := frame.Request(fs, minor)
	return body{n, coded, status}
}

func response(method string, code, minor int, fs []api.Field) told {
	kind, n, right := frame.Response(method, api.Resp{Code: code, Minor: minor, Fields: fs})
	return told{kind, n, right}
}

// lower is a text with A to Z as a to z, and no other sign changed.
func lower(s string) string {
	b := []byte(s)
	for i, c := range b {
		if strings.IndexByte("ABCDEFGHIJKLMNOPQRSTUVWXYZ", c) >= 0 {
			b[i] = c | 32
		}
	}
	return string(b)
}

// partsOf says again what layer 4's List says; how many fields have the name, too.
func partsOf(fs []api.Field, name string) (int, []string) {
	count := 0
	var parts []string
	for _, f := range fs {
		if lower(f.Name) != lower(name) {
			continue
		}
		count++
		for part := range strings.SplitSeq(f.Value, ",") {
			if part = strings.Trim(part, "\t "); part != "" {
				parts = append(parts, part)
			}
		}
	}
	return count, parts
}

// sameNumber says again what the chapter's Words say of the length.
func sameNumber(parts []string) (*big.Int, bool) {
	var all *big.Int
	for _, part := range parts {
		if len(part) > 18 || strings.Trim(part, "0123456789") != "" {
			return nil, false
		}
		n, _ := new(big.Int).SetString(part, 10)
		if all != nil && all.Cmp(n) != 0 {
			return nil, false
		}
		all = n
	}
	return all, all != nil
}

// wantRequest says again, in the chapter's order, what it says of Request.
func wantRequest(fs []api.Field, minor int) body {
	lengths, numbers := partsOf(fs, size)
	codings, names := partsOf(fs, coding)
	if lengths > 0 && codings > 0 {
		return body{status: 400}
	}
	if codings > 0 && minor == 0 {
		return body{status: 400}
	}
	if codings > 0 {
		if len(names) != 1 || lower(names[0]) != "chunked" {
			return body{status: 501}
		}
		return body{coded: true}
	}
	if lengths == 0 {
		return body{}
	}
	n, one := sameNumber(numbers)
	if !one {
		return body{status: 400}
	}
	if n.Cmp(big.NewInt(4096)) > 0 {
		return body{status: 413}
	}
	return body{n: int(n.Int64())}
}

// wantResponse says again what the chapter says of a Response that isn't None.
func wantResponse(fs []api.Field, minor int) told {
	lengths, numbers := partsOf(fs, size)
	codings, names := partsOf(fs, coding)
	n, one := sameNumber(numbers)
	switch {
	case lengths > 0 && codings > 0:
		return told{}
	case codings > 0 && (minor == 0 || len(names) != 1 || lower(names[0]) != "chunked"):
		return told{}
	case codings > 0:
		return told{2, 0, true}
	case lengths > 0 && (!one || n.Cmp(big.NewInt(4096)) > 0):
		return told{}
	case lengths > 0:
		return told{1, int(n.Int64()), true}
	}
	return told{3, 0, true}
}

// check holds both calls against the second reading.
func check(t *testing.T, fs []api.Field, minor int) {
	t.Helper()
	if got, want := request(fs, minor), wantRequest(fs, minor); got != want {
		t.Fatalf("Request(%.80q, %d) = %v, want %v", fs, minor, got, want)
	}
	if got, want := response("GET", 200, minor, fs), wantResponse(fs, minor); got != want {
		t.Fatalf("Response(GET, 200, %.80q, %d) = %v, want %v", fs, minor, got, want)
	}
	if got := response("HEAD", 200, minor, fs); got != (told{0, 0, true}) {
		t.Fatalf("Response(HEAD, 200, %.80q, %d) = %v", fs, minor, got)
	}
}

// P7.1: the kinds are the numbers that the chapter names.
func TestKinds(t *testing.T) {
	if got := [4]int{frame.None, frame.Sized, frame.Chunked, frame.ToEnd}; got != [4]int{0, 1, 2, 3} {
		t.Errorf("the kinds are %v", got)
	}
}

// P7.1: lengths, and what is none; with them a response is Sized, or isn't right.
func TestLengths(t *testing.T) {
	many := slices.Repeat(of(size, "7"), 5000)
	for _, x := range []struct {
		fs   []api.Field
		want body
	}{
		{of(size, "0"), body{}}, {of(size, "5"), body{n: 5}}, {of(size, "5, 5"), body{n: 5}}, {of(size, "05"), body{n: 5}}, {of(size, "5,05,005"), body{n: 5}}, {of(size, ", 5 ,,\t5,"), body{n: 5}}, {of(size, "5", "X", "6", "CONTENT-length", "05"), body{n: 5}}, {of(size, "", "content-length", "5"), body{n: 5}}, {of(size, "5", size, " , "), body{n: 5}},
		{of(size, "4095"), body{n: 4095}}, {of(size, "4096"), body{n: 4096}}, {of(size, "000000000000004096"), body{n: 4096}}, {of(size, "4097"), body{status: 413}}, {of(size, "4097,4097"), body{status: 413}}, {of(size, "999999999999999999"), body{status: 413}}, {of(size, "4294967296"), body{status: 413}}, {of(size, "4294967301"), body{status: 413}}, {of(size, "000000000000000000"), body{}}, {many, body{n: 7}},
		{of(size, ""), body{status: 400}}, {of(size, " "), body{status: 400}}, {of(size, ","), body{status: 400}}, {of(size, "", size, ",\t,"), body{status: 400}}, {of(size, "+5"), body{status: 400}}, {of(size, "-5"), body{status: 400}}, {of(size, "-0"), body{status: 400}}, {of(size, "5 5"), body{status: 400}}, {of(size, "5;5"), body{status: 400}}, {of(size, "0x5"), body{status: 400}}, {of(size, "f"), body{status: 400}}, {of(size, "5.0"), body{status: 400}}, {of(size, "5_0"), body{status: 400}}, {of(size, "\u0665"), body{status: 400}}, {of(size, "5\n"), body{status: 400}}, {of(size, "5\v"), body{status: 400}}, {of(size, "5\u00a0"), body{status: 400}}, {of(size, "\x005"), body{status: 400}},
		{of(size, "0000000000000000005"), body{status: 400}}, {of(size, "1000000000000000000"), body{status: 400}}, {of(size, "18446744073709551621"), body{status: 400}}, {of(size, "4097, x"), body{status: 400}}, {of(size, "x, 4097"), body{status: 400}}, {of(size, "4097, 4098"), body{status: 400}}, {of(size, "0, x"), body{status: 400}}, {of(size, "x, 0"), body{status: 400}}, {of(size, "x, x"), body{status: 400}}, {append(many[:4999:4999], of(size, "8")...), body{status: 400}},
		{nil, body{}}, {[]api.Field{}, body{}}, {of("X", "5", "", "5", "Content-Length ", "5", " content-length", "6", "ContentLength", "x", "Content_Length", "x"), body{}}, {of("Content-Leng\u0165h", "x", "Content-\u013fength", "x"), body{}},
	} {
		for _, minor := range minors {
			if got := request(x.fs, minor); got != x.want {
				t.Errorf("Request(%.60q, %d) = %v, want %v", x.fs[:min(len(x.fs), 3)], minor, got, x.want)
			}
			check(t, x.fs, minor)
		}
	}
}

// P7.1: codings; with minor 0 there is none that may be.
func TestCodings(t *testing.T) {
	for _, x := range []struct {
		fs   []api.Field
		want body
	}{
		{of(coding, "chunked"), body{coded: true}}, {of("TRANSFER-encoding", "ChunkeD"), body{coded: true}}, {of(coding, ",\tchunked ,"), body{coded: true}}, {of(coding, "", "X", "gzip", coding, "chunked"), body{coded: true}}, {of(coding, "chunked", coding, ","), body{coded: true}},
		{of(coding, ""), body{status: 501}}, {of(coding, ", ,"), body{status: 501}}, {of(coding, "gzip"), body{status: 501}}, {of(coding, "identity"), body{status: 501}}, {of(coding, "gzip, chunked"), body{status: 501}}, {of(coding, "chunked, gzip"), body{status: 501}}, {of(coding, "chunked, chunked"), body{status: 501}}, {of(coding, "chunked", coding, "chunked"), body{status: 501}}, {of(coding, "chunked", coding, "x"), body{status: 501}}, {of(coding, "chunked;q=1"), body{status: 501}}, {of(coding, "\"chunked\""), body{status: 501}}, {of(coding, "chunked\v"), body{status: 501}}, {of(coding, "\x00chunked"), body{status: 501}}, {of(coding, "chunke"), body{status: 501}}, {of(coding, "chunkedd"), body{status: 501}}, {of(coding, "chun\u212aed"), body{status: 501}}, {of(coding, "5"), body{status: 501}},
		{of("X", "chunked", coding+" ", "chunked", "Tran\u017ffer-Encoding", "chunked"), body{}},
	} {
		for _, minor := range minors {
			want := x.want
			if minor == 0 && want != (body{}) {
				want = body{status: 400}
			}
			if got := request(x.fs, minor); got != want {
				t.Errorf("Request(%q, %d) = %v, want %v", x.fs, minor, got, want)
			}
			check(t, x.fs, minor)
		}
	}
}

// P7.1: responses that have no body whatever their fields are, and those beside them.
func TestResponse(t *testing.T) {
	odd := [][]api.Field{nil, of(size, "5"), of(size, "x"), of(size, "4097"), of(size, "5, 6"), of(coding, "chunked"), of(coding, "gzip"), of(size, "5", coding, "chunked")}
	none := told{0, 0, true}
	for _, fs := range odd {
		for _, minor := range minors {
			want := wantResponse(fs, minor)
			for code := -10; code < 1010; code++ {
				right := want
				if code < 200 || code == 204 || code == 304 {
					right = none
				}
				if got := response("GET", code, minor, fs); got != right {
					t.Fatalf("Response(GET, %d, %q, %d) = %v, want %v", code, fs, minor, got, right)
				}
			}
			for _, method := range []string{"", "GET", "head", "Head", "HEAD ", " HEAD", "HEA", "HEADS", "POST", "CONNECT", "\xff"} {
				if got := response(method, 200, minor, fs); got != want {
					t.Errorf("Response(%q, 200, %q, %d) = %v, want %v", method, fs, minor, got, want)
				}
			}
			for _, code := range []int{math.MinInt, -1, 0, 199, 200, 204, 304, 500, math.MaxInt} {
				if got := response("HEAD", code, minor, fs); got != none {
					t.Errorf("Response(HEAD, %d, %q, %d) = %v", code, fs, minor, got)
				}
			}
			if low, high := response("GET", math.MinInt, minor, fs), response("GET", math.MaxInt, minor, fs); low != none || high != want {
				t.Errorf("Response(GET, .., %q, %d) = %v, %v", fs, minor, low, high)
			}
		}
	}
	for _, x := range []struct {
		fs    []api.Field
		minor int
		want  told
	}{
		{nil, 0, told{frame.ToEnd, 0, true}}, {nil, 1, told{frame.ToEnd, 0, true}}, {of(size, "0"), 1, told{frame.Sized, 0, true}}, {of(size, "5"), 0, told{frame.Sized, 5, true}}, {of(size, "4096"), 1, told{frame.Sized, 4096, true}}, {of(coding, "CHUNKED"), 1, told{frame.Chunked, 0, true}},
		{of(size, "4097"), 1, told{}}, {of(size, ""), 1, told{}}, {of(size, "5, 6"), 1, told{}}, {of(coding, "chunked"), 0, told{}}, {of(coding, "gzip, chunked"), 1, told{}}, {of(coding, ""), 1, told{}}, {of(size, "5", coding, "chunked"), 1, told{}},
	} {
		if got := response("GET", 200, x.minor, x.fs); got != x.want {
			t.Errorf("Response(GET, 200, %q, %d) = %v, want %v", x.fs, x.minor, got, x.want)
		}
	}
}

// P7.1: a response's own words and bytes say nothing of its body's length.
func TestResponseBytes(t *testing.T) {
	r := api.Resp{Code: 200, Reason: "Content-Length: 9", Minor: 1, Body: []byte("abc")}
	if kind, n, right := frame.Response("GET", r); kind != frame.ToEnd || n != 0 || !right {
		t.Errorf("Response = %d, %d, %v", kind, n, right)
	}
}

// P7.1: each byte in a length, ahead of it, behind it and in a name, and in a coding.
func TestEveryByte(t *testing.T) {
	for i := range 256 {
		b := string([]byte{byte(i)})
		for _, s := range []string{b, b + "5", "5" + b, "5" + b + "5", "5," + b, b + ",5"} {
			check(t, of(size, s), 1)
		}
		for _, s := range []string{b, b + "chunked", "chunked" + b, "chun" + b + "ed", "chunked," + b} {
			check(t, of(coding, s), 1)
		}
		check(t, of("Content"+b+"Length", "5", "Tra"+b+"sfer-Encoding", "chunked"), 1)
		check(t, of(b+size, "x", size+b, "x", b+coding, "x", coding+b, "x"), 1)
	}
}

// P7.1: every short text of these signs, as one length and as two, and numbers around the bounds.
func TestEveryLength(t *testing.T) {
	signs := "059, +"
	var walk func(s string, left int)
	walk = func(s string, left int) {
		check(t, of(size, s), 1)
		check(t, of(size, s, "content-LENGTH", "5"), 0)
		for i := range len(signs) * min(left, 1) {
			walk(s+signs[i:i+1], left-1)
		}
	}
	walk("", 6)
	for digits := 1; digits < 40; digits++ {
		for _, s := range []string{strings.Repeat("9", digits), strings.Repeat("0", digits), "1" + strings.Repeat("0", digits-1), strings.Repeat("0", digits-1) + "7"} {
			check(t, of(size, s), 1)
			check(t, of(size, s+", "+s), 1)
			check(t, of(size, "5", size, s), 1)
		}
	}
	for n := range 5000 {
		check(t, of(size, big.NewInt(int64(n)).String()), 1)
	}
}

// P7.1, P7.2: all of up to three fields of these names and values.
func TestEveryFields(t *testing.T) {
	var all []api.Field
	for _, name := range []string{size, "content-length", "transfer-Encoding", "X"} {
		for _, value := range []string{"", "5", "05", "6", "5 ,5", "5,6", "+5", "4097", "chunked", "CHUNKED,", "gzip, chunked"} {
			all = append(all, api.Field{Name: name, Value: value})
		}
	}
	for _, minor := range []int{0, 1} {
		for _, a := range all {
			check(t, []api.Field{a}, minor)
			for _, b := range all {
				check(t, []api.Field{a, b}, minor)
				for _, c := range all {
					check(t, []api.Field{a, b, c}, minor)
				}
			}
		}
	}
}

// P7.2: with both lengths, or lengths that aren't the same, there is no body.
func TestTwoLengths(t *testing.T) {
	values := []string{"", ",", "0", "5", "5, 5", "4097", "x", "chunked", "gzip", "gzip, chunked"}
	refused := func(fs []api.Field, minor int) {
		t.Helper()
		if got := request(fs, minor); got != (body{status: 400}) {
			t.Errorf("Request(%q, %d) = %v", fs, minor, got)
		}
		if got := response("GET", 200, minor, fs); got != (told{}) {
			t.Errorf("Response(GET, 200, %q, %d) = %v", fs, minor, got)
		}
	}
	for _, minor := range minors {
		for _, a := range values {
			for _, b := range values {
				refused(of(size, a, coding, b), minor)
				refused(of("transfer-encoding", b, "X", "1", "CONTENT-LENGTH", a), minor)
			}
		}
		for _, s := range []string{"5, 6", "0, 5", "5, 0", "5, 5, 6", "6, 5, 5", "5, 50", "5, 4097", "4097, 5", "4097, 4098", "5, -5", "5, x", "5, 5x", "5, 4294967301"} {
			refused(of(size, s), minor)
			first, rest, _ := strings.Cut(s, ",")
			refused(of(size, first, "content-length", rest), minor)
			refused(of("content-length", rest, "X", "5", size, first), minor)
		}
	}
}

// P7.1: when the connection is closed behind a message.
func TestCloses(t *testing.T) {
	for _, x := range []struct {
		fs          []api.Field
		zero, other bool
	}{
		{nil, true, false}, {[]api.Field{}, true, false}, {of(hop, ""), true, false}, {of(hop, "x"), true, false}, {of("X", "close"), true, false}, {of("X", "keep-alive"), true, false},
		{of(hop, "close"), true, true}, {of("CONNECTION", "Close"), true, true}, {of(hop, "x,\tCLOSE ,"), true, true}, {of(hop, "x", "connection", "close"), true, true}, {of(hop, "close", hop, "x"), true, true},
		{of(hop, "keep-alive"), false, false}, {of("connection", "Keep-Alive"), false, false}, {of(hop, "x, KEEP-ALIVE"), false, false}, {of(hop, "", "X", "close", hop, "keep-alive"), false, false},
		{of(hop, "keep-alive, close"), true, true}, {of(hop, "close, keep-alive"), true, true}, {of(hop, "keep-alive", "connection", "close"), true, true},
		{of(hop, "closed"), true, false}, {of(hop, "clos"), true, false}, {of(hop, "close;"), true, false}, {of(hop, "\"close\""), true, false}, {of(hop, "clo\u017fe"), true, false}, {of(hop, "x close"), true, false}, {of(hop, "close\v"), true, false},
		{of(hop, "keepalive"), true, false}, {of(hop, "keep-alive;"), true, false}, {of(hop, "keep -alive"), true, false}, {of(hop, "\u212aeep-alive"), true, false}, {of("Keep-Alive", "keep-alive"), true, false}, {of("Proxy-Connection", "close"), true, false}, {of(hop+" ", "close"), true, false},
	} {
		for _, minor := range minors {
			want := x.other
			if minor == 0 {
				want = x.zero
			}
			if got := frame.Closes(x.fs, minor); got != want {
				t.Errorf("Closes(%q, %d) = %v", x.fs, minor, got)
			}
		}
	}
}

// The rule of every call: what is handed in stays as it is, the memory behind its length too; and the same is answered again.
func TestArgumentsStay(t *testing.T) {
	whole := of(size, " 05,5 ", hop, "X, Close", "content-length", "5", "behind", "the length")
	keep := slices.Clone(whole)
	r := api.Resp{Code: 200, Reason: "OK", Minor: 1, Fields: whole[:3], Body: []byte("abc")}
	for range 3 {
		if got := request(whole[:3], 1); got != (body{n: 5}) {
			t.Errorf("Request = %v", got)
		}
		if kind, n, right := frame.Response("GET", r); kind != frame.Sized || n != 5 || !right {
			t.Errorf("Response = %d, %d, %v", kind, n, right)
		}
		if !frame.Closes(whole[:3], 1) {
			t.Error("Closes")
		}
	}
	if !slices.Equal(whole, keep) || string(r.Body) != "abc" {
		t.Errorf("the arguments are now %q, %q", whole, r.Body)
	}
}
