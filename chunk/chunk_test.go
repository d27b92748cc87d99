package chunk_test

import (
	"bytes"
	"fmt"
	"math"
	"math/rand"
	"regexp"
	"slices"
	"strconv"
	"strings"
	"testing"

	"tollbar/api"
	"tollbar/chunk"
)

// answer is what Decode answers.
type answer struct {
	body string
	n    int
	e    api.Errno
}

// notYet is that of a body that isn't whole.
var notYet = answer{}

func decode(t *testing.T, s string, most int) answer {
	t.Helper()
	body, n, e := chunk.Decode([]byte(s), most)
	if n == 0 && len(body) != 0 || e != api.OK && n != 0 {
		t.Fatalf("Decode(%.40q, %d) = %.40q, %d, %d", s, most, body, n, e)
	}
	return answer{string(body), n, e}
}

var (
	sizeLine = regexp.MustCompile(`^([0-9a-fA-F]{1,15})[ \t]*(;[\t\x20-\x7e\x80-\xff]*)?$`)
	anyField = regexp.MustCompile("^[!#$%&'*+.^_`|~0-9A-Za-z-]{1,100}:[\t\x20-\x7e]*$")
)

// first says again what Cut with 256 says: a line and what stands behind it, if there is one, or an error.
func first(s string) (string, string, bool, api.Errno) {
	at := strings.IndexAny(s, "\r\n")
	switch {
	case at < 0 && len(s) <= 256 || at >= 0 && at <= 256 && s[at:] == "\r":
		return "", "", false, api.OK
	case at < 0 || at > 256:
		return "", "", false, api.ErrLong
	case !strings.HasPrefix(s[at:], "\r\n"):
		return "", "", false, api.ErrForm
	}
	return s[:at], s[at+2:], true, api.OK
}

// want says again what the chapter says of Decode, with what has come of the body so far: for texts of ASCII, with short sizes and fields.
func want(all, s, body string, most int) answer {
	text, rest, found, e := first(s)
	if !found {
		return answer{e: e}
	}
	parts := sizeLine.FindStringSubmatch(text)
	if parts == nil {
		return answer{e: api.ErrSize}
	}
	size, _ := strconv.ParseInt(parts[1], 16, 64)
	switch {
	case int64(len(body))+size > int64(max(most, 0)):
		return answer{e: api.ErrLong}
	case size == 0:
		return wantTrailer(all, rest, body, 1)
	case int64(len(rest)) <= size:
		return notYet
	}
	behind := rest[size:]
	if behind[0] != '\r' || len(behind) > 1 && behind[1] != '\n' {
		return answer{e: api.ErrForm}
	}
	if len(behind) == 1 {
		return notYet
	}
	return want(all, behind[2:], body+rest[:size], most)
}

func wantTrailer(all, s, body string, number int) answer {
	text, rest, found, e := first(s)
	switch {
	case !found:
		return answer{e: e}
	case text == "":
		return answer{body: body, n: len(all) - len(rest)}
	case !anyField.MatchString(text):
		return answer{e: api.ErrForm}
	case number == 41:
		return answer{e: api.ErrMany}
	}
	return wantTrailer(all, rest, body, number+1)
}

// P6.1: bodies that are whole.
func TestDecode(t *testing.T) {
	fields := strings.Repeat("a:b\r\n", api.MaxFields)
	wide := strings.Repeat("e", 254)
	for _, x := range []struct {
		b    string
		most int
		body string
		n    int
	}{
		{"3;x=1\r\nabc\r\n0\r\na: b\r\n\r\nrest", 10, "abc", 23}, {"3;x=1\r\nabc\r\n0\r\n\r\n", 3, "abc", 17}, {"0\r\n\r\n", 0, "", 5}, {"0\r\n\r\n", -1, "", 5}, {"0\r\n\r\n", math.MinInt, "", 5}, {"0\r\n\r\n0\r\n\r\n", math.MaxInt, "", 5},
		{"00A \r\n0123456789\r\n0\r\n\r\n", 10, "0123456789", 23}, {"a\t \t\r\n0123456789\r\n0 \r\n\r\n", 10, "0123456789", 24}, {"1 ; x\r\na\r\n0;\r\n\r\n", 1, "a", 16}, {"000000000000000\r\n\r\n", 0, "", 19}, {"000000000000001\r\na\r\n0\r\n\r\n", 1, "a", 25},
		{"2\r\n\r\n\r\n1\r\n0\r\n1;;=\";\t\xff\r\n\x00\r\n00;\r\n\r\n\r\n", 9, "\r\n0\x00", 33}, {"1\r\na\r\n2\r\nbc\r\n3\r\ndef\r\n0\r\n\r\n", 6, "abcdef", 26},
		{"0\r\n" + fields + "\r\n", 0, "", 5 + len(fields)}, {"0\r\nA-b:  x y\t\r\nc:\r\n\r\n\r\n", 0, "", 21}, {"0\r\na:" + wide + "\r\n\r\n", 0, "", 263}, {"0;" + wide + "\r\n\r\n", 0, "", 260}, {"0" + strings.Repeat(" ", 255) + "\r\n\r\n", 0, "", 260},
	} {
		if got := decode(t, x.b, x.most); got != (answer{x.body, x.n, api.OK}) {
			t.Errorf("Decode(%.40q, %d) = %v, want %q, %d", x.b, x.most, got, x.body, x.n)
		}
	}
}

// P6.1: bodies that aren't whole yet.
func TestNotYet(t *testing.T) {
	for _, x := range []struct {
		b    string
		most int
	}{
		{"", 10}, {"", -1}, {"3", 10}, {"3\r", 10}, {"3\r\n", 10}, {"3\r\nab", 10}, {"3\r\nabc", 10}, {"3\r\nabc\r", 10}, {"3\r\nabc\r\n", 10}, {"3\r\nabc\r\n0", 10}, {"3\r\nabc\r\n0\r\n", 10}, {"0\r\n\r", 0}, {"0\r\na: b\r\n", 0}, {"0\r\na: b\r\n\r", 0}, {"0\r\nbad", 0},
		{"x", 10}, {";\x01", 10}, {"fffffff", 10}, {"a\r\n\r\n0\r\n\r\n", 10}, {"7fffffffffffff\r\n", math.MaxInt}, {"fffffffffffffff\r\nabc", math.MaxInt}, {strings.Repeat("x", 256), 10}, {strings.Repeat("x", 256) + "\r", 10},
		{"0\r\n" + strings.Repeat("x", 256), 10}, {"0\r\n" + strings.Repeat("a:b\r\n", 40), 10}, {"0\r\n" + strings.Repeat("a:b\r\n", 40) + "x", 10}, {"0\r\n" + strings.Repeat("a:b\r\n", 40) + "a:b\r", 10},
	} {
		if got := decode(t, x.b, x.most); got != notYet {
			t.Errorf("Decode(%.40q, %d) = %v", x.b, x.most, got)
		}
	}
	if body, n, e := chunk.Decode(nil, 5); body != nil || n != 0 || e != api.OK {
		t.Errorf("Decode(nil) = %q, %d, %d", body, n, e)
	}
}

// P6.1: each error, and where several apply the one that comes first from the front.
func TestErrors(t *testing.T) {
	fields := strings.Repeat("a:b\r\n", api.MaxFields)
	wide := strings.Repeat("e", 257)
	for _, x := range []struct {
		b    string
		most int
		e    api.Errno
	}{
		{"\n", 10, api.ErrForm}, {"3\nabc", 10, api.ErrForm}, {"3\rabc", 10, api.ErrForm}, {"x\n", 10, api.ErrForm}, {wide, 10, api.ErrLong}, {wide + "\r\n", 10, api.ErrLong}, {wide[1:] + "\r\n", 10, api.ErrSize}, {"3;" + wide, 10, api.ErrLong}, {"1\r\na\r\n" + wide, 10, api.ErrLong}, {"1\r\na\r\n\n", 10, api.ErrForm},
		{"\r\n", 10, api.ErrSize}, {"x\r\n", 10, api.ErrSize}, {"-1\r\n", 10, api.ErrSize}, {"+1\r\n", 10, api.ErrSize}, {"0x1\r\n", 10, api.ErrSize}, {"1h\r\n", 10, api.ErrSize}, {" 1\r\n", 10, api.ErrSize}, {"\t1\r\n", 10, api.ErrSize}, {"1 1\r\n", 10, api.ErrSize}, {" \r\n", 10, api.ErrSize}, {";\r\n", 10, api.ErrSize}, {" ;x\r\n", 10, api.ErrSize}, {";1\r\n", 10, api.ErrSize}, {"1,2\r\n", 10, api.ErrSize}, {"1:2\r\n", 10, api.ErrSize}, {"\u0661\r\n", 10, api.ErrSize}, {"1\v\r\n", 10, api.ErrSize}, {"1\u00a0\r\n", 10, api.ErrSize},
		{"3;\x01\r\n", 10, api.ErrSize}, {"3;a\x7f\r\nabc", 10, api.ErrSize}, {"0;\x00\r\n\r\n", 10, api.ErrSize}, {"3;a;\x1f\r\n", 10, api.ErrSize}, {"b;\x01\r\n", 10, api.ErrSize}, {"0000000000000000\r\n\r\n", 10, api.ErrSize}, {"1000000000000000\r\n", 10, api.ErrSize}, {"ffffffffffffffffffffffff\r\n", math.MaxInt, api.ErrSize}, {"1\r\na\r\nx\r\n", 1, api.ErrSize},
		{"b\r\n", 10, api.ErrLong}, {"1\r\n", 0, api.ErrLong}, {"1\r\n", -1, api.ErrLong}, {"1\r\n", math.MinInt, api.ErrLong}, {"fffffffffffffff\r\n", 10, api.ErrLong}, {"fffffffffffffff\r\n", 1<<60 - 2, api.ErrLong}, {"1\r\na\r\n1\r\nb\r\n", 1, api.ErrLong}, {"5\r\nabcde\r\n6\r\n", 10, api.ErrLong}, {"5\r\nabcde\r\nfffffffffffffff\r\n", 1<<60 - 1, api.ErrLong}, {"b\r\nabc\n", 10, api.ErrLong},
		{"3\r\nabcd\r\n", 10, api.ErrForm}, {"3\r\nabcd", 10, api.ErrForm}, {"3\r\nabc\n", 10, api.ErrForm}, {"3\r\nabc\rx", 10, api.ErrForm}, {"3\r\nabc\r\r\n", 10, api.ErrForm}, {"3\r\nabcx\n", 10, api.ErrForm}, {"3\r\nabc\n\r", 10, api.ErrForm}, {"1\r\na0\r\n\r\n", 10, api.ErrForm}, {"3\r\nabc;b\r\n", 3, api.ErrForm},
		{"0\r\nbad\r\n\r\n", 10, api.ErrForm}, {"0\r\n a: b\r\n\r\n", 10, api.ErrForm}, {"0\r\na : b\r\n", 10, api.ErrForm}, {"0\r\n:b\r\n", 10, api.ErrForm}, {"0\r\n \r\n", 10, api.ErrForm}, {"0\r\na:\x01\r\n", 10, api.ErrForm}, {"0\r\n" + wide[:101] + ":\r\n", 10, api.ErrForm}, {"0\r\na:b\n", 10, api.ErrForm}, {"0\r\n\n", 10, api.ErrForm}, {"0\r\n\rx", 10, api.ErrForm}, {"0\r\nabc\r\n0\r\n\r\n", 10, api.ErrForm},
		{"0\r\n" + wide, 10, api.ErrLong}, {"0\r\na:" + wide[:255] + "\r\n\r\n", 10, api.ErrLong}, {"0\r\n" + fields + wide, 10, api.ErrLong}, {"0\r\n" + fields + "a\nb", 10, api.ErrForm}, {"0\r\n" + fields + "bad\r\n", 10, api.ErrForm},
		{"0\r\n" + fields + "a:b\r\n", 10, api.ErrMany}, {"0\r\n" + fields + "a:b\r\n\r\n", 10, api.ErrMany}, {"0\r\n" + fields + "a:b\r\nbad\r\n", 10, api.ErrMany}, {"0\r\n" + fields + fields, 10, api.ErrMany}, {"0\r\nbad\r\n" + fields + fields, 10, api.ErrForm},
	} {
		if got := decode(t, x.b, x.most); got != (answer{e: x.e}) {
			t.Errorf("Decode(%.40q, %d) = %v, want %d", x.b, x.most, got, x.e)
		}
	}
}

// P6.1: each byte in a size, behind a ;, in a chunk, behind it, and in a trailer line: it is an error, or isn't whole yet.
func TestEveryByte(t *testing.T) {
	const digits = "0123456789abcdefABCDEF"
	for i := range 256 {
		b := string([]byte{byte(i)})
		value := i == 9 || i >= 32 && i != 127
		inSize := api.ErrSize
		if b == "\r" || b == "\n" {
			inSize = api.ErrForm
		}
		for _, x := range []struct {
			b   string
			may bool
			e   api.Errno
		}{
			{b + "\r\n", strings.Contains(digits, b), inSize}, {"2" + b + "\r\n", strings.Contains(digits+" \t;", b), inSize}, {"2" + b + "2\r\n", strings.Contains(digits+";", b), inSize},
			{"2;" + b + "\r\n", value, inSize}, {"2;x" + b + "y\r\n", value, inSize},
			{"3\r\na" + b + "c\r\n", true, api.OK}, {"1\r\na" + b, b == "\r", api.ErrForm}, {"1\r\na\r" + b, b == "\n", api.ErrForm}, {"0\r\na:" + b + "\r\n", value, api.ErrForm},
		} {
			right := notYet
			if !x.may {
				right.e = x.e
			}
			if got := decode(t, x.b, 5000); got != right {
				t.Errorf("Decode(%q) = %v, want %v", x.b, got, right)
			}
		}
	}
}

// P6.1, P6.3: every short text of these bytes; once a beginning is a body or an error, the whole is that.
func TestEveryText(t *testing.T) {
	signs := "01;\r\na: "
	var walk func(s string, left int, found answer)
	walk = func(s string, left int, found answer) {
		got := decode(t, s, 1)
		if right := want(s, s, "", 1); got != right {
			t.Fatalf("Decode(%q, 1) = %v, want %v", s, got, right)
		}
		if found != notYet && found != got {
			t.Fatalf("Decode(%q, 1) = %v, but %v of a beginning", s, got, found)
		}
		// Behind what is found already three more bytes say enough.
		if found == notYet && got != notYet {
			left = min(left, 3)
		}
		for i := range len(signs) * min(left, 1) {
			walk(s+signs[i:i+1], left-1, got)
		}
	}
	for _, ahead := range []string{"", "1\r\na\r", "0\r\n", "0\r\na:", "1\r\n0\r\n"} {
		walk(ahead, 6, notYet)
	}
}

// spoil is a text with some bytes written over, left out or put in.
func spoil(rnd *rand.Rand, s string) string {
	b := []byte(s)
	for range rnd.Intn(3) {
		at := rnd.Intn(len(b) + 1)
		put := []byte{"0123\r\n;a: \x00"[rnd.Intn(11)]}
		b = slices.Concat(b[:at], put[:rnd.Intn(2)], b[min(at+rnd.Intn(2), len(b)):])
	}
	return string(b)
}

// message is a body in chunks, with what may stand behind sizes, and trailer lines.
func message(rnd *rand.Rand) string {
	var s strings.Builder
	for range rnd.Intn(5) {
		data := strings.Repeat("ab\r\n0;", 6)[:1+rnd.Intn(30)]
		more := []string{"", " ", "\t ", ";", "; a=\"b\"", " ;x;y"}[rnd.Intn(6)]
		fmt.Fprintf(&s, "%s%x%s\r\n%s\r\n", strings.Repeat("0", rnd.Intn(3)), len(data), more, data)
	}
	s.WriteString("0\r\n")
	for range rnd.Intn(3) * rnd.Intn(22) {
		s.WriteString("a: b\r\n")
	}
	return s.String() + "\r\n"
}

// P6.1, P6.3: bodies, right and spoilt, from each of their beginnings on.
func TestBeginnings(t *testing.T) {
	rnd := rand.New(rand.NewSource(6))
	for range 1500 {
		s := spoil(rnd, message(rnd)+"0\r\n"[:rnd.Intn(4)])
		most := rnd.Intn(120)
		found := notYet
		for i := range len(s) + 1 {
			got := decode(t, s[:i], most)
			if right := want(s[:i], s[:i], "", most); got != right {
				t.Fatalf("Decode(%q, %d) = %v, want %v", s[:i], most, got, right)
			}
			if found != notYet && got != found {
				t.Fatalf("Decode(%q, %d) = %v, but %v of a beginning", s[:i], most, got, found)
			}
			found = got
		}
	}
}

// P6.1: the chunks in which a body is told.
func TestEncode(t *testing.T) {
	long := strings.Repeat("x", 300)
	for _, x := range []struct {
		body string
		size int
		want string
	}{
		{"", 5, "0\r\n\r\n"}, {"", 0, "0\r\n\r\n"}, {"", math.MinInt, "0\r\n\r\n"}, {"", math.MaxInt, "0\r\n\r\n"}, {"abc", 3, "3\r\nabc\r\n0\r\n\r\n"}, {"abc", 4, "3\r\nabc\r\n0\r\n\r\n"}, {"abc", math.MaxInt, "3\r\nabc\r\n0\r\n\r\n"}, {"abc", 2, "2\r\nab\r\n1\r\nc\r\n0\r\n\r\n"}, {"abcd", 2, "2\r\nab\r\n2\r\ncd\r\n0\r\n\r\n"},
		{"ab", 1, "1\r\na\r\n1\r\nb\r\n0\r\n\r\n"}, {"ab", 0, "1\r\na\r\n1\r\nb\r\n0\r\n\r\n"}, {"ab", -7, "1\r\na\r\n1\r\nb\r\n0\r\n\r\n"}, {"ab", math.MinInt, "1\r\na\r\n1\r\nb\r\n0\r\n\r\n"}, {"\r\n\x00\xff", 9, "4\r\n\r\n\x00\xff\r\n0\r\n\r\n"},
		{"abcdefghijkl", 11, "b\r\nabcdefghijk\r\n1\r\nl\r\n0\r\n\r\n"}, {long, 300, "12c\r\n" + long + "\r\n0\r\n\r\n"}, {long, 175, "af\r\n" + long[:175] + "\r\n7d\r\n" + long[175:] + "\r\n0\r\n\r\n"},
	} {
		if got := string(chunk.Encode([]byte(x.body), x.size)); got != x.want {
			t.Errorf("Encode(%.20q, %d) = %q, want %q", x.body, x.size, got, x.want)
		}
	}
	if got := string(chunk.Encode(nil, -1)); got != "0\r\n\r\n" {
		t.Errorf("Encode(nil) = %q", got)
	}
}

// P6.2: what is encoded is decoded, with as many bytes as it has and no fewer, whatever stands behind it.
func TestEncodedIsDecoded(t *testing.T) {
	rnd := rand.New(rand.NewSource(6))
	behind := []string{"", "\r\n", "\n", "0\r\n\r\n", "a: b\r\n\r\n", "x", "\x00", strings.Repeat("y", 5000)}
	for _, n := range []int{0, 1, 2, 9, 10, 15, 16, 17, 255, 256, 257, 1000, 4096, 5000} {
		body := make([]byte, n)
		rnd.Read(body)
		for _, size := range []int{math.MinInt, -1, 0, 1, 2, 3, 15, 16, 64, 255, 256, n - 1, n, n + 1, math.MaxInt} {
			told := chunk.Encode(body, size)
			for _, s := range behind {
				all := append(bytes.Clone(told), s...)
				if got := decode(t, string(all), n); got != (answer{string(body), len(told), api.OK}) {
					t.Fatalf("%d bytes in chunks of %d are %d bytes, of which %d are read, with %d", n, size, len(told), got.n, got.e)
				}
				if got := decode(t, string(all), n-1); n > 0 && got != (answer{e: api.ErrLong}) {
					t.Fatalf("%d bytes in chunks of %d, of at most %d: %d, %d", n, size, n-1, got.n, got.e)
				}
			}
		}
	}
}

// P6.4: answers share no memory with what is handed in, which stays as it is, the memory behind its length too.
func TestAnswersAreNew(t *testing.T) {
	const text = "3\r\nabc\r\n3\r\ndef\r\n0\r\n\r\nbehind the length"
	for _, most := range []int{6, 100, math.MaxInt} {
		whole := []byte(text)
		body, _, _ := chunk.Decode(whole[:21], most)
		again, _, _ := chunk.Decode(whole[:21], most)
		body = append(body, "more"...)
		clear(body[:cap(body)])
		if string(whole) != text {
			t.Errorf("the argument is now %q", whole)
		}
		clear(whole)
		if string(again) != "abcdef" {
			t.Errorf("the body is now %q", again)
		}
	}
	for _, size := range []int{1, 4, 100} {
		whole := []byte("abcdefgh")
		told, again := chunk.Encode(whole[:6], size), chunk.Encode(whole[:6], size)
		keep := string(again)
		clear(told[:cap(told)])
		if string(whole) != "abcdefgh" {
			t.Errorf("the argument is now %q", whole)
		}
		clear(whole)
		if string(again) != keep {
			t.Errorf("the chunks are now %q", again)
		}
	}
	one, two := chunk.Encode(nil, 1), chunk.Encode(nil, 1)
	clear(one[:cap(one)])
	if string(two) != "0\r\n\r\n" || string(chunk.Encode(nil, 1)) != "0\r\n\r\n" {
		t.Errorf("two answers share memory: %q", two)
	}
}

// P6.1: a body in very many chunks is read too.
func TestManyChunks(t *testing.T) {
	body := bytes.Repeat([]byte("z"), 200000)
	told := chunk.Encode(body, 1)
	if got := decode(t, string(told), len(body)); got.n != len(told) || got.body != string(body) {
		t.Errorf("%d bytes of %d are read", got.n, len(told))
	}
}
