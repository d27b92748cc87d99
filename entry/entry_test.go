package entry_test

import (
	"bytes"
	"math"
	"math/big"
	"math/rand"
	"regexp"
	"slices"
	"strconv"
	"strings"
	"testing"
	"unsafe"

	"tollbar/api"
	"tollbar/entry"
)

const (
	mostOfNumber = 1125899906842624
	mostOfConn   = 2147483647
	tokenSigns   = "abcdefghijklmnopqrstuvwxyzABCDEFGHIJKLMNOPQRSTUVWXYZ0123456789!#$%&'*+-.^_`|~"
)

// some is the chapter's example.
func some() api.Entry {
	return api.Entry{Seq: 1, At: 5, Took: 2, Conn: 7, Method: "GET", Target: "/a", Code: 200, Up: 1, Down: 30}
}

// parts is a record's numbers, each with its bounds and a call that turns it.
func parts() []struct {
	name        string
	least, most int64
	turn        func(e *api.Entry, n int64)
} {
	return []struct {
		name        string
		least, most int64
		turn        func(e *api.Entry, n int64)
	}{
		{"Seq", 1, mostOfNumber, func(e *api.Entry, n int64) { e.Seq = n }},
		{"At", 0, mostOfNumber, func(e *api.Entry, n int64) { e.At = n }},
		{"Took", 0, mostOfNumber, func(e *api.Entry, n int64) { e.Took = n }},
		{"Conn", 1, mostOfConn, func(e *api.Entry, n int64) { e.Conn = int(n) }},
		{"Code", 0, 999, func(e *api.Entry, n int64) { e.Code = int(n) }},
		{"Up", 0, mostOfNumber, func(e *api.Entry, n int64) { e.Up = int(n) }},
		{"Down", 0, mostOfNumber, func(e *api.Entry, n int64) { e.Down = int(n) }},
	}
}

// edges is the numbers at which something may turn.
func edges() []int64 {
	ns := []int64{math.MinInt64, math.MinInt64 + 1, -1 << 50, -1 << 31, -1000, math.MaxInt64 - 1, math.MaxInt64, 1 << 62, 1<<32 + 1, 1 << 53, 1e15, 1e18}
	for _, n := range []int64{0, 10, 99, 999, 1 << 31, 1 << 32, 1 << 50} {
		ns = append(ns, n-2, n-1, n, n+1, n+2)
	}
	return ns
}

// shape is a line's, but for the bounds of its numbers.
var shape = regexp.MustCompile("^(0|[1-9][0-9]*) (0|[1-9][0-9]*) (0|[1-9][0-9]*) (0|[1-9][0-9]*) ([a-zA-Z0-9!#$%&'*+\\-.^_`|~]{1,20}) ([!-~]{1,512}) (0|[1-9][0-9]*) (0|[1-9][0-9]*) (0|[1-9][0-9]*)\n$")

// wantRead says again, by another way, what the chapter says of Read.
func wantRead(b []byte) (api.Entry, api.Errno) {
	// A byte above 127 is no rune of its own to regexp, and stands in no line.
	if slices.ContainsFunc(b, func(c byte) bool { return c > 127 }) {
		return api.Entry{}, api.ErrForm
	}
	m := shape.FindSubmatch(b)
	if m == nil {
		return api.Entry{}, api.ErrForm
	}
	e := api.Entry{Method: string(m[5]), Target: string(m[6])}
	for i, p := range parts() {
		n, ok := new(big.Int).SetString(string(m[[]int{1, 2, 3, 4, 7, 8, 9}[i]]), 10)
		if !ok || n.Cmp(big.NewInt(p.least)) < 0 || n.Cmp(big.NewInt(p.most)) > 0 {
			return api.Entry{}, api.ErrForm
		}
		p.turn(&e, n.Int64())
	}
	return e, api.OK
}

// wantAll says again what the chapter says of All.
func wantAll(b []byte) ([]api.Entry, api.Errno) {
	var all []api.Entry
	for len(b) > 0 {
		n := bytes.IndexByte(b, 10) + 1
		if n == 0 {
			return nil, api.ErrForm
		}
		e, wrong := wantRead(b[:n])
		if wrong != api.OK {
			return nil, wrong
		}
		if len(all) > 0 && e.Seq-all[len(all)-1].Seq != 1 {
			return nil, api.ErrArg
		}
		all, b = append(all, e), b[n:]
	}
	return all, api.OK
}

// holdRead holds Read, and Right and Write of what it reads, against the chapter.
func holdRead(t *testing.T, b []byte) bool {
	t.Helper()
	got, wrong := entry.Read(b)
	if want, err := wantRead(b); got != want || wrong != err {
		t.Fatalf("Read(%.200q) = %+v, %d; want %+v, %d", b, got, wrong, want, err)
	}
	if wrong != api.OK {
		return false
	}
	if again, err := entry.Write(got); !entry.Right(got) || err != api.OK || !bytes.Equal(again, b) {
		t.Fatalf("%.200q is read, but written as %.200q, %d", b, again, err)
	}
	return true
}

// holdAll holds All against the chapter.
func holdAll(t *testing.T, b []byte) api.Errno {
	t.Helper()
	got, wrong := entry.All(b)
	if want, err := wantAll(b); !slices.Equal(got, want) || wrong != err {
		t.Fatalf("All(%.300q) = %+v, %d; want %+v, %d", b, got, wrong, want, err)
	}
	return wrong
}

// holdRecord holds Right, Write and the line's Read against whether a record is right.
func holdRecord(t *testing.T, e api.Entry, right bool) {
	t.Helper()
	b, wrong := entry.Write(e)
	if entry.Right(e) != right {
		t.Fatalf("Right(%.300q) = %v", texts(e), !right)
	}
	if !right {
		if b != nil || wrong != api.ErrArg {
			t.Fatalf("Write of %.300q, that isn't right, is %q, %d", texts(e), b, wrong)
		}
		// Nor is it read, told as it is.
		if _, wrong := entry.Read([]byte(strings.Join(texts(e), " ") + "\n")); wrong != api.ErrForm {
			t.Fatalf("the line of %.300q is read", texts(e))
		}
		return
	}
	if want := strings.Join(texts(e), " ") + "\n"; string(b) != want || wrong != api.OK {
		t.Fatalf("Write of %.300q is %.300q, %d", texts(e), b, wrong)
	}
	if got, wrong := entry.Read(b); got != e || wrong != api.OK {
		t.Fatalf("%.300q is read as %.300q, %d", b, texts(got), wrong)
	}
}

// texts is a record's words, right or not.
func texts(e api.Entry) []string {
	n := func(n int64) string { return strconv.FormatInt(n, 10) }
	return []string{n(e.Seq), n(e.At), n(e.Took), n(int64(e.Conn)), e.Method, e.Target, n(int64(e.Code)), n(int64(e.Up)), n(int64(e.Down))}
}

// P13.1, P13.2: the chapter's example.
func TestExample(t *testing.T) {
	line := "1 5 2 7 GET /a 200 1 30\n"
	if b, wrong := entry.Write(some()); string(b) != line || wrong != api.OK || !entry.Right(some()) {
		t.Errorf("Write = %q, %d", b, wrong)
	}
	if e, wrong := entry.Read([]byte(line)); e != some() || wrong != api.OK {
		t.Errorf("Read = %+v, %d", e, wrong)
	}
	if all, wrong := entry.All([]byte(line)); len(all) != 1 || all[0] != some() || wrong != api.OK {
		t.Errorf("All = %+v, %d", all, wrong)
	}
}

// P13.1, P13.2: each number at all edges, by itself and beside one that is wrong.
func TestNumbers(t *testing.T) {
	for _, p := range parts() {
		for _, n := range edges() {
			e := some()
			p.turn(&e, n)
			right := p.least <= n && n <= p.most
			holdRecord(t, e, right)
			for _, q := range parts() {
				for _, m := range []int64{q.least - 1, q.most + 1, q.least, q.most} {
					if x := e; q.name != p.name {
						q.turn(&x, m)
						holdRecord(t, x, right && q.least <= m && m <= q.most)
					}
				}
			}
		}
	}
	least := api.Entry{Seq: 1, Conn: 1, Method: "-", Target: "-"}
	holdRecord(t, least, true)
	most := api.Entry{Seq: mostOfNumber, At: mostOfNumber, Took: mostOfNumber, Conn: mostOfConn, Method: strings.Repeat("M", 20), Target: strings.Repeat("t", 512), Code: 999, Up: mostOfNumber, Down: mostOfNumber}
	holdRecord(t, most, true)
	holdRecord(t, api.Entry{}, false)
}

// P13.1, P13.2: methods and targets, of each byte and of each length.
func TestTexts(t *testing.T) {
	for i := range 256 {
		b := string([]byte{byte(i)})
		for _, s := range []string{b, "a" + b, b + "a", "a" + b + "a", b + b} {
			method, target := some(), some()
			method.Method, target.Target = s, s
			holdRecord(t, method, strings.Contains(tokenSigns, b))
			holdRecord(t, target, i >= 33 && i <= 126)
		}
	}
	for _, n := range []int{0, 1, 2, 19, 20, 21, 22, 255, 256, 276, 510, 511, 512, 513, 514, 1024, 1 << 20} {
		method, target := some(), some()
		method.Method, target.Target = strings.Repeat("m", n), strings.Repeat("/", n)
		holdRecord(t, method, n >= 1 && n <= 20)
		holdRecord(t, target, n >= 1 && n <= 512)
	}
	for _, s := range []string{"", " ", "GET ", " GET", "G ET", "GET\n", "\n", "a/b", "(a)", "a\"", "\u00e4", "\u212a", "a\x00"} {
		method := some()
		method.Method = s
		holdRecord(t, method, false)
	}
	for _, s := range []string{"", " ", "/ ", " /", "/ a", "/\n", "\t", "/\u00e4", "/\x00", "/\x7f"} {
		target := some()
		target.Target = s
		holdRecord(t, target, false)
	}
	// Texts that look like numbers, or like nothing, are texts.
	for _, s := range []string{"1", "007", "-", "-1", "0", "+", "*"} {
		e := some()
		e.Method, e.Target = s, s
		holdRecord(t, e, true)
	}
}

// P13.1: lines that there are none of.
func TestReadRefuses(t *testing.T) {
	for _, s := range []string{
		"", "\n", " ", " \n", "        \n", "x", "1", "1\n", "\r\n",
		// An end that is none, or more than one.
		"1 5 2 7 GET /a 200 1 30", "1 5 2 7 GET /a 200 1 30\r\n", "1 5 2 7 GET /a 200 1 30\r", "1 5 2 7 GET /a 200 1 30\n\n", "\n1 5 2 7 GET /a 200 1 30\n", "1 5 2 7 GET /a 200 1 30\n1 5 2 7 GET /a 200 1 30\n", "1 5 2 7 GET /a 200 1 30\n2 5 2 7 GET /a 200 1 30\n", "1 5 2 7 GET /a 200 1 30\nx", "1 5 2 7 GET /a 200 1 30 ", "1 5 2 7 GET /a 200 1 30\x00\n", "1 5 2 7 GET /a 200 1 30\n\x00",
		// Words too few, too many, empty ones, in another order.
		"1 5 2 7 GET /a 200 1\n", "5 2 7 GET /a 200 1 30\n", "1 5 2 7 GET 200 1 30\n", "1 5 2 7 /a 200 1 30\n", "1 5 2 7 GET /a 200 1 30 0\n", "0 1 5 2 7 GET /a 200 1 30\n", "1 5 2 7 GET /a b 200 1 30\n", "1 5 2 7 GET POST /a 200 1 30\n", "1 5 2 7 8 GET /a 200 1 30\n",
		"1  5 2 7 GET /a 200 1 30\n", " 1 5 2 7 GET /a 200 1 30\n", "1 5 2 7 GET /a 200 1 30 \n", "1 5 2 7  /a 200 1 30\n", "1 5 2 7 GET  200 1 30\n", " 5 2 7 GET /a 200 1 30\n", "1 5 2 7 GET /a 200 1 \n", "1 5 2 7 GET /a  200 1 30\n",
		"1\t5 2 7 GET /a 200 1 30\n", "1 5 2 7 GET\t/a 200 1 30\n", "1 5 2 7 GET /a 200 1\n30\n", "1 5 2 GET 7 /a 200 1 30\n", "1 5 2 7 GET 200 /a 1 30\n", "1 5 2 7 /a GET 200 1 30\n",
		// Numbers that are told otherwise.
		"01 5 2 7 GET /a 200 1 30\n", "1 05 2 7 GET /a 200 1 30\n", "1 5 00 7 GET /a 200 1 30\n", "1 5 2 07 GET /a 200 1 30\n", "1 5 2 7 GET /a 0200 1 30\n", "1 5 2 7 GET /a 200 01 30\n", "1 5 2 7 GET /a 200 1 030\n", "1 5 2 7 GET /a 00 1 30\n",
		"+1 5 2 7 GET /a 200 1 30\n", "1 +5 2 7 GET /a 200 1 30\n", "1 -0 2 7 GET /a 200 1 30\n", "1 5 -2 7 GET /a 200 1 30\n", "1 5 2 7 GET /a 200 1 -1\n", "0x1 5 2 7 GET /a 200 1 30\n", "1 5 2 7 GET /a 2_00 1 30\n", "1 5 2 7 GET /a 200 1 3e1\n", "1 5 2 7 GET /a 200 1 30.0\n", "a 5 2 7 GET /a 200 1 30\n", "1 5 2 7 GET /a f 1 30\n",
		// Numbers out of their range, such as wrap round too.
		"0 5 2 7 GET /a 200 1 30\n", "1 5 2 0 GET /a 200 1 30\n", "1 5 2 7 GET /a 1000 1 30\n", "1 5 2 2147483648 GET /a 200 1 30\n", "1 5 2 4294967303 GET /a 200 1 30\n", "1125899906842625 5 2 7 GET /a 200 1 30\n", "1 1125899906842625 2 7 GET /a 200 1 30\n", "1 5 1125899906842625 7 GET /a 200 1 30\n", "1 5 2 7 GET /a 200 1125899906842625 30\n", "1 5 2 7 GET /a 200 1 1125899906842625\n",
		"18446744073709551617 5 2 7 GET /a 200 1 30\n", "1 5 2 7 GET /a 200 1 18446744073709551646\n", "1 999999999999999999 2 7 GET /a 200 1 30\n", "1 1000000000000000000 2 7 GET /a 200 1 30\n", "1 9223372036854775808 2 7 GET /a 200 1 30\n", "1 5 2 7 GET /a 18446744073709551816 1 30\n",
		// Texts that may not be.
		"1 5 2 7 G(T /a 200 1 30\n", "1 5 2 7 " + strings.Repeat("G", 21) + " /a 200 1 30\n", "1 5 2 7 GET /\xff 200 1 30\n", "1 5 2 7 GET /\x7f 200 1 30\n", "1 5 2 7 GET " + strings.Repeat("/", 513) + " 200 1 30\n", "1 5 2 7 G\xff /a 200 1 30\n",
	} {
		if e, wrong := entry.Read([]byte(s)); e != (api.Entry{}) || wrong != api.ErrForm {
			t.Errorf("Read(%.60q) = %+v, %d", s, e, wrong)
		}
		if holdRead(t, []byte(s)) {
			t.Errorf("%.60q is read", s)
		}
	}
}

// P13.1, P13.2: lines with one byte other, one more, one less, cut off anywhere.
func TestReadEveryByte(t *testing.T) {
	read := 0
	for _, line := range []string{"1 5 2 7 GET /a 200 1 30\n", "10 0 0 2147483647 - - 0 0 0\n", "1125899906842624 1125899906842623 9 1 0 0 999 64 1125899906842624\n"} {
		for i := range len(line) + 1 {
			holdRead(t, []byte(line[:i]))
			holdRead(t, []byte(line[i:]))
			for c := range 256 {
				more := line[:i] + string([]byte{byte(c)}) + line[i:]
				if holdRead(t, []byte(more)) {
					read++
				}
				if i < len(line) && holdRead(t, []byte(line[:i]+string([]byte{byte(c)})+line[i+1:])) {
					read++
				}
			}
			if i < len(line) && holdRead(t, []byte(line[:i]+line[i+1:])) {
				read++
			}
		}
	}
	if read < 1000 {
		t.Errorf("only %d are read", read)
	}
}

// lines is lines of these numbers.
func lines(seqs ...int64) string {
	var s strings.Builder
	for _, n := range seqs {
		s.WriteString(strconv.FormatInt(n, 10) + " 5 2 7 GET /a 200 1 30\n")
	}
	return s.String()
}

// P13.1: logs, and the first line at which an error applies.
func TestAll(t *testing.T) {
	for _, x := range []struct {
		text string
		n    int
		want api.Errno
	}{
		{"", 0, api.OK}, {lines(1), 1, api.OK}, {lines(1, 2), 2, api.OK}, {lines(1, 2, 3, 4), 4, api.OK},
		// The first may be any.
		{lines(2), 1, api.OK}, {lines(9, 10, 11), 3, api.OK}, {lines(99, 100), 2, api.OK}, {lines(mostOfNumber), 1, api.OK}, {lines(mostOfNumber-1, mostOfNumber), 2, api.OK},
		{lines(1, 1), 0, api.ErrArg}, {lines(1, 3), 0, api.ErrArg}, {lines(2, 1), 0, api.ErrArg}, {lines(1, 2, 2), 0, api.ErrArg}, {lines(1, 2, 4), 0, api.ErrArg}, {lines(1, 2, 1), 0, api.ErrArg}, {lines(5, 4, 3), 0, api.ErrArg}, {lines(mostOfNumber, 1), 0, api.ErrArg}, {lines(mostOfNumber, mostOfNumber), 0, api.ErrArg},
		{lines(0), 0, api.ErrForm}, {lines(0, 1), 0, api.ErrForm}, {lines(-1, 0, 1), 0, api.ErrForm}, {lines(1, 0), 0, api.ErrForm}, {lines(mostOfNumber, mostOfNumber+1), 0, api.ErrForm}, {lines(mostOfNumber + 1), 0, api.ErrForm},
		{"x", 0, api.ErrForm}, {"\n", 0, api.ErrForm}, {lines(1) + "\n", 0, api.ErrForm}, {"\n" + lines(1), 0, api.ErrForm}, {lines(1) + "\n" + lines(2), 0, api.ErrForm}, {lines(1) + " " + lines(2), 0, api.ErrForm}, {lines(1) + "x", 0, api.ErrForm}, {lines(1) + "2", 0, api.ErrForm},
		{strings.TrimSuffix(lines(1), "\n"), 0, api.ErrForm}, {strings.TrimSuffix(lines(1, 2), "\n"), 0, api.ErrForm}, {strings.TrimSuffix(lines(1), "\n") + "\r\n", 0, api.ErrForm}, {strings.TrimSuffix(lines(1), "\n") + " " + lines(2), 0, api.ErrForm}, {lines(1) + "0" + lines(2), 0, api.ErrForm},
		// Both apply, at other lines: the first from the front.
		{lines(1, 1) + "x", 0, api.ErrArg}, {lines(1, 3) + "x\n" + lines(4), 0, api.ErrArg}, {lines(1) + "x\n" + lines(1), 0, api.ErrForm}, {"x\n" + lines(1, 1), 0, api.ErrForm}, {lines(1, 2) + "\n" + lines(9), 0, api.ErrForm}, {lines(1, 2, 9) + "\n", 0, api.ErrArg},
		// A line of a wrong number that isn't right otherwise.
		{lines(1) + strings.Replace(lines(1), "/a", "/ a", 1), 0, api.ErrForm}, {lines(1) + strings.Replace(lines(9), "200", "1000", 1), 0, api.ErrForm}, {lines(1) + strings.TrimSuffix(lines(1), "\n"), 0, api.ErrForm},
	} {
		all, wrong := entry.All([]byte(x.text))
		if len(all) != x.n || wrong != x.want || wrong != api.OK && all != nil {
			t.Errorf("All(%q) = %+v, %d", x.text, all, wrong)
		}
		holdAll(t, []byte(x.text))
	}
	if all, wrong := entry.All(nil); len(all) != 0 || wrong != api.OK {
		t.Errorf("All(nil) = %+v, %d", all, wrong)
	}
}

// chanceRecord is a right record.
func chanceRecord(rnd *rand.Rand) api.Entry {
	var e api.Entry
	for _, p := range parts() {
		n := p.least + rnd.Int63n(p.most-p.least+1)>>rnd.Intn(50)
		switch rnd.Intn(8) {
		case 0:
			n = p.least
		case 1:
			n = p.most
		}
		p.turn(&e, max(n, p.least))
	}
	method, target := make([]byte, 1+rnd.Intn(20)), make([]byte, 1+rnd.Intn([]int{4, 512}[rnd.Intn(2)]))
	for i := range method {
		method[i] = tokenSigns[rnd.Intn(len(tokenSigns))]
	}
	for i := range target {
		target[i] = byte(33 + rnd.Intn(94))
	}
	e.Method, e.Target = string(method), string(target)
	return e
}

// P13.1, P13.2: records by chance, and their lines, with bytes turned.
func TestChance(t *testing.T) {
	rnd := rand.New(rand.NewSource(13))
	for range 20000 {
		e := chanceRecord(rnd)
		holdRecord(t, e, true)
		b, _ := entry.Write(e)
		for range 3 {
			turned := bytes.Clone(b)
			turned[rnd.Intn(len(b))] = " 0123456789\nGa/\t-+"[rnd.Intn(18)]
			holdRead(t, turned)
		}
	}
}

// P13.1, P13.2: logs by chance, some of which have a fault.
func TestAllChance(t *testing.T) {
	rnd := rand.New(rand.NewSource(131))
	met := map[api.Errno]int{}
	for range 5000 {
		var b []byte
		var want []api.Entry
		first := 1 + rnd.Int63n(100)
		for i := range rnd.Intn(12) {
			e := chanceRecord(rnd)
			e.Seq = first + int64(i)
			line, _ := entry.Write(e)
			b, want = append(b, line...), append(want, e)
		}
		if all, wrong := entry.All(b); wrong != api.OK || !slices.Equal(all, want) {
			t.Fatalf("All(%q) = %+v, %d", b, all, wrong)
		}
		for range 3 {
			if len(b) > 0 {
				b[rnd.Intn(len(b))] = " 0123456789\nGa/"[rnd.Intn(15)]
			}
			met[holdAll(t, b)]++
		}
	}
	if met[api.OK] < 1000 || met[api.ErrForm] < 1000 || met[api.ErrArg] < 10 {
		t.Errorf("%v", met)
	}
}

// P13.1: what is great is read, or refused, all the same.
func TestGreat(t *testing.T) {
	for _, s := range []string{" ", "\n", "1", "0", "1 ", "a", "\x00", "1 5 2 7 GET /a 200 1 30 ", "1\n"} {
		b := bytes.Repeat([]byte(s), 1<<20)
		if e, wrong := entry.Read(b); e != (api.Entry{}) || wrong != api.ErrForm {
			t.Errorf("Read of many %q is %d", s, wrong)
		}
		if all, wrong := entry.All(b); all != nil || wrong != api.ErrForm {
			t.Errorf("All of many %q is %d", s, wrong)
		}
	}
	var seqs []int64
	for i := range int64(100000) {
		seqs = append(seqs, i+9)
	}
	all, wrong := entry.All([]byte(lines(seqs...)))
	if wrong != api.OK || len(all) != len(seqs) || all[99999].Seq != 100008 {
		t.Errorf("a long log: %d, %d", len(all), wrong)
	}
	seqs[99999]--
	if all, wrong := entry.All([]byte(lines(seqs...))); wrong != api.ErrArg || all != nil {
		t.Errorf("a long log, the last one wrong: %d, %d", len(all), wrong)
	}
}

// shared tells whether a text stands in the memory of bytes.
func shared(s string, b []byte) bool {
	from, to := uintptr(unsafe.Pointer(unsafe.StringData(s))), uintptr(unsafe.Pointer(unsafe.SliceData(b)))
	return s != "" && from < to+uintptr(cap(b)) && to < from+uintptr(len(s))
}

// P13.3: what is answered shares no memory with what is handed in.
func TestNewMemory(t *testing.T) {
	text := lines(1, 2, 3)
	b := []byte(text)
	one := len(lines(1))
	e, _ := entry.Read(b[:one])
	all, _ := entry.All(b)
	if shared(e.Method, b) || shared(e.Target, b) || slices.ContainsFunc(all, func(e api.Entry) bool { return shared(e.Method, b) || shared(e.Target, b) }) {
		t.Error("a record stands in the bytes that it was read of")
	}
	for i := range b {
		b[i] = 'x'
	}
	if want, _ := wantAll([]byte(text)); e != some() || !slices.Equal(all, want) {
		t.Errorf("%+v, %+v, when the bytes are written over", e, all)
	}
	method, target := strings.Clone("GET"), strings.Clone("/a")
	e.Method, e.Target = method, target
	first, _ := entry.Write(e)
	second, _ := entry.Write(e)
	if shared(method, first) || shared(target, first) {
		t.Error("a line stands in its record's memory")
	}
	for i := range first[:cap(first)] {
		first[:cap(first)][i] = 'x'
	}
	if string(second) != lines(1) || e != some() {
		t.Errorf("%q, %+v, when another line is written over", second, e)
	}
	if third, _ := entry.Write(e); string(third) != lines(1) {
		t.Errorf("%q, when another line is written over", third)
	}
	again, _ := entry.All([]byte(text))
	other, _ := entry.All([]byte(text))
	clear(again[:cap(again)])
	if want, _ := wantAll([]byte(text)); !slices.Equal(other, want) {
		t.Errorf("%+v, when another log is written over", other)
	}
}

// P13.3: arguments stay, and what is behind a list's length isn't looked at.
func TestArgumentsStay(t *testing.T) {
	for _, text := range []string{lines(1, 2, 3), lines(1, 1, 1), lines(1) + "x" + lines(2), "", "x"} {
		for n := range len(text) + 1 {
			b := []byte(text)
			part := b[:n]
			e, wrong := entry.Read(part)
			all, err := entry.All(part)
			if string(b) != text {
				t.Fatalf("%q is %q now", text, b)
			}
			wantE, wantWrong := wantRead([]byte(text[:n]))
			want, wantErr := wantAll([]byte(text[:n]))
			if e != wantE || wrong != wantWrong || !slices.Equal(all, want) || err != wantErr {
				t.Fatalf("%d bytes of %q: %d, %d", n, text, wrong, err)
			}
		}
	}
}
