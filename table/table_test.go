package table_test

import (
	"math"
	"math/rand"
	"reflect"
	"regexp"
	"slices"
	"strconv"
	"strings"
	"testing"
	"unsafe"

	"tollbar/api"
	"tollbar/table"
)

const first = "slot a 1000 2 2 5 5 64 a.example b\n"

// slot is a right slot of this name and these hosts.
func slot(name string, hosts ...string) api.Slot {
	return api.Slot{Name: name, Hosts: hosts, Quota: 1000, Conns: 2, Pool: 3, Rate: 5, Burst: 6, Quantum: 64}
}

// many is n right slots, each with as many hosts of as many bytes.
func many(n, hosts, bytes int) []api.Slot {
	var t []api.Slot
	for i := range n {
		s := slot("s" + strconv.Itoa(i))
		for j := range hosts {
			h := "h" + strconv.Itoa(i) + "-" + strconv.Itoa(j)
			s.Hosts = append(s.Hosts, h+strings.Repeat("x", max(bytes-len(h), 0)))
		}
		t = append(t, s)
	}
	return t
}

// deep is a table again, in memory of its own, an empty list of hosts as nil.
func deep(t []api.Slot) []api.Slot {
	var again []api.Slot
	for _, s := range t {
		s.Hosts = append([]string(nil), s.Hosts...)
		again = append(again, s)
	}
	return again
}

var (
	nameForm   = regexp.MustCompile(`^[a-z][a-z0-9-]{0,29}$`)
	hostForm   = regexp.MustCompile(`^[a-z0-9.-]{1,64}$`)
	numberForm = regexp.MustCompile(`^(0|[1-9][0-9]{0,17})$`)
)

// isRight says again what the chapter's Words say of a table.
func isRight(t []api.Slot) bool {
	var names, hosts []string
	for _, s := range t {
		ok := nameForm.MatchString(s.Name) && len(s.Hosts) > 0 && len(s.Hosts) < 9
		ok = ok && s.Quota > 255 && s.Quota < 1048577 && s.Conns > 0 && s.Conns < 65 && s.Pool > 0 && s.Pool < 65
		for _, n := range []int{s.Rate, s.Burst, s.Quantum} {
			ok = ok && n > 0 && n < 1048577
		}
		for _, h := range s.Hosts {
			ok = ok && hostForm.MatchString(h)
		}
		if !ok {
			return false
		}
		names, hosts = append(names, s.Name), append(hosts, s.Hosts...)
	}
	for _, list := range [][]string{names, hosts} {
		for i := range list {
			if slices.Contains(list[:i], list[i]) {
				return false
			}
		}
	}
	return len(t) > 0 && len(t) < 17
}

// text says again what the chapter's Words say of a table's text.
func text(t []api.Slot) string {
	s := ""
	for _, x := range t {
		s += "slot " + x.Name
		for _, n := range []int{x.Quota, x.Conns, x.Pool, x.Rate, x.Burst, x.Quantum} {
			s += " " + strconv.Itoa(n)
		}
		for _, h := range x.Hosts {
			s += " " + h
		}
		s += "\n"
	}
	return s
}

// read says again what the chapter says of Read.
func read(s string) ([]api.Slot, api.Errno) {
	if len(s) > 4096 {
		return nil, api.ErrLong
	}
	lines := strings.Split(s, "\n")
	if lines[len(lines)-1] != "" {
		return nil, api.ErrForm
	}
	var t []api.Slot
	for _, l := range lines[:len(lines)-1] {
		words := strings.Split(l, " ")
		if len(words) < 8 || words[0] != "slot" {
			return nil, api.ErrForm
		}
		var n [6]int
		for i, w := range words[2:8] {
			if !numberForm.MatchString(w) {
				return nil, api.ErrForm
			}
			n[i], _ = strconv.Atoi(w)
		}
		t = append(t, api.Slot{Name: words[1], Hosts: words[8:], Quota: n[0], Conns: n[1], Pool: n[2], Rate: n[3], Burst: n[4], Quantum: n[5]})
	}
	if !isRight(t) {
		return nil, api.ErrTable
	}
	return t, api.OK
}

// hold holds Right and Write of a table against the second reading, and what is written against Read (P9.1, P9.2).
func hold(t *testing.T, tab []api.Slot) {
	t.Helper()
	ahead := deep(tab)
	want := isRight(tab)
	if got := table.Right(tab); got != want {
		t.Errorf("Right(%+v) = %v", tab, got)
	}
	s, e := table.Write(tab)
	if want && (e != api.OK || s != text(tab)) || !want && (e != api.ErrTable || s != "") {
		t.Errorf("Write(%+v) = %q, %d", tab, s, e)
	}
	if !reflect.DeepEqual(deep(tab), ahead) {
		t.Errorf("%+v was changed to %+v", ahead, tab)
	}
	if want {
		got, e := table.Read(s)
		if len(s) <= 4096 && (e != api.OK || !reflect.DeepEqual(deep(got), ahead)) || len(s) > 4096 && (e != api.ErrLong || len(got) != 0) {
			t.Errorf("Read(%q) = %+v, %d", s, got, e)
		}
	}
}

// holdText holds Read of a text against the second reading, and what is read against Write (P9.1, P9.2).
func holdText(t *testing.T, s string) {
	t.Helper()
	want, f := read(s)
	got, e := table.Read(s)
	if e != f || !reflect.DeepEqual(deep(got), deep(want)) {
		t.Errorf("Read(%.200q) = %+v, %d; want %+v, %d", s, got, e, want, f)
	}
	if e == api.OK {
		if again, g := table.Write(got); again != s || g != api.OK {
			t.Errorf("Write of Read(%q) = %q, %d", s, again, g)
		}
	}
}

// P9.1: names, their edges, and each byte at each place.
func TestName(t *testing.T) {
	for _, x := range []struct {
		s    string
		want bool
	}{
		{"a", true}, {"z", true}, {"a-9", true}, {"a0", true}, {"a-", true}, {"a--", true},
		{strings.Repeat("z", 30), true}, {strings.Repeat("z", 31), false}, {"a" + strings.Repeat("9", 29), true},
		{"", false}, {"9", false}, {"-", false}, {"-a", false}, {"0a", false}, {"A", false}, {"aB", false},
		{"a.b", false}, {"a_b", false}, {" a", false}, {"a ", false}, {"a\n", false}, {"ä", false},
		{strings.Repeat("a", 1<<20), false},
	} {
		if got := table.Name(x.s); got != x.want {
			t.Errorf("Name(%.40q) = %v", x.s, got)
		}
	}
	for i := range 256 {
		b := string([]byte{byte(i)})
		for _, s := range []string{b, b + "x", "x" + b, "x" + b + "y", "x" + b + b, strings.Repeat("x", 29) + b, strings.Repeat("x", 30) + b} {
			if got := table.Name(s); got != nameForm.MatchString(s) {
				t.Errorf("Name(%q) = %v", s, got)
			}
		}
	}
}

// P9.1: each number of a slot about its bounds, and far beyond them.
func TestNumbers(t *testing.T) {
	for _, n := range []int{math.MinInt, -1 << 32, -1, 0, 1, 2, 63, 64, 65, 255, 256, 257, 1<<20 - 1, 1 << 20, 1<<20 + 1, 1<<32 + 256, math.MaxInt} {
		for i := range 6 {
			x := slot("b", "b")
			*[]*int{&x.Quota, &x.Conns, &x.Pool, &x.Rate, &x.Burst, &x.Quantum}[i] = n
			hold(t, []api.Slot{x})
			hold(t, []api.Slot{slot("a", "a"), x, slot("c", "c")})
		}
	}
	for _, x := range []struct {
		field     string
		low, high int
		s         func(n int) api.Slot
	}{
		{"Quota", 256, 1 << 20, func(n int) api.Slot { s := slot("a", "b"); s.Quota = n; return s }},
		{"Conns", 1, 64, func(n int) api.Slot { s := slot("a", "b"); s.Conns = n; return s }},
		{"Pool", 1, 64, func(n int) api.Slot { s := slot("a", "b"); s.Pool = n; return s }},
		{"Rate", 1, 1 << 20, func(n int) api.Slot { s := slot("a", "b"); s.Rate = n; return s }},
		{"Burst", 1, 1 << 20, func(n int) api.Slot { s := slot("a", "b"); s.Burst = n; return s }},
		{"Quantum", 1, 1 << 20, func(n int) api.Slot { s := slot("a", "b"); s.Quantum = n; return s }},
	} {
		for _, n := range []int{x.low - 1, x.low, x.high, x.high + 1} {
			if got := table.Right([]api.Slot{x.s(n)}); got != (x.low <= n && n <= x.high) {
				t.Errorf("Right with %s %d is %v", x.field, n, got)
			}
		}
	}
}

// P9.1: hosts are those that layer 5's Host answers as themselves.
func TestHosts(t *testing.T) {
	for _, h := range []string{
		"a", "a.example", "-", ".", "9", "0.0.0.0", "a-b.c", strings.Repeat("h", 64), strings.Repeat("h", 65),
		"", "A", "a.Example", "a:80", "a:", ":", ":80", "a:b", "a b", " a", "a ", "a\t", "a\n", "a/", "a_b", "*", "ä", "a\x80", "\x00",
		strings.Repeat("h", 62) + ":80", strings.Repeat("h", 1<<16),
	} {
		hold(t, []api.Slot{slot("x", h)})
		hold(t, []api.Slot{slot("x", "first", h)})
		hold(t, []api.Slot{slot("x", "first"), slot("y", h, "last")})
	}
	for i := range 256 {
		b := string([]byte{byte(i)})
		for _, h := range []string{b, b + "x", "x" + b, "x" + b + "1"} {
			hold(t, []api.Slot{slot("x", "first", h)})
		}
	}
	for n := range 12 {
		hold(t, many(1, n, 3))
		hold(t, append(many(2, 2, 3), slot("x", many(1, n, 9)[0].Hosts...)))
	}
	hold(t, []api.Slot{slot("x", slices.Repeat([]string{"h"}, 1<<16)...)})
}

// P9.1: how many slots there are, up to the longest right table; its text may be longer than Read's bound.
func TestSlots(t *testing.T) {
	for n := range 20 {
		hold(t, many(n, 1, 1))
		hold(t, many(n, 8, 64))
	}
	hold(t, many(1000, 1, 1))
	hold(t, slices.Repeat(many(1, 1, 1), 17))
	if !table.Right(many(16, 8, 64)) || table.Right(many(17, 1, 1)) || table.Right(nil) || table.Right([]api.Slot{}) {
		t.Error("Right of 16, 17 and no slots")
	}
	if s, e := table.Write(many(16, 8, 64)); e != api.OK || len(s) < 8000 {
		t.Errorf("the longest text: %d bytes, %d", len(s), e)
	}
	if s, e := table.Write(nil); s != "" || e != api.ErrTable {
		t.Errorf("Write(nil) = %q, %d", s, e)
	}
}

// P9.1, P9.3: no name and no host stands twice, wherever the two are.
func TestTwice(t *testing.T) {
	whole := func() []api.Slot { return many(16, 8, 4) }
	hold(t, whole())
	for i := range 16 {
		for j := range 16 {
			tab := whole()
			tab[i].Name = tab[j].Name
			hold(t, tab)
			for _, place := range []int{0, 3, 7} {
				tab = whole()
				tab[i].Hosts[7] = tab[j].Hosts[place]
				hold(t, tab)
			}
		}
	}
	for _, x := range []struct {
		tab  []api.Slot
		want bool
	}{
		{[]api.Slot{slot("a", "h"), slot("b", "i")}, true},
		{[]api.Slot{slot("a", "b"), slot("b", "a")}, true}, // a name may be a host
		{[]api.Slot{slot("a", "h"), slot("a", "i")}, false},
		{[]api.Slot{slot("a", "h", "h")}, false},
		{[]api.Slot{slot("a", "h", "i"), slot("b", "j", "h")}, false},
		{[]api.Slot{slot("a", "h"), slot("b", "i"), slot("a", "j")}, false},
	} {
		if got := table.Right(x.tab); got != x.want {
			t.Errorf("Right(%+v) = %v", x.tab, got)
		}
	}
}

// P9.1: Read's errors, in their order.
func TestRead(t *testing.T) {
	two := first + "slot b 256 1 1 1 1 1 c\n"
	numbers := " 1000 2 2 5 5 64"
	long := "slot a" + numbers + strings.Repeat(" h", 2100) + "\n"
	for _, x := range []struct {
		s string
		n int
		e api.Errno
	}{
		{first, 1, api.OK},
		{two, 2, api.OK},
		{"slot a 1048576 64 64 1048576 1048576 1048576 b\n", 1, api.OK},
		{"", 0, api.ErrTable},
		{"\n", 0, api.ErrForm},
		{"\n" + first, 0, api.ErrForm},
		{first + "\n", 0, api.ErrForm},
		{strings.TrimSuffix(first, "\n"), 0, api.ErrForm},
		{first + "slot b 256 1 1 1 1 1 c", 0, api.ErrForm},
		{strings.ReplaceAll(first, "\n", "\r\n"), 0, api.ErrTable}, // the 13 is the host's
		{"slot a 256 1 1 1 1 1\r\n", 0, api.ErrForm},
		{"slot a 256 1 1 1 1 1\n", 0, api.ErrTable},
		{"slot a 256 1 1 1 1\n", 0, api.ErrForm},
		{"slot a\n", 0, api.ErrForm},
		{"slot\n", 0, api.ErrForm},
		{"Slot a 256 1 1 1 1 1 c\n", 0, api.ErrForm},
		{"slots a 256 1 1 1 1 1 c\n", 0, api.ErrForm},
		{" slot a 256 1 1 1 1 1 c\n", 0, api.ErrForm},
		{"slot  a 256 1 1 1 1 1 c\n", 0, api.ErrForm},
		{"slot a  256 1 1 1 1 1 c\n", 0, api.ErrForm},
		{"slot a\t256 1 1 1 1 1 c\n", 0, api.ErrForm},
		// An empty word is one: a name, or a host, that isn't right.
		{"slot  256 1 1 1 1 1 c\n", 0, api.ErrTable},
		{"slot a 256 1 1 1 1 1  c\n", 0, api.ErrTable},
		{"slot a 256 1 1 1 1 1 c \n", 0, api.ErrTable},
		{"slot a 256 1 1 1 1 1 \n", 0, api.ErrTable},
		{"slot a 0256 1 1 1 1 1 c\n", 0, api.ErrForm},
		{"slot a 256 1 1 1 1 01 c\n", 0, api.ErrForm},
		{"slot a 256 00 1 1 1 1 c\n", 0, api.ErrForm},
		{"slot a 256 0 1 1 1 1 c\n", 0, api.ErrTable},
		{"slot a -256 1 1 1 1 1 c\n", 0, api.ErrForm},
		{"slot a +256 1 1 1 1 1 c\n", 0, api.ErrForm},
		{"slot a 0x100 1 1 1 1 1 c\n", 0, api.ErrForm},
		{"slot a 2_56 1 1 1 1 1 c\n", 0, api.ErrForm},
		{"slot a 999999999999999999 1 1 1 1 1 c\n", 0, api.ErrTable},
		{"slot a 1000000000000000000 1 1 1 1 1 c\n", 0, api.ErrForm},
		{"slot a 18446744073709551872 1 1 1 1 1 c\n", 0, api.ErrForm},
		{"slot a 4294967552 1 1 1 1 1 c\n", 0, api.ErrTable},
		// Form comes ahead of what isn't right, wherever it stands.
		{"slot A 1 1 1 1 1 1 c\n" + "slot b x 1 1 1 1 1 d\n", 0, api.ErrForm},
		{first + first + "x\n", 0, api.ErrForm},
		{strings.Repeat("\n", 4096), 0, api.ErrForm},
		{strings.Repeat("\n", 4097), 0, api.ErrLong},
		{long, 0, api.ErrLong},
		{strings.Repeat("x", 4096), 0, api.ErrForm},
		{strings.Repeat("x", 4097), 0, api.ErrLong},
		{strings.Repeat(first, 1<<12), 0, api.ErrLong},
	} {
		tab, e := table.Read(x.s)
		if len(tab) != x.n || e != x.e {
			t.Errorf("Read(%.80q) = %+v, %d; want %d", x.s, tab, e, x.e)
		}
		holdText(t, x.s)
	}
	got, _ := table.Read(two)
	want := []api.Slot{
		{Name: "a", Hosts: []string{"a.example", "b"}, Quota: 1000, Conns: 2, Pool: 2, Rate: 5, Burst: 5, Quantum: 64},
		{Name: "b", Hosts: []string{"c"}, Quota: 256, Conns: 1, Pool: 1, Rate: 1, Burst: 1, Quantum: 1},
	}
	if !reflect.DeepEqual(got, want) {
		t.Errorf("Read(%q) = %+v", two, got)
	}
	each, _ := table.Read("slot a 300 1 2 3 4 5 b\n")
	if !reflect.DeepEqual(each, []api.Slot{{Name: "a", Hosts: []string{"b"}, Quota: 300, Conns: 1, Pool: 2, Rate: 3, Burst: 4, Quantum: 5}}) {
		t.Errorf("each number in its place: %+v", each)
	}
}

// P9.2: a right text of just 4096 bytes is read, one of a byte more isn't.
func TestLongest(t *testing.T) {
	for _, x := range []struct {
		bytes int
		e     api.Errno
	}{{4095, api.OK}, {4096, api.OK}, {4097, api.ErrLong}} {
		tab := many(16, 4, 50)
		s, _ := table.Write(tab)
		for i := 0; i < 64 && len(s) < x.bytes; i++ {
			h := &tab[i%16].Hosts[i/16%4]
			*h += strings.Repeat("y", min(64-len(*h), x.bytes-len(s)))
			s, _ = table.Write(tab)
		}
		got, e := table.Read(s)
		if len(s) != x.bytes || e != x.e || e == api.OK && !reflect.DeepEqual(got, tab) || e != api.OK && len(got) != 0 {
			t.Errorf("Read of %d bytes = %d slots, %d", len(s), len(got), e)
		}
		hold(t, tab)
	}
}

// P9.1, P9.2: each byte in, behind and instead of each place of a text; each beginning; each place left out.
func TestEveryByte(t *testing.T) {
	s := first + "slot b 256 1 1 1 1 1 c\n"
	for i := range len(s) + 1 {
		holdText(t, s[:i])
		for b := range 256 {
			holdText(t, s[:i]+string([]byte{byte(b)})+s[i:])
			if i < len(s) {
				holdText(t, s[:i]+string([]byte{byte(b)})+s[i+1:])
			}
		}
		if i < len(s) {
			holdText(t, s[:i]+s[i+1:])
		}
	}
}

// P9.1, P9.2: rows of pieces.
func TestPieces(t *testing.T) {
	pieces := []string{"slot ", "slot", "a", " ", "\n", "1", "0", " 256", " 1", " 1 1 1 1 1", "slot a 256 1 1 1 1 1 b\n", "slot c 256 1 1 1 1 1", " d\n", " b", "slot b"}
	r := rand.New(rand.NewSource(9))
	for range 60000 {
		s := ""
		for range r.Intn(9) {
			s += pieces[r.Intn(len(pieces))]
		}
		holdText(t, s)
	}
}

// P9.1, P9.3: Find and Named, at tables that are right and at others.
func TestFind(t *testing.T) {
	odd := []api.Slot{{}, {Name: "", Hosts: []string{""}}, slot("A", "H:80", "h"), slot("A", "h", "h"), slot("b")}
	for _, x := range []struct {
		tab  []api.Slot
		s    string
		find int
		name int
	}{
		{nil, "", -1, -1}, {nil, "a", -1, -1}, {[]api.Slot{}, "a", -1, -1},
		{odd, "", 1, 0}, {odd, "h", 2, -1}, {odd, "H:80", 2, -1}, {odd, "H", -1, -1}, {odd, "A", -1, 2}, {odd, "a", -1, -1}, {odd, "b", -1, 4},
		{many(3, 2, 1), "h2-1", 2, -1}, {many(3, 2, 1), "h0-0", 0, -1}, {many(3, 2, 1), "h1-0", 1, -1}, {many(3, 2, 1), "H1-0", -1, -1}, {many(3, 2, 1), "h1-0:80", -1, -1},
		{many(3, 2, 1), "s0", -1, 0}, {many(3, 2, 1), "s2", -1, 2}, {many(3, 2, 1), "s3", -1, -1}, {many(3, 2, 1), "s", -1, -1}, {many(3, 2, 1), "s00", -1, -1},
		{many(100, 20, 1), "h99-19", 99, -1}, {many(100, 20, 1), "s99", -1, 99},
	} {
		ahead := deep(x.tab)
		if got := table.Find(x.tab, x.s); got != x.find {
			t.Errorf("Find(%+v, %q) = %d", x.tab, x.s, got)
		}
		if got := table.Named(x.tab, x.s); got != x.name {
			t.Errorf("Named(%+v, %q) = %d", x.tab, x.s, got)
		}
		if !reflect.DeepEqual(deep(x.tab), ahead) {
			t.Errorf("%+v was changed", ahead)
		}
	}
	tab := many(16, 8, 9)
	for i, s := range tab {
		if table.Named(tab, s.Name) != i {
			t.Errorf("Named %q isn't %d", s.Name, i)
		}
		for _, h := range s.Hosts {
			others := slices.Delete(deep(tab), i, i+1)
			if table.Find(tab, h) != i || table.Find(others, h) != -1 {
				t.Errorf("Find %q: %d, and %d without it", h, table.Find(tab, h), table.Find(others, h))
			}
		}
	}
}

// P9.4: arguments stay, the memory behind a list's length too.
func TestArgumentsStay(t *testing.T) {
	hosts := []string{"h", "i", "behind", "behind too"}
	tab := []api.Slot{slot("a", hosts[:2]...), slot("b", "j"), slot("behind")}
	tab[0].Hosts = hosts[:2]
	for range 2 {
		table.Right(tab[:2])
		table.Write(tab[:2])
		table.Find(tab[:2], "j")
		table.Named(tab[:2], "b")
	}
	want := []api.Slot{slot("a", "h", "i"), slot("b", "j"), slot("behind")}
	if !reflect.DeepEqual(deep(tab), deep(want)) || !slices.Equal(hosts, []string{"h", "i", "behind", "behind too"}) {
		t.Errorf("changed: %+v, %q", tab, hosts)
	}
}

// shared tells whether two texts have memory in common.
func shared(a, b string) bool {
	if a == "" || b == "" {
		return false
	}
	from, to := uintptr(unsafe.Pointer(unsafe.StringData(a))), uintptr(unsafe.Pointer(unsafe.StringData(b)))
	return from < to+uintptr(len(b)) && to < from+uintptr(len(a))
}

// P9.4: answers are new memory; no list of hosts shares any with another, spare room too.
func TestNewMemory(t *testing.T) {
	s := first + "slot b 256 1 1 1 1 1 c d\n"
	one, _ := table.Read(s)
	two, _ := table.Read(s)
	want := deep(two)
	for i := range one {
		if shared(one[i].Name, s) || shared(one[i].Hosts[0], s) || shared(one[i].Hosts[1], s) {
			t.Errorf("slot %d has memory of the text", i)
		}
		spare := one[i].Hosts[:cap(one[i].Hosts)]
		for j := range spare {
			spare[j] = "over"
		}
		one[i].Name, one[i].Quota = "over", 0
		if rest := deep(one[i+1:]); !reflect.DeepEqual(rest, deep(want[i+1:])) {
			t.Errorf("slot %d written over changes %+v", i, rest)
		}
	}
	_ = append(one, slot("over"))
	if again, _ := table.Read(s); !reflect.DeepEqual(two, want) || !reflect.DeepEqual(again, want) {
		t.Errorf("written over: %+v, %+v", two, again)
	}
	text1, _ := table.Write([]api.Slot{slot("a", "b")})
	if shared(text1, one[0].Name) {
		t.Error("a text has memory of a table")
	}
}
