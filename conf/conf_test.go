package conf_test

import (
	"math"
	"math/rand"
	"reflect"
	"regexp"
	"slices"
	"strconv"
	"strings"
	"testing"
	"unsafe"

	"tollbar/api"
	"tollbar/conf"
)

const (
	end   = "total 9\ntries 0\nfails 1\ncool 5\n"
	up    = "up u 10.0.0.1:80 b\n"
	whole = "up u 10.0.0.1:80 b\nup v c\nroute / u /\nroute /a v /n\nset X a b\nset Y \ndrop Cookie\ndrop d\n" + end
)

// some is a right configuration with two or more of each.
func some() api.Conf {
	return api.Conf{
		Ups:    []api.Up{{Name: "u", Aims: []string{"10.0.0.1:80", "b"}}, {Name: "v", Aims: []string{"c"}}},
		Routes: []api.Route{{Prefix: "/", Up: "u", Swap: "/"}, {Prefix: "/a", Up: "v", Swap: "/n"}},
		Set:    []api.Field{{Name: "X", Value: "a b"}, {Name: "Y", Value: ""}},
		Drop:   []string{"Cookie", "d"},
		Total:  9, Tries: 0, Fails: 1, Cool: 5,
	}
}

// with is such a configuration with something changed.
func with(change func(c *api.Conf)) api.Conf {
	c := some()
	change(&c)
	return c
}

// deep is a configuration again, in memory of its own, empty lists as nil.
func deep(c api.Conf) api.Conf {
	var ups []api.Up
	for _, u := range c.Ups {
		ups = append(ups, api.Up{Name: u.Name, Aims: append([]string(nil), u.Aims...)})
	}
	c.Ups, c.Routes = ups, append([]api.Route(nil), c.Routes...)
	c.Set, c.Drop = append([]api.Field(nil), c.Set...), append([]string(nil), c.Drop...)
	return c
}

// matches holds a text against a form byte by byte: each byte is a sign of its own.
func matches(form *regexp.Regexp, s string) bool {
	runes := make([]rune, len(s))
	for i := range runes {
		runes[i] = rune(s[i])
	}
	return form.MatchString(string(runes))
}

var (
	nameForm   = regexp.MustCompile(`^[a-z][a-z0-9-]{0,29}$`)
	aimForm    = regexp.MustCompile(`^[!-~]{1,40}$`)
	pathForm   = regexp.MustCompile(`^/[!-~]{0,99}$`)
	tokenForm  = regexp.MustCompile("^[a-zA-Z0-9!#$%&'*+.^_`|~-]{1,100}$")
	valueForm  = regexp.MustCompile(`^([!-~\x{80}-\x{ff}]([\t -~\x{80}-\x{ff}]*[!-~\x{80}-\x{ff}])?)?$`)
	keptForm   = regexp.MustCompile(`^(?i:host|content-length|transfer-encoding|connection|keep-alive|proxy-connection|te|trailer|upgrade|expect|via)$`)
	numberForm = regexp.MustCompile(`^(0|[1-9][0-9]{0,17})$`)
)

// isKept says again which names are kept; the letters are ASCII's alone, as they are folded.
func isKept(s string) bool { return matches(keptForm, s) }

// rightParts says again what the chapter says of each part of a configuration.
func rightParts(c api.Conf) bool {
	ok := c.Total > 0 && c.Total < 1048577 && c.Tries >= 0 && c.Tries < 4 && c.Fails > 0 && c.Fails < 101 && c.Cool >= 0 && c.Cool < 1048577
	for _, u := range c.Ups {
		ok = ok && matches(nameForm, u.Name)
		for _, a := range u.Aims {
			ok = ok && matches(aimForm, a)
		}
	}
	for _, r := range c.Routes {
		ok = ok && matches(pathForm, r.Prefix) && matches(pathForm, r.Swap)
	}
	for _, f := range c.Set {
		ok = ok && matches(tokenForm, f.Name) && len(f.Value) < 1001 && matches(valueForm, f.Value) && !isKept(f.Name)
	}
	for _, d := range c.Drop {
		ok = ok && matches(tokenForm, d) && !isKept(d)
	}
	return ok
}

// check says again what the chapter says of Check.
func check(c api.Conf) api.Errno {
	many := len(c.Ups) > 16 || len(c.Routes) > 32 || len(c.Set) > 16 || len(c.Drop) > 16
	for _, u := range c.Ups {
		many = many || len(u.Aims) == 0 || len(u.Aims) > 8
	}
	if many {
		return api.ErrMany
	}
	if !rightParts(c) {
		return api.ErrArg
	}
	same, lost := false, false
	for i, u := range c.Ups {
		same = same || slices.ContainsFunc(c.Ups[:i], func(x api.Up) bool { return x.Name == u.Name })
	}
	for i, r := range c.Routes {
		same = same || slices.ContainsFunc(c.Routes[:i], func(x api.Route) bool { return x.Prefix == r.Prefix })
		lost = lost || !slices.ContainsFunc(c.Ups, func(x api.Up) bool { return x.Name == r.Up })
	}
	if same {
		return api.ErrSame
	}
	if lost {
		return api.ErrName
	}
	return api.OK
}

// text says again what the chapter says of a configuration's text.
func text(c api.Conf) string {
	s := ""
	for _, u := range c.Ups {
		s += "up " + u.Name
		for _, a := range u.Aims {
			s += " " + a
		}
		s += "\n"
	}
	for _, r := range c.Routes {
		s += "route " + r.Prefix + " " + r.Up + " " + r.Swap + "\n"
	}
	for _, f := range c.Set {
		s += "set " + f.Name + " " + f.Value + "\n"
	}
	for _, d := range c.Drop {
		s += "drop " + d + "\n"
	}
	for i, n := range []int{c.Total, c.Tries, c.Fails, c.Cool} {
		s += []string{"total ", "tries ", "fails ", "cool "}[i] + strconv.Itoa(n) + "\n"
	}
	return s
}

// read says again what the chapter says of Read: line by line, each in its place.
func read(s string) (api.Conf, api.Errno) {
	const order = " up route set drop total tries fails cool "
	if len(s) > 4096 {
		return api.Conf{}, api.ErrLong
	}
	lines := strings.Split(s, "\n")
	if lines[len(lines)-1] != "" {
		return api.Conf{}, api.ErrForm
	}
	lines = lines[:len(lines)-1]
	for _, l := range lines {
		w := strings.SplitN(l, " ", 2)[0]
		if w == "" || !strings.Contains(order, " "+w+" ") {
			return api.Conf{}, api.ErrWord
		}
	}
	c, last, numbers := api.Conf{}, 0, 0
	for _, l := range lines {
		words := strings.Split(l, " ")
		at := strings.Index(order, " "+words[0]+" ")
		if at < last {
			return api.Conf{}, api.ErrForm
		}
		last = at
		n := len(words) - 1
		switch words[0] {
		case "up":
			if n < 1 {
				return api.Conf{}, api.ErrForm
			}
			c.Ups = append(c.Ups, api.Up{Name: words[1], Aims: words[2:]})
		case "route":
			if n != 3 {
				return api.Conf{}, api.ErrForm
			}
			c.Routes = append(c.Routes, api.Route{Prefix: words[1], Up: words[2], Swap: words[3]})
		case "set":
			if n < 2 {
				return api.Conf{}, api.ErrForm
			}
			c.Set = append(c.Set, api.Field{Name: words[1], Value: l[len("set ")+len(words[1])+1:]})
		case "drop":
			if n != 1 {
				return api.Conf{}, api.ErrForm
			}
			c.Drop = append(c.Drop, words[1])
		default:
			if n != 1 || numbers > 3 || words[0] != []string{"total", "tries", "fails", "cool"}[numbers] || !numberForm.MatchString(words[1]) {
				return api.Conf{}, api.ErrForm
			}
			*[]*int{&c.Total, &c.Tries, &c.Fails, &c.Cool}[numbers], _ = strconv.Atoi(words[1])
			numbers++
		}
	}
	if numbers != 4 {
		return api.Conf{}, api.ErrForm
	}
	if e := check(c); e != api.OK {
		return api.Conf{}, e
	}
	return c, api.OK
}

// hold holds Check and Write against the second reading, and what is written against Read (P10.1, P10.2).
func hold(t *testing.T, c api.Conf) {
	t.Helper()
	ahead := deep(c)
	want := check(c)
	if got := conf.Check(c); got != want {
		t.Errorf("Check(%.300s) = %d, want %d", text(c), got, want)
	}
	s, e := conf.Write(c)
	if e != want || want == api.OK && s != text(c) || want != api.OK && s != "" {
		t.Errorf("Write(%.300s) = %q, %d", text(c), s, e)
	}
	if !reflect.DeepEqual(deep(c), ahead) {
		t.Errorf("%+v was changed to %+v", ahead, c)
	}
	if want == api.OK {
		got, e := conf.Read(s)
		if len(s) <= 4096 && (e != api.OK || !reflect.DeepEqual(deep(got), ahead)) || len(s) > 4096 && (e != api.ErrLong || !reflect.DeepEqual(got, api.Conf{})) {
			t.Errorf("Read(%.300q) = %+v, %d", s, got, e)
		}
	}
}

// holdText holds Read against the second reading, and what is read against Write (P10.1, P10.2).
func holdText(t *testing.T, s string) {
	t.Helper()
	want, f := read(s)
	got, e := conf.Read(s)
	if e != f || !reflect.DeepEqual(deep(got), deep(want)) {
		t.Errorf("Read(%.300q) = %+v, %d; want %+v, %d", s, got, e, want, f)
	}
	if e == api.OK {
		if again, g := conf.Write(got); again != s || g != api.OK {
			t.Errorf("Write of Read(%q) = %q, %d", s, again, g)
		}
	}
}

// P10.1: the kept names, folded, and names that only look like them.
func TestKept(t *testing.T) {
	for _, name := range []string{"Host", "Content-Length", "Transfer-Encoding", "Connection", "Keep-Alive", "Proxy-Connection", "TE", "Trailer", "Upgrade", "Expect", "Via"} {
		for _, s := range []string{name, strings.ToLower(name), strings.ToUpper(name), strings.ToLower(name[:1]) + strings.ToUpper(name[1:])} {
			if !conf.Kept(s) {
				t.Errorf("%q isn't kept", s)
			}
			hold(t, with(func(c *api.Conf) { c.Set[1].Name = s }))
			hold(t, with(func(c *api.Conf) { c.Drop[1] = s }))
		}
		for _, s := range []string{name + "x", "x" + name, name[1:], name[:len(name)-1], name + " ", " " + name, name + "\x00", name + name, strings.ReplaceAll(name, "-", "_") + "_"} {
			if conf.Kept(s) {
				t.Errorf("%q is kept", s)
			}
			hold(t, with(func(c *api.Conf) { c.Set[1].Name = s }))
			hold(t, with(func(c *api.Conf) { c.Drop[1] = s }))
		}
	}
	for _, s := range []string{"", "x", "Cookie", "Trailers", "Transfer_Encoding", "\u212aeep-Alive", "ho\u017ft", strings.Repeat("host", 1<<16)} {
		if conf.Kept(s) {
			t.Errorf("%.20q is kept", s)
		}
	}
}

// P10.1: what holds at first.
func TestDefault(t *testing.T) {
	c := conf.Default()
	if !reflect.DeepEqual(deep(c), api.Conf{Total: 100, Tries: 1, Fails: 3, Cool: 50}) {
		t.Errorf("Default() = %+v", c)
	}
	if s, e := conf.Write(c); s != "total 100\ntries 1\nfails 3\ncool 50\n" || e != api.OK {
		t.Errorf("Write(Default()) = %q, %d", s, e)
	}
	hold(t, c)
}

// P10.1: each error by itself, then two at a time: the first is answered.
func TestCheckOrder(t *testing.T) {
	faults := []struct {
		name string
		e    api.Errno
		do   func(c *api.Conf)
	}{
		{"17 Ups", api.ErrMany, func(c *api.Conf) { c.Ups = append(c.Ups, slices.Repeat(c.Ups[:1], 15)...) }},
		{"33 Routes", api.ErrMany, func(c *api.Conf) { c.Routes = append(c.Routes, slices.Repeat(c.Routes[:1], 31)...) }},
		{"17 of Set", api.ErrMany, func(c *api.Conf) { c.Set = append(c.Set, slices.Repeat(c.Set[:1], 15)...) }},
		{"17 of Drop", api.ErrMany, func(c *api.Conf) { c.Drop = append(c.Drop, slices.Repeat(c.Drop[:1], 15)...) }},
		{"no Aims", api.ErrMany, func(c *api.Conf) { c.Ups = append(c.Ups, api.Up{Name: "w"}) }},
		{"9 Aims", api.ErrMany, func(c *api.Conf) { c.Ups[1].Aims = slices.Repeat([]string{"a"}, 9) }},
		{"an Up's Name", api.ErrArg, func(c *api.Conf) { c.Ups = append(c.Ups, api.Up{Name: "W", Aims: []string{"a"}}) }},
		{"an Aim", api.ErrArg, func(c *api.Conf) { c.Ups[1].Aims = append(c.Ups[1].Aims, "a b") }},
		{"a Prefix", api.ErrArg, func(c *api.Conf) { c.Routes[1].Prefix = "a" }},
		{"a Swap", api.ErrArg, func(c *api.Conf) { c.Routes[1].Swap = "" }},
		{"a Name of Set", api.ErrArg, func(c *api.Conf) { c.Set[1].Name = "a b" }},
		{"a Value of Set", api.ErrArg, func(c *api.Conf) { c.Set[1].Value = "a " }},
		{"a kept name of Set", api.ErrArg, func(c *api.Conf) { c.Set[0].Name = "hOST" }},
		{"one of Drop", api.ErrArg, func(c *api.Conf) { c.Drop[0] = "" }},
		{"a kept name of Drop", api.ErrArg, func(c *api.Conf) { c.Drop[1] = "vIa" }},
		{"Total", api.ErrArg, func(c *api.Conf) { c.Total = 0 }},
		{"Tries", api.ErrArg, func(c *api.Conf) { c.Tries = 4 }},
		{"Fails", api.ErrArg, func(c *api.Conf) { c.Fails = 0 }},
		{"Cool", api.ErrArg, func(c *api.Conf) { c.Cool = -1 }},
		{"two Ups", api.ErrSame, func(c *api.Conf) { c.Ups = append(c.Ups, api.Up{Name: "u", Aims: []string{"z"}}) }},
		{"two Routes", api.ErrSame, func(c *api.Conf) { c.Routes = append(c.Routes, api.Route{Prefix: "/", Up: "v", Swap: "/z"}) }},
		{"a Route's Up", api.ErrName, func(c *api.Conf) { c.Routes = append(c.Routes, api.Route{Prefix: "/z", Up: "w-", Swap: "/"}) }},
	}
	if e := conf.Check(some()); e != api.OK {
		t.Fatalf("Check(some()) = %d", e)
	}
	rank := []api.Errno{api.ErrMany, api.ErrArg, api.ErrSame, api.ErrName}
	for _, x := range faults {
		if e := conf.Check(with(x.do)); e != x.e {
			t.Errorf("%s: %d", x.name, e)
		}
		hold(t, with(x.do))
		for _, y := range faults {
			if x.name == y.name {
				continue
			}
			c := with(func(c *api.Conf) { x.do(c); y.do(c) })
			want := rank[min(slices.Index(rank, x.e), slices.Index(rank, y.e))]
			if e := conf.Check(c); e != want {
				t.Errorf("%s and %s: %d, want %d", x.name, y.name, e, want)
			}
			hold(t, c)
		}
	}
}

// P10.1: how many there may be of each.
func TestCounts(t *testing.T) {
	for _, n := range []int{0, 1, 8, 9, 15, 16, 17, 31, 32, 33, 1000} {
		aims := slices.Repeat([]string{"a"}, n) // one aim may stand twice
		hold(t, with(func(c *api.Conf) { c.Ups[0].Aims = aims }))
		hold(t, with(func(c *api.Conf) { c.Ups[1].Aims = aims }))
		hold(t, with(func(c *api.Conf) {
			c.Ups, c.Routes = nil, nil
			for i := range n {
				c.Ups = append(c.Ups, api.Up{Name: "u" + strconv.Itoa(i), Aims: []string{"a"}})
			}
		}))
		hold(t, with(func(c *api.Conf) {
			c.Routes = nil
			for i := range n {
				c.Routes = append(c.Routes, api.Route{Prefix: "/" + strconv.Itoa(i), Up: "v", Swap: "/"})
			}
		}))
		hold(t, with(func(c *api.Conf) { c.Set = slices.Repeat(c.Set[:1], n) })) // as may a rule
		hold(t, with(func(c *api.Conf) { c.Drop = slices.Repeat(c.Drop[:1], n) }))
	}
	for _, x := range []struct {
		c    api.Conf
		want api.Errno
	}{
		{with(func(c *api.Conf) { c.Ups[0].Aims = slices.Repeat([]string{"a"}, 8) }), api.OK},
		{with(func(c *api.Conf) { c.Ups[0].Aims = slices.Repeat([]string{"a"}, 9) }), api.ErrMany},
		{with(func(c *api.Conf) { c.Set = slices.Repeat(c.Set, 8) }), api.OK},
		{with(func(c *api.Conf) { c.Drop = slices.Repeat(c.Drop, 8) }), api.OK},
		{with(func(c *api.Conf) { c.Ups = nil }), api.ErrName},
		{api.Conf{Total: 1, Fails: 1}, api.OK},
		{api.Conf{}, api.ErrArg},
	} {
		if e := conf.Check(x.c); e != x.want {
			t.Errorf("Check(%+v) = %d", x.c, e)
		}
	}
}

// P10.1: each number about its bounds, and far beyond them.
func TestNumbers(t *testing.T) {
	for _, n := range []int{math.MinInt, -1 << 32, -1, 0, 1, 2, 3, 4, 99, 100, 101, 1<<20 - 1, 1 << 20, 1<<20 + 1, 1<<32 + 1, math.MaxInt} {
		for i := range 4 {
			hold(t, with(func(c *api.Conf) { *[]*int{&c.Total, &c.Tries, &c.Fails, &c.Cool}[i] = n }))
		}
	}
	for _, x := range []struct {
		total, tries, fails, cool int
		want                      api.Errno
	}{
		{1, 0, 1, 0, api.OK}, {1 << 20, 3, 100, 1 << 20, api.OK},
		{0, 0, 1, 0, api.ErrArg}, {1, -1, 1, 0, api.ErrArg}, {1, 0, 0, 0, api.ErrArg}, {1, 0, 1, -1, api.ErrArg},
		{1<<20 + 1, 3, 100, 1, api.ErrArg}, {1, 4, 100, 1, api.ErrArg}, {1, 3, 101, 1, api.ErrArg}, {1, 3, 100, 1<<20 + 1, api.ErrArg},
	} {
		if e := conf.Check(api.Conf{Total: x.total, Tries: x.tries, Fails: x.fails, Cool: x.cool}); e != x.want {
			t.Errorf("Check of %+v = %d", x, e)
		}
	}
}

// P10.1: each kind of text in each place: empty, at and above its most bytes, with each byte at each end and within.
func TestTexts(t *testing.T) {
	texts := []string{"", "/", "//", "*", "a", "A", "-", "a b", "/a b", "/?x", "a?b", "ä", "/ä", "u", "v", "w"}
	for _, n := range []int{29, 30, 31, 39, 40, 41, 98, 99, 100, 101, 999, 1000, 1001, 4097} {
		texts = append(texts, strings.Repeat("a", n), "/"+strings.Repeat("a", n-1), strings.Repeat("9", n))
	}
	for i := range 256 {
		b := string([]byte{byte(i)})
		texts = append(texts, b, b+"x", "x"+b, "x"+b+"y", "/"+b, "/"+b+"y")
	}
	for _, s := range texts {
		hold(t, with(func(c *api.Conf) { c.Ups[1].Name, c.Routes[1].Up = s, s }))
		hold(t, with(func(c *api.Conf) { c.Ups[1].Aims[0] = s }))
		hold(t, with(func(c *api.Conf) { c.Ups[0].Aims[1] = s }))
		hold(t, with(func(c *api.Conf) { c.Routes[1].Prefix = s }))
		hold(t, with(func(c *api.Conf) { c.Routes[1].Up = s }))
		hold(t, with(func(c *api.Conf) { c.Routes[1].Swap = s }))
		hold(t, with(func(c *api.Conf) { c.Set[1].Name = s }))
		hold(t, with(func(c *api.Conf) { c.Set[1].Value = s }))
		hold(t, with(func(c *api.Conf) { c.Drop[0] = s }))
	}
}

// P10.1: no two Ups of one Name, no two Routes of one Prefix, wherever the two stand; names that differ by little may.
func TestSame(t *testing.T) {
	for i := range 16 {
		for j := range 16 {
			c := some()
			c.Ups, c.Routes = nil, nil
			for k := range 16 {
				c.Ups = append(c.Ups, api.Up{Name: "u" + strconv.Itoa(k), Aims: []string{"a"}})
				c.Routes = append(c.Routes, api.Route{Prefix: "/" + strconv.Itoa(k), Up: "u3", Swap: "/same"})
			}
			twice := deep(c)
			c.Ups[i].Name, c.Routes[0].Up = c.Ups[j].Name, "u3"
			hold(t, c)
			twice.Routes[i].Prefix = twice.Routes[j].Prefix
			hold(t, twice)
		}
	}
	hold(t, with(func(c *api.Conf) { c.Routes[0].Prefix, c.Routes[1].Prefix = "/a", "/A" }))
	hold(t, with(func(c *api.Conf) { c.Routes[0].Prefix, c.Routes[1].Prefix = "/a", "/a/" }))
	hold(t, with(func(c *api.Conf) { c.Set[1] = c.Set[0] }))
	hold(t, with(func(c *api.Conf) { c.Drop[1] = c.Drop[0] }))
	hold(t, with(func(c *api.Conf) { c.Ups[1].Aims = []string{"c", "c"} }))
}

// P10.1: Read's errors, in their order.
func TestRead(t *testing.T) {
	for _, x := range []struct {
		s string
		e api.Errno
	}{
		{end, api.OK}, {whole, api.OK},
		{"up u 10.0.0.1:80\nroute / u /\n" + end, api.OK},
		{"set X a:  b\tc\n" + end, api.OK}, {"set X \n" + end, api.OK},
		{"total 1048576\ntries 3\nfails 100\ncool 1048576\n", api.OK}, {"total 1\ntries 0\nfails 1\ncool 0\n", api.OK},
		// The text isn't lines: ahead of a word that isn't known.
		{"what", api.ErrForm}, {"what\n" + end + "x", api.ErrForm}, {strings.TrimSuffix(end, "\n"), api.ErrForm},
		// A word that isn't known: ahead of all else that isn't such lines, wherever it stands.
		{"\n", api.ErrWord}, {end + "\n", api.ErrWord}, {"\n" + end, api.ErrWord}, {" \n" + end, api.ErrWord}, {" total 9\n", api.ErrWord},
		{"what\n", api.ErrWord}, {"Total 9\n", api.ErrWord}, {"total\t9\n", api.ErrWord}, {"total9\n", api.ErrWord}, {"tota 9\n", api.ErrWord},
		{"up\nroute x\n" + end + "cool 5\nwhat\n", api.ErrWord}, {strings.ReplaceAll(end, "\n", "\r\n"), api.ErrForm}, {"up\r\n" + end, api.ErrWord},
		{strings.Repeat("up U\n", 20) + "ups a b\n" + end, api.ErrWord},
		// Another order, or another number of lines.
		{"", api.ErrForm}, {"total 9\ntries 0\nfails 1\n", api.ErrForm}, {"total 9\n", api.ErrForm}, {"tries 0\nfails 1\ncool 5\n", api.ErrForm},
		{"total 9\nfails 1\ntries 0\ncool 5\n", api.ErrForm}, {end + end, api.ErrForm}, {"total 9\n" + end, api.ErrForm}, {"total 8\n" + end, api.ErrForm}, {end + "cool 5\n", api.ErrForm},
		{"total 9\ntries 0\ntries 0\nfails 1\ncool 5\n", api.ErrForm}, {end + up, api.ErrForm}, {end + "drop a\n", api.ErrForm},
		{"drop a\nset b c\n" + end, api.ErrForm}, {"set b c\n" + up + end, api.ErrForm}, {"route / u /\n" + up + end, api.ErrForm}, {"drop a\n" + up + end, api.ErrForm},
		{"set b c\nroute / u /\n" + end, api.ErrForm}, {"total 9\ndrop a\ntries 0\nfails 1\ncool 5\n", api.ErrForm}, {up + "route / u /\n" + "up v a\n" + end, api.ErrForm},
		{"total 0\ntries 0\nfails 0\n", api.ErrForm}, {"tries 0\nfails 1\n", api.ErrForm}, {"cool 0\n", api.ErrForm},
		// Another number of words.
		{"up\n" + end, api.ErrForm}, {"route\n" + end, api.ErrForm}, {up + "route /\n" + end, api.ErrForm}, {up + "route / u\n" + end, api.ErrForm}, {up + "route / u / /\n" + end, api.ErrForm},
		{"route 5\n" + end, api.ErrForm}, {"set 5\n" + end, api.ErrForm}, {"set\n" + end, api.ErrForm}, {"set X\n" + end, api.ErrForm}, {"drop\n" + end, api.ErrForm}, {"drop a b\n" + end, api.ErrForm},
		{"drop a \n" + end, api.ErrForm}, {"total\ntries 0\nfails 1\ncool 5\n", api.ErrForm}, {"total 9 9\ntries 0\nfails 1\ncool 5\n", api.ErrForm}, {"total 9 \ntries 0\nfails 1\ncool 5\n", api.ErrForm},
		{"total 9\ntries 0\nfails 1\ncool\n", api.ErrForm}, {"total  9\ntries 0\nfails 1\ncool 5\n", api.ErrForm},
		// A number that isn't told so.
		{"total 09\ntries 0\nfails 1\ncool 5\n", api.ErrForm}, {"total 9\ntries 00\nfails 1\ncool 5\n", api.ErrForm}, {"total 9\ntries -0\nfails 1\ncool 5\n", api.ErrForm}, {"total 9\ntries 0\nfails +1\ncool 5\n", api.ErrForm},
		{"total 9\ntries 0\nfails 1\ncool -1\n", api.ErrForm}, {"total 9\ntries 0\nfails 1\ncool x\n", api.ErrForm}, {"total 9\ntries 0\nfails 1\ncool \n", api.ErrForm}, {"total 0x9\ntries 0\nfails 1\ncool 5\n", api.ErrForm},
		{"total 999999999999999999\ntries 0\nfails 1\ncool 5\n", api.ErrArg}, {"total 1000000000000000000\ntries 0\nfails 1\ncool 5\n", api.ErrForm}, {"total 18446744073709551625\ntries 0\nfails 1\ncool 5\n", api.ErrForm},
		{"total 4294967305\ntries 0\nfails 1\ncool 5\n", api.ErrArg},
		// Such lines, but Check's error; an empty word is one.
		{"up u\n" + end, api.ErrMany}, {strings.Repeat("up u a\n", 17) + end, api.ErrMany}, {"up u a a a a a a a a a\n" + end, api.ErrMany},
		{"up \n" + end, api.ErrMany}, {"up  a\n" + end, api.ErrArg}, {"up u \n" + end, api.ErrArg}, {"up u a \n" + end, api.ErrArg}, {"up u  a\n" + end, api.ErrArg},
		{up + "route  u /\n" + end, api.ErrArg}, {up + "route / u \n" + end, api.ErrArg}, {up + "route /  /\n" + end, api.ErrName}, {"drop \n" + end, api.ErrArg}, {"set  a\n" + end, api.ErrArg},
		{"set X  a\n" + end, api.ErrArg}, {"set X a \n" + end, api.ErrArg}, {"set X  \n" + end, api.ErrArg}, {"set X: a\n" + end, api.ErrArg}, {"set X a\rb\n" + end, api.ErrArg}, {"drop Expect\n" + end, api.ErrArg},
		{"total 9\ntries 4\nfails 1\ncool 5\n", api.ErrArg}, {up + up + end, api.ErrSame}, {"route / u /\n" + end, api.ErrName}, {up + "route / U /\n" + end, api.ErrName},
		// Too long: ahead of all else.
		{strings.Repeat("x", 4096), api.ErrForm}, {strings.Repeat("x", 4097), api.ErrLong}, {strings.Repeat("x", 4095) + "\n", api.ErrWord}, {strings.Repeat("x", 4096) + "\n", api.ErrLong}, {strings.Repeat("\n", 4097), api.ErrLong},
		{strings.Repeat("drop a\n", 1<<16) + end, api.ErrLong},
	} {
		c, e := conf.Read(x.s)
		if e != x.e || e != api.OK && !reflect.DeepEqual(deep(c), api.Conf{}) {
			t.Errorf("Read(%.80q) = %+v, %d; want %d", x.s, c, e, x.e)
		}
		holdText(t, x.s)
	}
	if c, e := conf.Read(whole); e != api.OK || !reflect.DeepEqual(c, some()) {
		t.Errorf("Read(%q) = %+v, %d", whole, c, e)
	}
	if s, e := conf.Write(some()); e != api.OK || s != whole {
		t.Errorf("Write(some()) = %q, %d", s, e)
	}
	if c, _ := conf.Read("total 4\ntries 1\nfails 2\ncool 3\n"); !reflect.DeepEqual(deep(c), api.Conf{Total: 4, Tries: 1, Fails: 2, Cool: 3}) {
		t.Errorf("each number in its place: %+v", c)
	}
}

// P10.2: a right text of just 4096 bytes is read, one of a byte more isn't, though it is written.
func TestLongest(t *testing.T) {
	for _, x := range []struct {
		bytes int
		e     api.Errno
	}{{4095, api.OK}, {4096, api.OK}, {4097, api.ErrLong}} {
		c := some()
		c.Set = slices.Repeat(c.Set[:1], 5)
		s, _ := conf.Write(c)
		for i := 0; i < len(c.Set) && len(s) < x.bytes; i++ {
			v := &c.Set[i].Value
			*v += strings.Repeat("y", min(1000-len(*v), x.bytes-len(s)))
			s, _ = conf.Write(c)
		}
		got, e := conf.Read(s)
		if len(s) != x.bytes || e != x.e || e == api.OK && !reflect.DeepEqual(got, c) {
			t.Errorf("Read of %d bytes: %d", len(s), e)
		}
		hold(t, c)
	}
}

// P10.1, P10.2: each byte ahead and instead of each place of a text; each beginning; each place left out; each line elsewhere.
func TestEveryByte(t *testing.T) {
	for i := range len(whole) + 1 {
		holdText(t, whole[:i])
		for b := range 256 {
			holdText(t, whole[:i]+string([]byte{byte(b)})+whole[i:])
			if i < len(whole) {
				holdText(t, whole[:i]+string([]byte{byte(b)})+whole[i+1:])
			}
		}
		if i < len(whole) {
			holdText(t, whole[:i]+whole[i+1:])
		}
	}
	lines := strings.SplitAfter(strings.TrimSuffix(whole, "\n"), "\n")
	lines[len(lines)-1] += "\n"
	for i, l := range lines {
		rest := slices.Delete(slices.Clone(lines), i, i+1)
		for j := range len(rest) + 1 {
			holdText(t, strings.Join(slices.Insert(slices.Clone(rest), j, l), ""))
			holdText(t, strings.Join(slices.Insert(slices.Clone(lines), j, l), ""))
			holdText(t, strings.Join(slices.Concat(rest[:j], []string{l[:2] + "x" + l[2:]}, rest[j:]), ""))
		}
	}
}

// P10.1, P10.2: rows of pieces.
func TestPieces(t *testing.T) {
	pieces := []string{
		"up", "route", "set", "drop", "total", "tries", "fails", "cool", " ", "\n", " u", " /", " 1", " 0", "x",
		"up u a\n", "up v a b\n", "route / u /\n", "route /x v /\n", "set a b\n", "drop c\n", "total 9\n", "tries 0\n", "fails 1\n", "cool 5\n", end,
	}
	r := rand.New(rand.NewSource(10))
	for range 60000 {
		s := ""
		for range r.Intn(8) {
			s += pieces[r.Intn(len(pieces))]
		}
		holdText(t, s)
		holdText(t, s+end)
	}
}

// P10.3: arguments stay, the memory behind a list's length too.
func TestArgumentsStay(t *testing.T) {
	aims := []string{"a", "b", "behind", "behind too"}
	ups := []api.Up{{Name: "u", Aims: aims[:2]}, {Name: "behind", Aims: aims[2:]}}
	routes := []api.Route{{Prefix: "/", Up: "u", Swap: "/"}, {Prefix: "behind"}}
	set := []api.Field{{Name: "X", Value: "a"}, {Name: "behind"}}
	drop := []string{"d", "behind"}
	c := api.Conf{Ups: ups[:1], Routes: routes[:1], Set: set[:1], Drop: drop[:1], Total: 1, Fails: 1}
	for range 2 {
		if e := conf.Check(c); e != api.OK {
			t.Errorf("Check(%+v) = %d", c, e)
		}
		if s, e := conf.Write(c); e != api.OK || s != "up u a b\nroute / u /\nset X a\ndrop d\ntotal 1\ntries 0\nfails 1\ncool 0\n" {
			t.Errorf("Write(%+v) = %q, %d", c, s, e)
		}
	}
	if !slices.Equal(aims, []string{"a", "b", "behind", "behind too"}) || ups[1].Name != "behind" || len(ups[1].Aims) != 2 ||
		routes[1].Prefix != "behind" || set[1].Name != "behind" || drop[1] != "behind" {
		t.Errorf("changed: %q, %+v, %+v, %+v, %q", aims, ups, routes, set, drop)
	}
}

// shared tells whether two texts have memory in common.
func shared(a, b string) bool {
	if a == "" || b == "" {
		return false
	}
	from, to := uintptr(unsafe.Pointer(unsafe.StringData(a))), uintptr(unsafe.Pointer(unsafe.StringData(b)))
	return from < to+uintptr(len(b)) && to < from+uintptr(len(a))
}

// P10.3: answers are new memory; no two lists of one share any, spare room too.
func TestNewMemory(t *testing.T) {
	s := strings.Clone(whole)
	c, _ := conf.Read(s)
	for _, part := range []string{c.Ups[0].Name, c.Ups[0].Aims[1], c.Routes[1].Prefix, c.Routes[1].Up, c.Routes[1].Swap, c.Set[0].Name, c.Set[0].Value, c.Drop[1]} {
		if shared(part, s) {
			t.Errorf("%q has memory of the text", part)
		}
	}
	for i := range c.Ups {
		over := c.Ups[i].Aims[:cap(c.Ups[i].Aims)]
		for j := range over {
			over[j] = "over"
		}
		want := some()
		for k := range i + 1 {
			want.Ups[k].Aims = slices.Repeat([]string{"over"}, len(want.Ups[k].Aims))
		}
		if !reflect.DeepEqual(c, want) {
			t.Errorf("the aims of %d written over: %+v", i, c)
		}
	}
	drop := c.Drop[:cap(c.Drop)]
	for i := range drop {
		drop[i] = "over"
	}
	if c.Routes[0] != some().Routes[0] || c.Set[0] != some().Set[0] || c.Ups[0].Name != "u" {
		t.Errorf("Drop written over: %+v", c)
	}
	if again, _ := conf.Read(s); !reflect.DeepEqual(again, some()) {
		t.Errorf("read again: %+v", again)
	}
	d := conf.Default()
	d.Total, d.Drop = 0, append(d.Drop, "x")
	if !reflect.DeepEqual(deep(conf.Default()), api.Conf{Total: 100, Tries: 1, Fails: 3, Cool: 50}) {
		t.Error("Default has changed")
	}
}
