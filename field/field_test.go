package field_test

import (
	"math/rand"
	"slices"
	"strings"
	"testing"
	"unsafe"

	"tollbar/api"
	"tollbar/field"
)

// one is a field.
func one(name, value string) api.Field { return api.Field{Name: name, Value: value} }

// many is n fields.
func many(n int) []api.Field { return slices.Repeat([]api.Field{one("a", "b")}, n) }

// isRight says again what the chapter's Words say of a field.
func isRight(f api.Field) bool {
	const signs = "abcdefghijklmnopqrstuvwxyzABCDEFGHIJKLMNOPQRSTUVWXYZ0123456789!#$%&'*+-.^_`|~"
	n, v := f.Name, f.Value
	for i := range len(n) {
		if strings.IndexByte(signs, n[i]) < 0 {
			return false
		}
	}
	for i := range len(v) {
		if v[i] != 9 && (v[i] < 32 || v[i] == 127) {
			return false
		}
	}
	blank := v != "" && strings.ContainsAny(v[:1]+v[len(v)-1:], " \t")
	return n != "" && len(n) <= 100 && len(v) <= 1000 && !blank
}

// shared tells whether two texts have memory in common.
func shared(a, b string) bool {
	if a == "" || b == "" {
		return false
	}
	from, to := uintptr(unsafe.Pointer(unsafe.StringData(a))), uintptr(unsafe.Pointer(unsafe.StringData(b)))
	return from < to+uintptr(len(b)) && to < from+uintptr(len(a))
}

// P4.1: each byte of a name and of a value, at each place; Right and Parse say the same.
func TestEveryByte(t *testing.T) {
	for i := range 256 {
		b := string([]byte{byte(i)})
		for _, s := range []string{b, b + "x", "x" + b, "x" + b + "y", b + b} {
			for _, f := range []api.Field{one(s, "v"), one("n", s)} {
				if got := field.Right([]api.Field{f}); got != isRight(f) {
					t.Errorf("Right of %q is %v", f, got)
				}
			}
			if f, e := field.Parse(s + ":v"); byte(i) != ':' && (e == api.OK) != isRight(one(s, "v")) {
				t.Errorf("Parse(%q:v) = %q, %d", s, f, e)
			}
			if f, e := field.Parse("n:" + s); (e == api.OK) != isRight(one("n", strings.Trim(s, " \t"))) {
				t.Errorf("Parse(n:%q) = %q, %d", s, f, e)
			}
		}
	}
}

// P4.1: how long a name and a value may be, and how many fields there may be.
func TestRightBounds(t *testing.T) {
	n, v := strings.Repeat("n", 100), strings.Repeat("v", 1000)
	for _, x := range []struct {
		fs   []api.Field
		want bool
	}{
		{nil, true}, {[]api.Field{}, true}, {many(1), true}, {many(api.MaxFields), true}, {many(api.MaxFields + 1), false}, {many(100000), false},
		{[]api.Field{one(n, v)}, true}, {[]api.Field{one(n+"n", "")}, false}, {[]api.Field{one("n", v+"v")}, false},
		{[]api.Field{one("", "")}, false}, {[]api.Field{one("", "v")}, false}, {[]api.Field{one("n", "")}, true},
		{[]api.Field{one("n", " ")}, false}, {[]api.Field{one("n", "\ta")}, false}, {[]api.Field{one("n", "a\t")}, false}, {[]api.Field{one("n", "a \tb")}, true},
		{append(many(39), one("n", "x\r\n")), false}, {append(many(39), one("n n", "")), false}, {append([]api.Field{one("n:", "")}, many(3)...), false},
		{append(many(2), append([]api.Field{one("", "")}, many(2)...)...), false}, {many(2)[:1:1], true},
	} {
		if got := field.Right(x.fs); got != x.want {
			t.Errorf("Right of %d fields, %.30q .., is %v", len(x.fs), x.fs, got)
		}
	}
}

// P4.1: lines that are a field's, and lines that are none.
func TestParse(t *testing.T) {
	n, v := strings.Repeat("n", 100), strings.Repeat("v", 1000)
	for _, x := range []struct {
		line string
		want api.Field
		e    api.Errno
	}{
		{"A-b:  x y\t", one("A-b", "x y"), api.OK}, {"a:", one("a", ""), api.OK}, {"a: \t ", one("a", ""), api.OK}, {"a:b", one("a", "b"), api.OK},
		{"a::", one("a", ":"), api.OK}, {"a: b:c ", one("a", "b:c"), api.OK}, {"a:\u00e9\xff", one("a", "\u00e9\xff"), api.OK}, {"a:\u00a0", one("a", "\u00a0"), api.OK},
		{n + ":" + v, one(n, v), api.OK}, {n + ":  " + v + "\t\t", one(n, v), api.OK}, {"a:" + strings.Repeat(" ", 5000) + "b", one("a", "b"), api.OK},
		{"", one("", ""), api.ErrForm}, {":", one("", ""), api.ErrForm}, {":b", one("", ""), api.ErrForm}, {"a", one("", ""), api.ErrForm},
		{" a: b", one("", ""), api.ErrForm}, {"a : b", one("", ""), api.ErrForm}, {"\ta:b", one("", ""), api.ErrForm}, {"a b:c", one("", ""), api.ErrForm},
		{"a: b\r", one("", ""), api.ErrForm}, {"a: b\r\n", one("", ""), api.ErrForm}, {"a:b\nc", one("", ""), api.ErrForm}, {"a:b\x00c", one("", ""), api.ErrForm}, {"a:\x7f", one("", ""), api.ErrForm},
		{"\u00e9:b", one("", ""), api.ErrForm}, {"a\n:b", one("", ""), api.ErrForm}, {"\n a: b", one("", ""), api.ErrForm},
		{n + "n:b", one("", ""), api.ErrForm}, {"a:" + v + "v", one("", ""), api.ErrForm}, {"a:v" + strings.Repeat(" ", 999) + "v", one("", ""), api.ErrForm},
	} {
		if got, e := field.Parse(x.line); got != x.want || e != x.e {
			t.Errorf("Parse(%.40q) = %.40q, %d; want %.40q, %d", x.line, got, e, x.want, x.e)
		}
	}
}

// P4.1: a line is made of every field, right or not.
func TestLine(t *testing.T) {
	for _, x := range []struct {
		f    api.Field
		want string
	}{
		{one("Y", "z"), "Y: z\r\n"}, {one("Y", ""), "Y: \r\n"}, {one("", ""), ": \r\n"}, {one(" a", "b\n "), " a: b\n \r\n"}, {one("\xff", ":"), "\xff: :\r\n"},
	} {
		if got := field.Line(x.f); got != x.want {
			t.Errorf("Line(%q) = %q, want %q", x.f, got, x.want)
		}
	}
}

// P4.2: a right field's line is parsed as it, at all lengths and at random bytes.
func TestLineIsParsed(t *testing.T) {
	rnd := rand.New(rand.NewSource(4))
	const signs = "abcXYZ019!#$%&'*+-.^_`|~"
	right := 0
	for range 20000 {
		name, value := make([]byte, 1+rnd.Intn(4)), make([]byte, rnd.Intn(6))
		for i := range name {
			name[i] = signs[rnd.Intn(len(signs))]
		}
		for i := range value {
			value[i] = [...]byte{' ', '\t', ':', ',', 'v', '"', 128, 255, byte(rnd.Intn(256))}[rnd.Intn(9)]
		}
		f := one(string(name), string(value))
		line := field.Line(f)
		got, e := field.Parse(line[:len(line)-2])
		if field.Right([]api.Field{f}) && (got != f || e != api.OK) {
			t.Fatalf("%q is parsed as %q, %d", f, got, e)
		} else if e == api.OK {
			right++
		}
	}
	if right < 5000 {
		t.Errorf("only %d lines of 20000 were right", right)
	}
	for n := 1; n <= 100; n++ {
		f := one(strings.Repeat("n", n), strings.Repeat("v", n*10))
		line := field.Line(f)
		if got, e := field.Parse(line[:len(line)-2]); got != f || e != api.OK {
			t.Fatalf("a name of %d bytes: %d", n, e)
		}
	}
}

// mixed is fields of names that are the same folded, and of some that nearly are.
func mixed() []api.Field {
	return []api.Field{one("x", "1, 2"), one("Y", "z"), one("X", "3,"), one("xx", "4"), one("", "none"), one("x ", "5"), one("x", ""), one("\u212a", "sign"), one("k", "Letter , LAST,,\t")}
}

// P4.1: all values of a name, in order, as they are.
func TestGet(t *testing.T) {
	for _, x := range []struct {
		name string
		want []string
	}{
		{"x", []string{"1, 2", "3,", ""}}, {"X", []string{"1, 2", "3,", ""}}, {"y", []string{"z"}}, {"", []string{"none"}}, {"x ", []string{"5"}}, {"K", []string{"Letter , LAST,,\t"}}, {"\u212a", []string{"sign"}}, {"xxx", nil}, {" x", nil},
	} {
		if got := field.Get(mixed(), x.name); !slices.Equal(got, x.want) {
			t.Errorf("Get(%q) = %q, want %q", x.name, got, x.want)
		}
	}
	if got := field.Get(nil, "x"); len(got) != 0 {
		t.Errorf("Get of no fields is %q", got)
	}
}

// P4.1: the parts of all values, one behind the other, letters as they are.
func TestList(t *testing.T) {
	for _, x := range []struct {
		name string
		want []string
	}{
		{"x", []string{"1", "2", "3"}}, {"X", []string{"1", "2", "3"}}, {"K", []string{"Letter", "LAST"}}, {"", []string{"none"}}, {"z", nil},
	} {
		if got := field.List(mixed(), x.name); !slices.Equal(got, x.want) {
			t.Errorf("List(%q) = %q, want %q", x.name, got, x.want)
		}
	}
	twice := []api.Field{one("x", "1, 2"), one("x", "3")}
	if got := field.List(twice, "x"); !slices.Equal(got, []string{"1", "2", "3"}) {
		t.Errorf("the chapter's example is %q", got)
	}
	blank := []api.Field{one("x", " , "), one("x", ","), one("x", "")}
	if got := field.List(blank, "x"); len(got) != 0 {
		t.Errorf("List of empty parts is %q", got)
	}
}

// P4.1: a part is held against whole parts, folded, and isn't trimmed itself.
func TestHas(t *testing.T) {
	for _, x := range []struct {
		name, part string
		want       bool
	}{
		{"x", "1", true}, {"X", "2", true}, {"x", "3", true}, {"y", "Z", true}, {"k", "letter", true}, {"K", "lAST", true},
		{"x", "1, 2", false}, {"x", "", false}, {"x", " 1", false}, {"x", "4", false}, {"x", "5", false}, {"k", "lette", false}, {"k", "letters", false}, {"z", "z", false}, {"", "", false}, {"", "None", true}, {"x", "3,", false},
	} {
		if got := field.Has(mixed(), x.name, x.part); got != x.want {
			t.Errorf("Has(%q, %q) = %v", x.name, x.part, got)
		}
	}
	if field.Has(nil, "x", "") || field.Has([]api.Field{one("x", "\u212a")}, "x", "k") {
		t.Error("no fields have no part; other signs aren't folded")
	}
}

// P4.1: the fields but those of the names, in order.
func TestWithout(t *testing.T) {
	all := mixed()
	for _, x := range []struct {
		names []string
		left  []int
	}{
		{nil, []int{0, 1, 2, 3, 4, 5, 6, 7, 8}}, {[]string{"none"}, []int{0, 1, 2, 3, 4, 5, 6, 7, 8}}, {[]string{"x"}, []int{1, 3, 4, 5, 7, 8}}, {[]string{"y", "XX", "y"}, []int{0, 2, 4, 5, 6, 7, 8}},
		{[]string{""}, []int{0, 1, 2, 3, 5, 6, 7, 8}}, {[]string{"K"}, []int{0, 1, 2, 3, 4, 5, 6, 7}}, {[]string{"\u212a", "X"}, []int{1, 3, 4, 5, 8}}, {[]string{"x", "y", "xx", "", "x ", "k", "\u212a"}, nil},
	} {
		var want []api.Field
		for _, i := range x.left {
			want = append(want, all[i])
		}
		if got := field.Without(all, x.names...); !slices.Equal(got, want) {
			t.Errorf("Without(%q) = %q, want %q", x.names, got, want)
		}
	}
	if got := field.Without(nil, "x"); len(got) != 0 {
		t.Errorf("Without of no fields is %q", got)
	}
}

// P4.1: fields are the same byte by byte, and in order.
func TestSame(t *testing.T) {
	ab := []api.Field{one("a", "1"), one("b", "2")}
	for _, x := range []struct {
		a, b []api.Field
		want bool
	}{
		{nil, nil, true}, {nil, []api.Field{}, true}, {ab, slices.Clone(ab), true}, {mixed(), mixed(), true},
		{ab, ab[:1], false}, {ab, nil, false}, {ab, []api.Field{ab[1], ab[0]}, false}, {ab, []api.Field{ab[0], ab[0]}, false},
		{ab, []api.Field{one("A", "1"), ab[1]}, false}, {ab, []api.Field{ab[0], one("b", "2 ")}, false}, {ab[:1], []api.Field{one("", "a1")}, false}, {[]api.Field{one("a", "b")}, []api.Field{one("b", "a")}, false},
	} {
		if field.Same(x.a, x.b) != x.want || field.Same(x.b, x.a) != x.want {
			t.Errorf("Same(%q, %q) isn't %v", x.a, x.b, x.want)
		}
	}
}

// P4.3: no text of an answer shares memory with what was handed in.
func TestAnswersAreNew(t *testing.T) {
	fs := []api.Field{one("long name", "long value, of parts"), one("other", "third")}
	var told []string
	told = append(told, field.Get(fs, "long name")...)
	told = append(told, field.List(fs, "long name")...)
	for _, f := range field.Without(fs, "none") {
		told = append(told, f.Name, f.Value)
	}
	told = append(told, field.Line(fs[0]), field.Line(one("", "")))
	line := "some-name:some value"
	f, _ := field.Parse(line)
	told = append(told, f.Name, f.Value)
	handed := []string{line, fs[0].Name, fs[0].Value, fs[1].Name, fs[1].Value}
	for i, s := range told {
		for _, h := range handed {
			if shared(s, h) {
				t.Errorf("%q shares memory with %q", s, h)
			}
		}
		for _, o := range told[:i] {
			if shared(s, o) {
				t.Errorf("%q shares memory with %q of another answer", s, o)
			}
		}
	}
}

// P4.3: arguments stay, the memory behind a list's length too; what is answered may be written over.
func TestArgumentsStay(t *testing.T) {
	whole := mixed()
	fs := whole[:6]
	names := []string{"X", "none", "Y"}
	got := field.Without(fs, names[:2]...)
	got = append(got[:cap(got)], one("more", "more"))
	clear(got)
	values, parts := field.Get(fs, "x"), field.List(fs, "x")
	clear(values[:cap(values)])
	clear(parts[:cap(parts)])
	field.Has(fs, "x", "1")
	field.Right(fs)
	field.Same(fs, whole)
	if !slices.Equal(whole, mixed()) || !slices.Equal(names, []string{"X", "none", "Y"}) {
		t.Errorf("%q, %q", whole, names)
	}
	if got := field.Without(fs); !slices.Equal(got, mixed()[:6]) {
		t.Errorf("an answer is seen by a later call: %q", got)
	}
}
