package route_test

import (
	"math/rand"
	"slices"
	"strings"
	"testing"
	"unsafe"

	"tollbar/api"
	"tollbar/route"
)

// shared tells whether two texts have memory in common.
func shared(a, b string) bool {
	if a == "" || b == "" {
		return false
	}
	from, to := uintptr(unsafe.Pointer(unsafe.StringData(a))), uintptr(unsafe.Pointer(unsafe.StringData(b)))
	return from < to+uintptr(len(b)) && to < from+uintptr(len(a))
}

// texts is every text of at most so many of these signs.
func texts(signs string, most int) []string {
	all := []string{""}
	for i := 0; i < len(all); i++ {
		if len(all[i]) < most {
			for _, r := range signs {
				all = append(all, all[i]+string(r))
			}
		}
	}
	return all
}

// wantFits says again, byte by byte, what the chapter's Words say.
func wantFits(prefix, target string) bool {
	for i := range len(prefix) {
		if i >= len(target) || target[i] == '?' || target[i] != prefix[i] {
			return false
		}
	}
	n := len(prefix)
	if n == len(target) || target[n] == '?' {
		return true
	}
	return target[n] == '/' || n > 0 && prefix[n-1] == '/'
}

// wantRewrite says again, case by case, what the chapter says of Rewrite.
func wantRewrite(r api.Route, target string) (string, bool) {
	if !wantFits(r.Prefix, target) {
		return "", false
	}
	rest := []byte(target)[len(r.Prefix):]
	b := []byte(r.Swap)
	swapEnds := len(b) > 0 && b[len(b)-1] == '/'
	if len(rest) > 0 {
		switch {
		case swapEnds && rest[0] == '/':
			b = b[:len(b)-1]
		case !swapEnds && rest[0] != '/' && rest[0] != '?':
			b = append(b, '/')
		}
	}
	b = append(b, rest...)
	if len(b) > 512 {
		return "", false
	}
	return string(b), true
}

// wantMatch tells whether at is the place that the chapter asks for: it fits, none is longer, none ahead as long.
func wantMatch(rs []api.Route, target string, at int) bool {
	if at == -1 {
		return !slices.ContainsFunc(rs, func(r api.Route) bool { return wantFits(r.Prefix, target) })
	}
	if at < 0 || at >= len(rs) || !wantFits(rs[at].Prefix, target) {
		return false
	}
	for i, r := range rs {
		if wantFits(r.Prefix, target) && (len(r.Prefix) > len(rs[at].Prefix) || i < at && len(r.Prefix) == len(rs[at].Prefix)) {
			return false
		}
	}
	return true
}

// P11.1: which prefixes fit.
func TestFits(t *testing.T) {
	long := "/" + strings.Repeat("a", 100000)
	for _, x := range []struct {
		prefix, target string
		want           bool
	}{
		// The path is the prefix.
		{"/", "/", true}, {"/a", "/a", true}, {"/a/", "/a/", true}, {"/a", "/a?", true}, {"/a", "/a?x", true}, {"/a", "/a?/b", true}, {"/a", "/a??", true}, {"", "", true}, {"", "?", true}, {"", "?x", true}, {"*", "*", true}, {"a", "a", true},
		// It begins with it, and the prefix ends with /.
		{"/", "/a", true}, {"/", "//", true}, {"/", "/?", true}, {"/a/", "/a/b", true}, {"/a/", "/a//", true}, {"/a/", "/a/?b", true}, {"a/", "a/b", true},
		// It begins with it, and a / stands behind it.
		{"/a", "/a/", true}, {"/a", "/a/b", true}, {"/a", "/a//b", true}, {"/a", "/a/?b", true}, {"", "/", true}, {"", "/a", true}, {"*", "*/", true},
		// It begins with it, but another byte stands behind it, a / perhaps later.
		{"/a", "/ab", false}, {"/a", "/ab/", false}, {"/a", "/ab/c", false}, {"/a", "/a.", false}, {"/a", "/a\x00", false}, {"/a", "/a#/b", false}, {"/a", "/a%2fb", false}, {"", "a", false}, {"", "a/", false}, {"", "*", false},
		// It doesn't begin with it.
		{"/a", "/", false}, {"/a", "", false}, {"/", "", false}, {"/a/", "/a", false}, {"/a/", "/a?/", false}, {"/a", "/A", false}, {"/a", "a", false}, {"/a", "/b/a", false}, {"/", "*", false}, {"/", "?/", false}, {"//", "/", false},
		// No path has a ?.
		{"/a?", "/a?", false}, {"/a?x", "/a?x", false}, {"/?", "/?", false}, {"?", "?", false}, {"/a?/", "/a?/", false}, {"/a?/", "/a?/b", false},
		{long, long, true}, {long, long + "/", true}, {long, long + "a", false}, {long + "a", long, false},
		{"/\xff", "/\xff/\xfe", true}, {"/\xc3", "/\xc3\xa4", false},
	} {
		if got := route.Fits(x.prefix, x.target); got != x.want || wantFits(x.prefix, x.target) != x.want {
			t.Errorf("Fits(%.40q, %.40q) = %v", x.prefix, x.target, got)
		}
	}
}

// P11.1: every short prefix and target; every byte behind a prefix.
func TestFitsEvery(t *testing.T) {
	for _, target := range texts("/?ab", 5) {
		for _, prefix := range texts("/?a", 4) {
			if got := route.Fits(prefix, target); got != wantFits(prefix, target) {
				t.Fatalf("Fits(%q, %q) = %v", prefix, target, got)
			}
		}
	}
	for i := range 256 {
		b := string([]byte{byte(i)})
		for _, prefix := range []string{"", "/", "/x", "/x/", b, "/" + b} {
			for _, target := range []string{b, prefix + b, prefix + b + "/", b + prefix} {
				if got := route.Fits(prefix, target); got != wantFits(prefix, target) {
					t.Fatalf("Fits(%q, %q) = %v", prefix, target, got)
				}
			}
		}
	}
}

// of is routes of these prefixes.
func of(prefixes ...string) []api.Route {
	var rs []api.Route
	for _, p := range prefixes {
		rs = append(rs, api.Route{Prefix: p, Up: "u", Swap: "/s"})
	}
	return rs
}

// P11.1, P11.2: which route is matched.
func TestMatch(t *testing.T) {
	for _, x := range []struct {
		rs     []api.Route
		target string
		want   int
	}{
		{of("/", "/a"), "/a/b?x", 1}, {of("/", "/a"), "/ab", 0}, {of("/a", "/"), "/a/b", 0}, {of("/a", "/"), "/ab", 1},
		{of("/a", "/a/", "/a/b", "/a/b/"), "/a", 0}, {of("/a", "/a/", "/a/b", "/a/b/"), "/a/", 1}, {of("/a", "/a/", "/a/b", "/a/b/"), "/a/bc", 1},
		{of("/a", "/a/", "/a/b", "/a/b/"), "/a/b", 2}, {of("/a", "/a/", "/a/b", "/a/b/"), "/a/b/c", 3}, {of("/a/b/", "/a/b", "/a/", "/a"), "/a/b/c", 0}, {of("/a", "/a/", "/a/b", "/a/b/"), "/", -1},
		{of("/a", "/a", "/a"), "/a", 0}, {of("/", "/a", "/", "/a"), "/a", 1}, {of("/b", "/a", "/a"), "/a/", 1}, {of("/longer/", "/a", "/"), "/x", 2},
		{nil, "/", -1}, {of(), "", -1}, {of("/"), "", -1}, {of("/"), "*", -1}, {of("*", "/"), "*", 0}, {of(""), "", 0}, {of(""), "/", 0}, {of("", "/"), "/", 1}, {of(""), "x", -1}, {of("/a?x"), "/a?x", -1}, {of("/a?x", "/a"), "/a?x", 1},
		{slices.Concat(of(slices.Repeat([]string{"/x"}, 100000)...), of("/")), "/y", 100000},
	} {
		if got := route.Match(x.rs, x.target); got != x.want {
			t.Errorf("Match of %d, %.60q, %q is %d", len(x.rs), x.rs, x.target, got)
		}
	}
}

// P11.2: of every few of some prefixes, in every order, the one that is matched fits, and no longer one does.
func TestMatchEveryOrder(t *testing.T) {
	prefixes := []string{"/", "/a", "/a/", "/a/b", "/b", "/a", "", "/ab", "/a?"}
	targets := []string{"", "/", "/a", "/a/", "/a/b", "/a/b/c", "/ab", "/ab/", "/b?/a", "/c", "*", "a", "/a?x"}
	rows := [][]string{nil}
	for i := 0; i < len(rows); i++ {
		if len(rows[i]) < 4 {
			for _, p := range prefixes {
				rows = append(rows, append(slices.Clone(rows[i]), p))
			}
		}
		rs := of(rows[i]...)
		back := slices.Clone(rs)
		slices.Reverse(back)
		for _, target := range targets {
			at, other := route.Match(rs, target), route.Match(back, target)
			if !wantMatch(rs, target, at) {
				t.Fatalf("Match(%q, %q) = %d", rows[i], target, at)
			}
			if (at < 0) != (other < 0) || at >= 0 && rs[at].Prefix != back[other].Prefix {
				t.Fatalf("Match(%q, %q) = %d; the other way round %d", rows[i], target, at, other)
			}
		}
	}
}

// P11.2: what stands in a route beside its Prefix doesn't count.
func TestMatchPrefixAlone(t *testing.T) {
	rs := []api.Route{{Prefix: "/", Up: "longest-name", Swap: "/a/a/a/a"}, {Prefix: "/a"}, {Prefix: "/b", Swap: "/a/b"}}
	if at := route.Match(rs, "/a/b"); at != 1 {
		t.Errorf("Match = %d", at)
	}
}

// P11.1, P11.3: what is rewritten.
func TestRewrite(t *testing.T) {
	for _, x := range []struct {
		prefix, swap, target, want string
		ok                         bool
	}{
		{"/a", "/n", "/a/b", "/n/b", true}, {"/a/", "/n", "/a/b", "/n/b", true}, {"/a", "/", "/a", "/", true}, {"/a", "/", "/a?x", "/?x", true},
		{"/a", "/n", "/a", "/n", true}, {"/a", "/n", "/a?x", "/n?x", true}, {"/a", "/n", "/a/", "/n/", true}, {"/a", "/n", "/a/?x", "/n/?x", true}, {"/a/", "/n", "/a/", "/n", true}, {"/a/", "/n", "/a/?x", "/n?x", true},
		{"/a", "/n/", "/a/b", "/n/b", true}, {"/a", "/n/", "/a", "/n/", true}, {"/a", "/n/", "/a//b", "/n//b", true}, {"/a", "/n/", "/a?/b", "/n/?/b", true}, {"/a/", "/n/", "/a/b", "/n/b", true}, {"/a/", "/n/", "/a//b", "/n/b", true},
		{"/a", "/n//", "/a/b", "/n//b", true}, {"/a", "/n//", "/a//b", "/n///b", true}, {"/a/", "/n", "/a//b", "/n/b", true}, {"/", "/", "/", "/", true}, {"/", "/", "/b", "/b", true}, {"/", "/", "//", "/", true}, {"/", "/n", "/b?/?", "/n/b?/?", true},
		{"/a", "/n?y", "/a/b", "/n?y/b", true}, {"/a", "/n?y/", "/a/b", "/n?y/b", true}, {"/a/", "/n?", "/a/b", "/n?/b", true}, {"/a", "/n?y", "/a?x", "/n?y?x", true},
		{"", "", "", "", true}, {"", "/n", "", "/n", true}, {"", "", "/b", "/b", true}, {"", "/", "/b", "/b", true}, {"/", "", "/b", "/b", true}, {"/a/", "", "/a/b", "/b", true}, {"/a", "", "/a", "", true}, {"/a", "", "/a?x", "?x", true}, {"*", "x", "*", "x", true},
		{"/a/", "\xff", "/a/\xfe", "\xff/\xfe", true}, {"/a", "/a", "/a/a", "/a/a", true},
		// The prefix doesn't fit.
		{"/a", "/n", "/ab", "", false}, {"/a", "/n", "/", "", false}, {"/a/", "/n", "/a", "", false}, {"/a", "/n", "", "", false}, {"", "/n", "*", "", false}, {"/a?", "/n", "/a?", "", false}, {"/a", "/n", "/ab/a", "", false}, {"/ab", "/n", "/a", "", false},
	} {
		if got, ok := route.Rewrite(api.Route{Prefix: x.prefix, Up: "u", Swap: x.swap}, x.target); got != x.want || ok != x.ok {
			t.Errorf("Rewrite of %q to %q: %q is %q, %v", x.prefix, x.swap, x.target, got, ok)
		}
	}
}

// P11.1: what comes of it has at most 512 bytes, the / between and the one that is left out counted.
func TestRewriteBounds(t *testing.T) {
	for n := 500; n <= 520; n++ {
		s := strings.Repeat("s", n)
		for _, x := range []struct {
			r      api.Route
			target string
			bytes  int
		}{
			{api.Route{Prefix: "/a", Swap: "/"}, "/a/" + s, n + 1}, {api.Route{Prefix: "/a", Swap: "/n"}, "/a/" + s, n + 3}, {api.Route{Prefix: "/a/", Swap: "/n"}, "/a/" + s, n + 3}, {api.Route{Prefix: "/a/", Swap: ""}, "/a/" + s, n + 1},
			{api.Route{Prefix: "/a/", Swap: "/"}, "/a/" + s, n + 1}, {api.Route{Prefix: "/a", Swap: s}, "/a", n}, {api.Route{Prefix: "/a", Swap: s}, "/a?", n + 1}, {api.Route{Prefix: "/a", Swap: s + "/"}, "/a/", n + 1},
			{api.Route{Prefix: "/a/", Swap: s}, "/a/b", n + 2}, {api.Route{Prefix: "/" + s, Swap: "/"}, "/" + s, 1}, {api.Route{Prefix: "/" + s, Swap: "/"}, "/" + s + "/b", 2}, {api.Route{Prefix: "/a", Swap: ""}, "/a?" + s, n + 1},
		} {
			got, ok := route.Rewrite(x.r, x.target)
			want, right := wantRewrite(x.r, x.target)
			if ok != (x.bytes <= 512) || ok && len(got) != x.bytes || got != want || ok != right {
				t.Errorf("Rewrite(%.20q, %.20q) has %d bytes, %v; want %d", x.r, x.target, len(got), ok, x.bytes)
			}
		}
	}
	huge := strings.Repeat("/a", 1<<20)
	for _, x := range []struct {
		r      api.Route
		target string
		want   string
	}{{api.Route{Prefix: "/", Swap: "/"}, huge, ""}, {api.Route{Prefix: "/", Swap: huge}, "/", ""}, {api.Route{Prefix: huge, Swap: "/n"}, huge + "/b", "/n/b"}, {api.Route{Prefix: huge, Swap: "/n"}, "/b", ""}} {
		if got, ok := route.Rewrite(x.r, x.target); got != x.want || ok != (x.want != "") {
			t.Errorf("a huge one is %.40q, %v", got, ok)
		}
	}
}

// P11.1, P11.3: every short prefix, swap and target.
func TestRewriteEvery(t *testing.T) {
	fits := 0
	for _, target := range texts("/?a", 5) {
		_, query, asks := strings.Cut(target, "?")
		for _, prefix := range texts("/?a", 3) {
			for _, swap := range texts("/?s", 3) {
				r := api.Route{Prefix: prefix, Swap: swap}
				got, ok := route.Rewrite(r, target)
				want, right := wantRewrite(r, target)
				if got != want || ok != right || ok != route.Fits(prefix, target) {
					t.Fatalf("Rewrite(%q, %q) = %q, %v; want %q, %v", r, target, got, ok, want, right)
				}
				if !ok || !strings.HasPrefix(prefix, "/") || !strings.HasPrefix(swap, "/") {
					continue
				}
				fits++
				if !strings.HasPrefix(got, swap) || asks && !strings.HasSuffix(got, "?"+query) {
					t.Fatalf("Rewrite(%q, %q) = %q", r, target, got)
				}
			}
		}
	}
	if fits < 1000 {
		t.Errorf("only %d fit", fits)
	}
}

// P11.1 to P11.3: paths and targets of some length, by chance.
func TestChance(t *testing.T) {
	rnd := rand.New(rand.NewSource(11))
	text := func(most int) string {
		b := []byte("/")
		for range rnd.Intn(most) {
			b = append(b, "/ab?/ab."[rnd.Intn(8)])
		}
		return string(b)
	}
	fits := 0
	for range 100000 {
		var rs []api.Route
		for range rnd.Intn(6) {
			rs = append(rs, api.Route{Prefix: text(5), Swap: text(100)})
		}
		target := text(8) + strings.Repeat("x", max(0, rnd.Intn(800)-300))
		at := route.Match(rs, target)
		if !wantMatch(rs, target, at) {
			t.Fatalf("Match(%q, %q) = %d", rs, target, at)
		}
		if at < 0 {
			continue
		}
		got, ok := route.Rewrite(rs[at], target)
		if want, right := wantRewrite(rs[at], target); got != want || ok != right {
			t.Fatalf("Rewrite(%q, %q) = %q, %v", rs[at], target, got, ok)
		}
		if ok {
			fits++
		}
	}
	if fits < 10000 {
		t.Errorf("only %d fit", fits)
	}
}

// What is answered is new memory, and arguments stay.
func TestMemory(t *testing.T) {
	for _, x := range []struct{ prefix, swap, target string }{{"/a", "/n", "/a"}, {"/a", "/n/", "/a/"}, {"/a", "", "/a/b"}, {"/", "/", "/"}, {"", "", "/b"}, {"/a/", "/n", "/a/b"}, {"/a", "/n", "/a?x"}} {
		r := api.Route{Prefix: strings.Clone(x.prefix), Swap: strings.Clone(x.swap)}
		target := strings.Clone(x.target)
		got, ok := route.Rewrite(r, target)
		if !ok || shared(got, target) || shared(got, r.Swap) || shared(got, r.Prefix) {
			t.Errorf("Rewrite(%q, %q) = %q, %v shares memory", r, target, got, ok)
		}
	}
	rs := of("/", "/a", "/a/b", "/behind")
	route.Match(rs[:2], "/a/b")
	if !slices.Equal(rs, of("/", "/a", "/a/b", "/behind")) {
		t.Errorf("Match has changed %q", rs)
	}
	if at := route.Match(rs[:2], "/a/b"); at != 1 {
		t.Errorf("Match looks behind the list's length: %d", at)
	}
}
