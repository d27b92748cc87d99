package sign_test

import (
	"math"
	"slices"
	"strings"
	"testing"

	"tollbar/sign"
)

const letters = "abcdefghijklmnopqrstuvwxyzABCDEFGHIJKLMNOPQRSTUVWXYZ"

// isToken, isValue and isTarget say again, sign by sign, what the chapter's Words say.
func isToken(b byte) bool {
	return strings.IndexByte(letters+"0123456789"+"!#$%&'*+-.^_`|~", b) >= 0
}
func isValue(b byte) bool  { return b == 9 || b >= 32 && b != 127 }
func isTarget(b byte) bool { return b > 32 && b < 127 }

// P2.1: each byte, alone and at each place of a text.
func TestEveryByte(t *testing.T) {
	for i := range 256 {
		b := byte(i)
		one := string([]byte{b})
		for _, s := range []string{one, one + "ab", "a" + one + "b", "ab" + one, one + one} {
			if sign.Token(s) != isToken(b) {
				t.Errorf("Token(%q) = %v", s, !isToken(b))
			}
			if sign.Value(s) != isValue(b) {
				t.Errorf("Value(%q) = %v", s, !isValue(b))
			}
			if sign.Target(s) != isTarget(b) {
				t.Errorf("Target(%q) = %v", s, !isTarget(b))
			}
		}
	}
}

// P2.1: no byte is a value's, but neither a token's nor a target's; one wrong byte counts anywhere.
func TestEmptyAndLong(t *testing.T) {
	if sign.Token("") || !sign.Value("") || sign.Target("") {
		t.Error("the empty text")
	}
	long := strings.Repeat("x", 100000)
	if !sign.Token(long) || !sign.Value(long) || !sign.Target(long) {
		t.Error("a long text")
	}
	long += "\x00"
	if sign.Token(long) || sign.Value(long) || sign.Target(long) {
		t.Error("a long text with a wrong end")
	}
}

// P2.1: blanks are 32 and 9, and no other white space.
func TestTrim(t *testing.T) {
	for _, x := range []struct{ s, want string }{
		{"", ""}, {" ", ""}, {"\t", ""}, {" \t \t", ""}, {"a", "a"}, {" a", "a"}, {"a ", "a"},
		{"\t a \tb\t ", "a \tb"}, {"\ra\n", "\ra\n"}, {" \n ", "\n"}, {"\v a\f", "\v a\f"},
		{"\u00a0a\u00a0", "\u00a0a\u00a0"}, {" \u3000 ", "\u3000"}, {" \xff\x80 ", "\xff\x80"}, {" \x00 ", "\x00"},
	} {
		if got := sign.Trim(x.s); got != x.want {
			t.Errorf("Trim(%q) = %q, want %q", x.s, got, x.want)
		}
	}
}

// P2.1, P2.2: A to Z alone are turned; all other bytes stay, and folded texts are folded.
func TestFold(t *testing.T) {
	for i := range 256 {
		s, want := string([]byte{byte(i)}), string([]byte{byte(i)})
		if at := strings.Index("ABCDEFGHIJKLMNOPQRSTUVWXYZ", s); at >= 0 {
			want = letters[at : at+1]
		}
		if got := sign.Fold(s); got != want {
			t.Errorf("Fold(%q) = %q, want %q", s, got, want)
		}
		if twice := sign.Fold(sign.Fold("Q" + s)); twice != "q"+want {
			t.Errorf("folded twice, Q%q is %q", s, twice)
		}
	}
	for _, x := range []struct{ s, want string }{
		{"", ""}, {"Content-LENGTH", "content-length"}, {"ÄÉ\u212a\u0130", "ÄÉ\u212a\u0130"}, {"A\xffB\xc3", "a\xffb\xc3"}, {"@[`{", "@[`{"},
	} {
		if got := sign.Fold(x.s); got != x.want || sign.Fold(got) != got {
			t.Errorf("Fold(%q) = %q, want %q", x.s, got, x.want)
		}
	}
}

// P2.1: the same, folded; not by Unicode, not by a prefix.
func TestSame(t *testing.T) {
	for _, x := range []struct {
		a, b string
		want bool
	}{
		{"", "", true}, {"Host", "hOST", true}, {"a", "b", false}, {"a", "ab", false}, {"ab", "a", false}, {"", "a", false},
		{"é", "É", false}, {"k", "\u212a", false}, {"@", "`", false}, {"[", "{", false}, {"\xff", "\xfe", false}, {"\xffA", "\xffa", true},
	} {
		if sign.Same(x.a, x.b) != x.want || sign.Same(x.b, x.a) != x.want {
			t.Errorf("Same(%q, %q) isn't %v", x.a, x.b, x.want)
		}
	}
	for i := range 256 {
		for j := range 256 {
			a, b := string([]byte{byte(i)}), string([]byte{byte(j)})
			if sign.Same(a, b) != (sign.Fold(a) == sign.Fold(b)) {
				t.Fatalf("Same(%q, %q)", a, b)
			}
		}
	}
}

// P2.1: parts stand between commas, trimmed; empty ones don't.
func TestSplit(t *testing.T) {
	for _, x := range []struct {
		s    string
		want []string
	}{
		{"", nil}, {",", nil}, {" ,\t, ", nil}, {" ", nil}, {"a", []string{"a"}}, {"a, ,b ", []string{"a", "b"}},
		{",a,,b,", []string{"a", "b"}}, {" a b ,\tc\t", []string{"a b", "c"}}, {"A,a,A", []string{"A", "a", "A"}},
		{"b,a", []string{"b", "a"}}, {"a;b", []string{"a;b"}}, {`"x,y"`, []string{`"x`, `y"`}}, {"\xff,\r\n", []string{"\xff", "\r\n"}},
	} {
		if got := sign.Split(x.s); !slices.Equal(got, x.want) {
			t.Errorf("Split(%q) = %q, want %q", x.s, got, x.want)
		}
	}
	if got := sign.Split(strings.Repeat("a,", 5000)); len(got) != 5000 || got[4999] != "a" {
		t.Errorf("%d parts of 5000", len(got))
	}
}

// P2.1: an answer is new memory each time.
func TestSplitIsNew(t *testing.T) {
	a, b := sign.Split("x,y"), sign.Split("x,y")
	a[0] = "z"
	if b[0] != "x" || sign.Split("x,y")[0] != "x" {
		t.Error("two answers share a list")
	}
}

// P2.1: 1 to 18 digits, and nothing else.
func TestDecimal(t *testing.T) {
	for _, x := range []struct {
		s  string
		n  int64
		ok bool
	}{
		{"0", 0, true}, {"9", 9, true}, {"10", 10, true}, {"007", 7, true}, {"123456789", 123456789, true},
		{strings.Repeat("9", 18), 999999999999999999, true}, {strings.Repeat("0", 18), 0, true}, {strings.Repeat("0", 17) + "1", 1, true},
		{strings.Repeat("9", 19), 0, false}, {strings.Repeat("0", 19), 0, false}, {"0000000000000000001", 0, false}, {strings.Repeat("1", 5000), 0, false},
		{"", 0, false}, {"+1", 0, false}, {"-1", 0, false}, {"-0", 0, false}, {" 1", 0, false}, {"1 ", 0, false}, {"1_0", 0, false},
		{"0x1", 0, false}, {"a", 0, false}, {"1a", 0, false}, {"1.0", 0, false}, {"1e3", 0, false}, {"٣", 0, false}, {"1\x00", 0, false}, {"1\n", 0, false},
	} {
		if n, ok := sign.Decimal(x.s); n != x.n || ok != x.ok {
			t.Errorf("Decimal(%q) = %d, %v", x.s, n, ok)
		}
	}
}

// P2.1: 1 to 15 digits of the base 16, and nothing else.
func TestHex(t *testing.T) {
	for _, x := range []struct {
		s  string
		n  int64
		ok bool
	}{
		{"0", 0, true}, {"1aF", 431, true}, {"9", 9, true}, {"a", 10, true}, {"f", 15, true}, {"A", 10, true}, {"F", 15, true}, {"10", 16, true}, {"00ff", 255, true},
		{strings.Repeat("f", 15), 1<<60 - 1, true}, {strings.Repeat("F", 15), 1<<60 - 1, true}, {"100000000000000", 1 << 56, true}, {strings.Repeat("0", 15), 0, true},
		{strings.Repeat("f", 16), 0, false}, {strings.Repeat("0", 16), 0, false}, {"0000000000000001", 0, false}, {strings.Repeat("1", 5000), 0, false},
		{"", 0, false}, {"g", 0, false}, {"G", 0, false}, {"1g", 0, false}, {"0x1", 0, false}, {"+1", 0, false}, {"-1", 0, false}, {" 1", 0, false}, {"1 ", 0, false},
		{"1_0", 0, false}, {"1h", 0, false}, {"1;x", 0, false}, {"a\xff", 0, false},
	} {
		if n, ok := sign.Hex(x.s); n != x.n || ok != x.ok {
			t.Errorf("Hex(%q) = %d, %v", x.s, n, ok)
		}
	}
}

// P2.1: of each byte alone, which digit it is.
func TestEveryDigit(t *testing.T) {
	for i := range 256 {
		s := string([]byte{byte(i)})
		dec := int64(strings.Index("0123456789", s))
		hex := int64(strings.Index("0123456789abcdef", s))
		if i >= 'A' && i <= 'F' {
			hex = int64(i-'A') + 10
		}
		if n, ok := sign.Decimal(s); n != max(dec, 0) || ok != (dec >= 0) {
			t.Errorf("Decimal(%q) = %d, %v", s, n, ok)
		}
		if n, ok := sign.Hex(s); n != max(hex, 0) || ok != (hex >= 0) {
			t.Errorf("Hex(%q) = %d, %v", s, n, ok)
		}
	}
}

// P2.1: numbers as digits, the least and the greatest too.
func TestTexts(t *testing.T) {
	for _, x := range []struct {
		n         int64
		text, hex string
	}{
		{0, "0", "0"}, {7, "7", "7"}, {10, "10", "a"}, {15, "15", "f"}, {16, "16", "10"}, {255, "255", "ff"}, {431, "431", "1af"},
		{-1, "-1", "0"}, {-431, "-431", "0"}, {math.MinInt64, "-9223372036854775808", "0"}, {math.MaxInt64, "9223372036854775807", "7fffffffffffffff"},
	} {
		if sign.Text(x.n) != x.text || sign.HexText(x.n) != x.hex {
			t.Errorf("%d is told as %q and %q", x.n, sign.Text(x.n), sign.HexText(x.n))
		}
	}
}

// P2.2: what is told of a number from 0 to 10^15 is read back as it.
func TestReadBack(t *testing.T) {
	const most = 1000000000000000
	back := func(n int64) {
		if d, ok := sign.Decimal(sign.Text(n)); !ok || d != n {
			t.Errorf("%d is read back as %d, %v", n, d, ok)
		}
		if h, ok := sign.Hex(sign.HexText(n)); !ok || h != n {
			t.Errorf("%x is read back as %x, %v", n, h, ok)
		}
	}
	for n := range int64(5000) {
		back(n)
		back(most - n)
	}
	for n := int64(1); n <= most; n *= 2 {
		back(n - 1)
		back(n)
		back(n + n/3)
	}
	for n := int64(1); n <= most; n *= 10 {
		back(n - 1)
		back(n)
	}
}
