// Package sign is layer 2: see shared/doc/02-sign.md.
package sign

import (
	"strconv"
	"strings"
)

const (
	tokenSigns = "!#$%&'*+-.^_`|~"
	blanks     = " \t"

	// As many digits as are always a number of 63 bits.
	mostDecimal = 18
	mostHex     = 15
)

// Token tells whether a text is a token.
func Token(s string) bool {
	return s != "" && all(s, either(span('a', 'z'), span('A', 'Z'), span('0', '9'), among(tokenSigns)))
}

// Value tells whether all bytes are a value's.
func Value(s string) bool {
	return all(s, either(span(32, 126), span(128, 255), among("\t")))
}

// Target tells whether a text is of a target's bytes.
func Target(s string) bool { return s != "" && all(s, span(33, 126)) }

// all tells whether each byte of a text may stand.
func all(s string, may func(byte) bool) bool {
	for i := range len(s) {
		if !may(s[i]) {
			return false
		}
	}
	return true
}

// span lets the bytes from low to high stand.
func span(low, high byte) func(byte) bool {
	return func(b byte) bool { return low <= b && b <= high }
}

// among lets the bytes of a text stand.
func among(signs string) func(byte) bool {
	return func(b byte) bool { return strings.IndexByte(signs, b) >= 0 }
}

// either lets the bytes stand that one of several lets.
func either(ways ...func(byte) bool) func(byte) bool {
	return func(b byte) bool {
		for _, may := range ways {
			if may(b) {
				return true
			}
		}
		return false
	}
}

// Trim is a text without blanks at its ends.
func Trim(s string) string {
	// A clone, since an answer shares no memory with what is handed in.
	return strings.Clone(strings.Trim(s, blanks))
}

// Fold is a text in small letters.
func Fold(s string) string {
	// Byte by byte: a text needn't be of whole runes, and the other bytes stay.
	b := []byte(s)
	for i := range len(b) {
		if 'A' <= b[i] && b[i] <= 'Z' {
			b[i] += 'a' - 'A'
		}
	}
	return string(b)
}

// Same tells whether two texts are the same, folded.
func Same(a, b string) bool { return Fold(a) == Fold(b) }

// Split is the parts of a list.
func Split(s string) []string {
	var parts []string
	for _, part := range strings.Split(s, ",") {
		if part = Trim(part); part != "" {
			parts = append(parts, part)
		}
	}
	return parts
}

// Decimal is the number of decimal digits.
func Decimal(s string) (int64, bool) { return number(s, 10, mostDecimal) }

// Hex is the number of digits of the base 16.
func Hex(s string) (int64, bool) { return number(s, 16, mostHex) }

// number is that of 1 to most digits of a base; strconv's reading won't do,
// since it takes a sign ahead, and any number of zeros.
func number(s string, base int64, most int) (int64, bool) {
	if s == "" || len(s) > most {
		return 0, false
	}
	n := int64(0)
	for i := range len(s) {
		d := digit(s[i])
		if d >= base {
			return 0, false
		}
		n = n*base + d
	}
	return n, true
}

// digit is what a digit counts; 16, which none of our bases has, of other bytes.
func digit(b byte) int64 {
	switch {
	case '0' <= b && b <= '9':
		return int64(b - '0')
	case 'a' <= b && b <= 'f':
		return int64(b-'a') + 10
	case 'A' <= b && b <= 'F':
		return int64(b-'A') + 10
	}
	return 16
}

// Text is a number in decimal digits.
func Text(n int64) string { return strconv.FormatInt(n, 10) }

// HexText is a number in digits of the base 16.
func HexText(n int64) string { return strconv.FormatInt(max(n, 0), 16) }
