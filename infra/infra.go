// Package infra: texts and bytes: see doc/01-infra.md.
package infra

import (
	"math"
	"strings"
)

// The bytes that some decoders take for a mark of their encoding, and that are no part of the text.
const byteOrderMark = "\xef\xbb\xbf"

// Lower tells s with A to Z as a to z. Other bytes stay, so that texts that are not UTF-8 go through unchanged.
func Lower(s string) string {
	out := []byte(s)
	for i, c := range out {
		if 'A' <= c && c <= 'Z' {
			out[i] = c + ('a' - 'A')
		}
	}
	return string(out)
}

// Strip tells s without the Blanks at its ends.
func Strip(s string) string {
	from, to := 0, len(s)
	for from < to && blank(s[from]) {
		from++
	}
	for from < to && blank(s[to-1]) {
		to--
	}
	return s[from:to]
}

// Decode tells the text that b is in UTF-8; a byte that is of no rune is told as U+FFFD.
func Decode(b []byte) string {
	var out strings.Builder
	for _, r := range strings.TrimPrefix(string(b), byteOrderMark) {
		out.WriteRune(r)
	}
	return out.String()
}

// Int tells the number that the digits of s are, held at the greatest int64.
func Int(s string) (int64, bool) {
	if s == "" {
		return 0, false
	}
	n := int64(0)
	for i := range len(s) {
		if !digit(s[i]) {
			return 0, false
		}
		n = timesTenAnd(n, int64(s[i]-'0'))
	}
	return n, true
}

// timesTenAnd asks ahead of multiplying, since an int64 that is too great wraps round unseen.
func timesTenAnd(n, d int64) int64 {
	if n > (math.MaxInt64-d)/10 {
		return math.MaxInt64
	}
	return n*10 + d
}

// Token says whether s may be a header's name or a method.
func Token(s string) bool {
	for i := range len(s) {
		if !tokenByte(s[i]) {
			return false
		}
	}
	return s != ""
}

func blank(c byte) bool {
	switch c {
	case '\t', '\n', '\f', '\r', ' ':
		return true
	}
	return false
}

func digit(c byte) bool { return '0' <= c && c <= '9' }

func letter(c byte) bool { return 'A' <= c && c <= 'Z' || 'a' <= c && c <= 'z' }

func tokenByte(c byte) bool {
	switch c {
	case '!', '#', '$', '%', '&', '\'', '*', '+', '-', '.', '^', '_', '`', '|', '~':
		return true
	}
	return letter(c) || digit(c)
}
