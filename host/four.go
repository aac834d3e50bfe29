package host

import (
	"strconv"
	"strings"

	"ostiary/api"
)

// Numbers are held at this one, which no place of four bytes can take, so that long ones do not wrap round.
const tooGreat = 1 << 32

// Numbered says whether the last label looks like a number: then the whole is four bytes, or no host.
func Numbered(s string) bool {
	s = withoutLastDot(s)
	label := s[strings.LastIndexByte(s, '.')+1:]
	if behind, ok := behindMark(label); ok {
		return digitsAlone(behind, 16)
	}
	return label != "" && digitsAlone(label, 10)
}

// Four tells the four bytes that one to four numbers mean, of which the last one fills all that is left.
func Four(s string) (uint32, api.Errno) {
	rest, high := withoutLastDot(s), uint64(0)
labels:
	for ahead := range 4 {
		label, behind, more := strings.Cut(rest, ".")
		n, ok := number(label)
		left := 32 - 8*ahead
		switch {
		case !ok, more && n > 255, !more && n>>left != 0:
			break labels
		case !more:
			return uint32(high<<left | n), api.OK
		}
		rest, high = behind, high<<8|n
	}
	return 0, api.ErrHost
}

// Text4 tells the bytes of n from the highest on.
func Text4(n uint32) string {
	out := decimal(n >> 24)
	for _, b := range [3]uint32{n >> 16, n >> 8, n} {
		out += "." + decimal(b)
	}
	return out
}

// decimal tells the lowest byte of n.
func decimal(n uint32) string { return strconv.Itoa(int(n & 255)) }

// withoutLastDot leaves out an empty last label, unless it is the only one: then there is no dot.
func withoutLastDot(s string) string { return strings.TrimSuffix(s, ".") }

// behindMark tells what stands behind the mark of hexadecimal digits.
func behindMark(label string) (string, bool) {
	if strings.HasPrefix(label, "0x") || strings.HasPrefix(label, "0X") {
		return label[2:], true
	}
	return "", false
}

// number tells the number that a label is. A `0` ahead of anything makes it octal for good: `09` is not read as decimal.
func number(label string) (uint64, bool) {
	if behind, ok := behindMark(label); ok {
		return valueOf(behind, 16)
	}
	if label == "" {
		return 0, false
	}
	if label[0] == '0' {
		return valueOf(label[1:], 8)
	}
	return valueOf(label, 10)
}

// valueOf tells the number that the digits of s are, held at tooGreat; no digits are 0.
func valueOf(s string, base uint64) (uint64, bool) {
	n := uint64(0)
	for i := range len(s) {
		d, ok := digit(s[i], base)
		if !ok {
			return 0, false
		}
		n = min(n*base+d, tooGreat)
	}
	return n, true
}

func digitsAlone(s string, base uint64) bool {
	_, ok := valueOf(s, base)
	return ok
}

// digit tells the value of c in a base of 16 at most.
func digit(c byte, base uint64) (uint64, bool) {
	d := base
	switch {
	case '0' <= c && c <= '9':
		d = uint64(c - '0')
	case 'a' <= c && c <= 'f':
		d = uint64(c-'a') + 10
	case 'A' <= c && c <= 'F':
		d = uint64(c-'A') + 10
	}
	if d >= base {
		return 0, false
	}
	return d, true
}
