package infra

import "strings"

// The sets of bytes that Percent knows.
const (
	Control = 1 + iota
	Fragment
	Query
	SpecialQuery
	Path
	Userinfo
)

const digits16 = "0123456789ABCDEF"

// Percent tells s with each byte of the set as `%` and two digits.
func Percent(s string, set int) string {
	var out strings.Builder
	for i := range len(s) {
		c := s[i]
		if !inSet(c, set) {
			out.WriteByte(c)
			continue
		}
		out.WriteByte('%')
		out.WriteByte(digits16[c>>4])
		out.WriteByte(digits16[c&15])
	}
	return out.String()
}

// Unpercent tells s with each `%` and two digits as that byte; what it makes is not read again.
func Unpercent(s string) string {
	var out strings.Builder
	for i := 0; i < len(s); i++ {
		c, ok := percented(s[i:])
		if ok {
			i += 2
		}
		out.WriteByte(c)
	}
	return out.String()
}

// percented tells the byte that s, which is not empty, begins with: the one that `%` and two digits mean, or the first as it stands and false.
func percented(s string) (byte, bool) {
	if len(s) < 3 || s[0] != '%' {
		return s[0], false
	}
	high, ok1 := value16(s[1])
	low, ok2 := value16(s[2])
	if !ok1 || !ok2 {
		return s[0], false
	}
	return high<<4 | low, true
}

// inSet falls from each set into the one that it widens. Query has neither the byte that SpecialQuery adds nor the one that Fragment adds, though it shares or passes their cases: so those two bytes ask for their set.
func inSet(c byte, set int) bool {
	switch set {
	case Userinfo:
		if strings.IndexByte("/:;=@[\\]|", c) >= 0 {
			return true
		}
		fallthrough
	case Path:
		if strings.IndexByte("?^`{}", c) >= 0 {
			return true
		}
		fallthrough
	case SpecialQuery, Query:
		if c == '#' || c == '\'' && set == SpecialQuery {
			return true
		}
		fallthrough
	case Fragment:
		if strings.IndexByte(" \"<>", c) >= 0 || c == '`' && set == Fragment {
			return true
		}
		fallthrough
	case Control:
		return c < 32 || c > 126
	}
	return false
}

// value16 brings small letters to great ones, and these to what stands behind `9`, so that one subtraction serves all.
func value16(c byte) (byte, bool) {
	switch {
	case 'a' <= c && c <= 'f':
		c -= 'a' - 'A'
		fallthrough
	case 'A' <= c && c <= 'F':
		c -= 'A' - ('9' + 1)
		fallthrough
	case digit(c):
		return c - '0', true
	}
	return 0, false
}
