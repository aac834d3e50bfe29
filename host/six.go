package host

import (
	"strconv"
	"strings"

	"ostiary/api"
)

// Six tells the eight pieces that s means. What stands ahead of `::` is laid at the beginning and what stands behind it at the end; between them noughts are left.
func Six(s string) ([8]uint16, api.Errno) {
	ahead, behind, gap := strings.Cut(s, "::")
	first, ok1 := readPieces(ahead, !gap)
	last, ok2 := readPieces(behind, true)
	lacking := 8 - len(first) - len(last)
	if !ok1 || !ok2 || lacking < 0 || gap != (lacking > 0) {
		return [8]uint16{}, api.ErrHost
	}
	var x [8]uint16
	copy(x[:], first)
	copy(x[8-len(last):], last)
	return x, api.OK
}

// readPieces reads pieces parted by `:`, or none of the empty text. A second `::` shows as an empty piece, which is refused. If s is the end of the whole, four decimal numbers may be its last two pieces.
func readPieces(s string, atEnd bool) ([]uint16, bool) {
	var out []uint16
	rest, more := s, s != ""
pieces:
	for more && len(out) < 8 {
		var piece string
		piece, rest, more = strings.Cut(rest, ":")
		n := uint16(0)
		for i := range len(piece) {
			if piece[i] == '.' && atEnd && !more {
				// What was read as hexadecimal digits are decimal ones: the piece is read anew.
				high, low, ok := dotted(piece)
				if !ok {
					return nil, false
				}
				out = append(out, high, low)
				break pieces
			}
			d, ok := digit(piece[i], 16)
			if !ok || i == 4 {
				return nil, false
			}
			n = n<<4 | uint16(d)
		}
		if piece == "" {
			return nil, false
		}
		out = append(out, n)
	}
	return out, !more
}

// dotted tells the two pieces that four decimal numbers are. It is stricter than Four: neither fewer numbers nor other digits.
func dotted(s string) (uint16, uint16, bool) {
	n, rest := uint32(0), s
	for i := range 4 {
		part, behind, more := strings.Cut(rest, ".")
		b, ok := plainByte(part)
		if !ok || more != (i < 3) {
			return 0, 0, false
		}
		n, rest = n<<8|b, behind
	}
	return uint16(n >> 16), uint16(n), true
}

// plainByte tells a decimal number of 0 to 255 that has no nought ahead of another digit.
func plainByte(s string) (uint32, bool) {
	n, ok := valueOf(s, 10)
	if !ok || n > 255 || s == "" || s[0] == '0' && s != "0" {
		return 0, false
	}
	return uint32(n), true
}

// Text6 tells the pieces of x, with `::` for the longest run of noughts.
func Text6(x [8]uint16) string {
	from, to := longestRun(x)
	if from == to {
		return joined(x[:])
	}
	return joined(x[:from]) + "::" + joined(x[to:])
}

// longestRun tells where the first of the longest runs of noughts begins and ends; one nought alone is no run.
func longestRun(x [8]uint16) (int, int) {
	from, to := 0, 0
	for i := range x {
		end := i
		for end < len(x) && x[end] == 0 {
			end++
		}
		if end-i > max(to-from, 1) {
			from, to = i, end
		}
	}
	return from, to
}

func joined(x []uint16) string {
	texts := make([]string, len(x))
	for i, n := range x {
		texts[i] = strconv.FormatUint(uint64(n), 16)
	}
	return strings.Join(texts, ":")
}
