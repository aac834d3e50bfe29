package infra

import "strings"

const digits64 = "ABCDEFGHIJKLMNOPQRSTUVWXYZabcdefghijklmnopqrstuvwxyz0123456789+/"

// Base64 tells the bytes that s means, and forgives Blanks and a missing end.
func Base64(s string) ([]byte, bool) {
	s = withoutPadding(withoutBlanks(s))
	if len(s)%4 == 1 {
		return nil, false
	}
	out := make([]byte, 0, len(s)/4*3+len(s)%4*3/4)
	bits, held := uint32(0), 0
	for i := range len(s) {
		v, ok := value64(s[i])
		if !ok {
			return nil, false
		}
		// What is shifted out at the top has been told already.
		bits, held = bits<<6|v, held+6
		if held >= 8 {
			held -= 8
			out = append(out, byte(bits>>held))
		}
	}
	return out, true
}

// Encode64 tells b as digits, with `=` to a multiple of four.
func Encode64(b []byte) string {
	var out strings.Builder
	for len(b) > 0 {
		n := min(3, len(b))
		four := encodeThree(b[:n])
		out.Write(four[:])
		b = b[n:]
	}
	return out.String()
}

// encodeThree tells one to three bytes as four digits: n bytes need n + 1 of them.
func encodeThree(b []byte) [4]byte {
	var three [3]byte
	copy(three[:], b)
	bits := uint32(three[0])<<16 | uint32(three[1])<<8 | uint32(three[2])
	four := [4]byte{'=', '=', '=', '='}
	for i := range len(b) + 1 {
		four[i] = digits64[bits>>(18-6*i)&63]
	}
	return four
}

func withoutBlanks(s string) string {
	out := make([]byte, 0, len(s))
	for i := range len(s) {
		if !blank(s[i]) {
			out = append(out, s[i])
		}
	}
	return string(out)
}

// withoutPadding leaves a third `=` in place: it is no digit, and so makes the whole refused.
func withoutPadding(s string) string {
	if len(s)%4 != 0 {
		return s
	}
	return strings.TrimSuffix(strings.TrimSuffix(s, "="), "=")
}

func value64(c byte) (uint32, bool) {
	switch {
	case 'A' <= c && c <= 'Z':
		return uint32(c - 'A'), true
	case 'a' <= c && c <= 'z':
		return uint32(c-'a') + 26, true
	case digit(c):
		return uint32(c-'0') + 52, true
	case c == '+':
		return 62, true
	case c == '/':
		return 63, true
	}
	return 0, false
}
