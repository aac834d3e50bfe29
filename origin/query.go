package origin

import (
	"strings"

	"ostiary/infra"
)

// Pair is what a form tells of one of its fields.
type Pair struct {
	Name, Value string
}

const largeDigits = "0123456789ABCDEF"

// Query tells the pairs that an address's query is made of.
func Query(s string) []Pair {
	var out []Pair
	for _, piece := range strings.Split(s, "&") {
		if piece == "" {
			continue
		}
		name, value, _ := strings.Cut(piece, "=")
		out = append(out, Pair{Name: read(name), Value: read(value)})
	}
	return out
}

// read takes each `+` for a blank ahead of Unpercent, so that `%2B` stays a `+`.
func read(s string) string {
	return infra.Decode([]byte(infra.Unpercent(strings.ReplaceAll(s, "+", " "))))
}

// Write tells the query that the pairs of l make.
func Write(l []Pair) string {
	var out strings.Builder
	for i, p := range l {
		if i > 0 {
			out.WriteByte('&')
		}
		write(&out, p.Name)
		out.WriteByte('=')
		write(&out, p.Value)
	}
	return out.String()
}

func write(out *strings.Builder, s string) {
	for _, c := range []byte(s) {
		switch {
		case plain(c):
			out.WriteByte(c)
		case c == ' ':
			out.WriteByte('+')
		default:
			out.WriteByte('%')
			out.WriteByte(largeDigits[c>>4])
			out.WriteByte(largeDigits[c&15])
		}
	}
}

func plain(c byte) bool {
	switch c {
	case '*', '-', '.', '_':
		return true
	}
	return 'A' <= c && c <= 'Z' || 'a' <= c && c <= 'z' || '0' <= c && c <= '9'
}
