package mime

import (
	"strings"

	"ostiary/infra"
)

// reader goes along what is not read yet of a kind's text.
type reader struct{ rest string }

// upTo reads what stands ahead of the first of these bytes, or all that there is.
func (r *reader) upTo(stops string) string {
	end := strings.IndexAny(r.rest, stops)
	if end < 0 {
		end = len(r.rest)
	}
	read := r.rest[:end]
	r.rest = r.rest[end:]
	return read
}

// pass goes over the byte c, if it is the next one.
func (r *reader) pass(c byte) bool {
	if r.rest == "" || r.rest[0] != c {
		return false
	}
	r.rest = r.rest[1:]
	return true
}

// params reads the pieces, each behind a `;`, up to the end. Of one name the first that counts stays; the names are kept in a map, since a text may have very many.
func (r *reader) params() []Param {
	var out []Param
	seen := map[string]struct{}{}
	for r.pass(';') {
		p, ok := r.param()
		if _, twice := seen[p.Name]; ok && !twice {
			seen[p.Name] = struct{}{}
			out = append(out, p)
		}
	}
	return out
}

// param reads one piece, up to the `;` behind it. It goes on to there whether the parameter counts or not.
func (r *reader) param() (Param, bool) {
	r.rest = strings.TrimLeft(r.rest, blanks)
	name := r.upTo(";=")
	if !r.pass('=') {
		return Param{}, false
	}
	value, ok := r.value()
	return Param{Name: infra.Lower(name), Value: value}, ok && infra.Token(name) && fits(value)
}

// value reads what stands behind a `=`; false, if that is nothing. Quotes with nothing in them are a value.
func (r *reader) value() (string, bool) {
	if r.pass('"') {
		value := r.quoted()
		r.upTo(";")
		return value, true
	}
	value := strings.TrimRight(r.upTo(";"), blanks)
	return value, value != ""
}

// quoted reads what stands in quotes, and the quotes' end.
func (r *reader) quoted() string {
	var out []byte
	for r.rest != "" && !r.pass('"') {
		if len(r.rest) > 1 { // the last byte has none behind it that it could stand for
			r.pass('\\')
		}
		out = append(out, r.rest[0])
		r.rest = r.rest[1:]
	}
	return string(out)
}

// fits says whether a parameter may have that value. Of the control bytes 9 alone is let through, since it is a blank of headers.
func fits(value string) bool {
	for i := range len(value) {
		if c := value[i]; c < ' ' && c != '\t' || c == 127 {
			return false
		}
	}
	return true
}
