package headers

import (
	"slices"
	"strings"

	"ostiary/api"
	"ostiary/infra"
)

// Add tells l with that header at its end.
func Add(l []api.Header, name, value string) ([]api.Header, api.Errno) {
	h, why := header(name, value)
	if why != api.OK {
		return nil, why
	}
	if len(l) >= api.MaxHeaders {
		return nil, api.ErrMany
	}
	return with(l, h), api.OK
}

// Set tells l with that value in the place of all that the name had. The header that was there keeps its name as it was spelt.
func Set(l []api.Header, name, value string) ([]api.Header, api.Errno) {
	at := first(l, name)
	if at < 0 {
		return Add(l, name, value)
	}
	h, why := header(name, value)
	if why != api.OK {
		return nil, why
	}
	h.Name = l[at].Name
	return append(with(l[:at], h), Drop(l[at+1:], name)...), api.OK
}

// Drop tells l without the headers of that name.
func Drop(l []api.Header, name string) []api.Header {
	name = infra.Lower(name)
	out := make([]api.Header, 0, len(l))
	for _, h := range l {
		if infra.Lower(h.Name) != name {
			out = append(out, h)
		}
	}
	return out
}

// header tells the header that a list may get, or why it may not.
func header(name, value string) (api.Header, api.Errno) {
	value, ok := Value(value)
	if !ok || !infra.Token(name) {
		return api.Header{}, api.ErrArg
	}
	if len(name) > api.MaxText || len(value) > api.MaxText {
		return api.Header{}, api.ErrLong
	}
	return api.Header{Name: name, Value: value}, api.OK
}

// first tells where the first header of that name stands; -1, if there is none.
func first(l []api.Header, name string) int {
	name = infra.Lower(name)
	for i, h := range l {
		if infra.Lower(h.Name) == name {
			return i
		}
	}
	return -1
}

// with copies l ahead of the append, which would else write into the room behind l.
func with(l []api.Header, h api.Header) []api.Header {
	out := make([]api.Header, len(l), len(l)+1)
	copy(out, l)
	return append(out, h)
}

// Sorted tells each name of l once, in order of bytes. A cookie may have a `,` of its own, and so stays for itself.
func Sorted(l []api.Header) []api.Header {
	rest := lowered(l)
	slices.SortStableFunc(rest, byName)
	var out []api.Header
	for len(rest) > 0 {
		n := together(rest)
		name := rest[0].Name
		value, _ := Get(rest[:n], name)
		out = append(out, api.Header{Name: name, Value: value})
		rest = rest[n:]
	}
	return out
}

func lowered(l []api.Header) []api.Header {
	out := make([]api.Header, len(l))
	for i, h := range l {
		out[i] = api.Header{Name: infra.Lower(h.Name), Value: h.Value}
	}
	return out
}

func byName(a, b api.Header) int { return strings.Compare(a.Name, b.Name) }

// together tells how many headers at the beginning of l, which is in order and not empty, are told as one.
func together(l []api.Header) int {
	n := 1
	for n < len(l) && l[n].Name == l[0].Name && l[0].Name != "set-cookie" {
		n++
	}
	return n
}
