package headers_test

import (
	"math/rand"
	"slices"
	"strings"
	"testing"

	"ostiary/api"
	"ostiary/headers"
)

// The rules that hold everywhere

// answers: each call that answers a list of headers, with arguments that it does not refuse.
func answers() map[string]func([]api.Header) []api.Header {
	return map[string]func([]api.Header) []api.Header{
		"Add":            func(l []api.Header) []api.Header { m, _ := headers.Add(l, "new", " 1 "); return m },
		"Set, not there": func(l []api.Header) []api.Header { m, _ := headers.Set(l, "new", " 1 "); return m },
		"Set, there":     func(l []api.Header) []api.Header { m, _ := headers.Set(l, "a", " 1 "); return m },
		"Drop":           func(l []api.Header) []api.Header { return headers.Drop(l, "a") },
		"Drop of none":   func(l []api.Header) []api.Header { return headers.Drop(l, "none") },
		"Sorted":         headers.Sorted,
	}
}

// lists: what the calls are given, each with room behind its length.
func lists() [][]api.Header {
	return [][]api.Header{
		{},
		list("A", "1"),
		list("b", "1", "A", "2", "c", "3", "a", "4"),
		list("a", "1", "a", "2"),
		list("z", "1", "y", "2", "Set-Cookie", "3", "set-cookie", "4"),
		numbered(api.MaxHeaders - 1),
	}
}

// TestArguments: R2: what is handed in stays, its spare room too; R5: that room is not read.
func TestArguments(t *testing.T) {
	for _, given := range lists() {
		room := slices.Concat(given, list("a", "spare", "new", "room", "B", "x"))
		was := slices.Clone(room)
		l := room[:len(given)]
		for call, f := range answers() {
			got := f(l)
			if !slices.Equal(room, was) {
				t.Fatalf("%s(%q): what was given became %q", call, given, room)
			}
			if want := f(slices.Clip(slices.Clone(given))); !slices.Equal(got, want) {
				t.Errorf("%s(%q): the room behind it counts: %q", call, given, got)
			}
		}
		for _, name := range []string{"a", "new", "b"} {
			v, ok := headers.Get(l, name)
			p, _ := headers.Split(l, name)
			want, has := headers.Get(slices.Clip(slices.Clone(given)), name)
			pieces, _ := headers.Split(slices.Clip(slices.Clone(given)), name)
			if v != want || ok != has || !slices.Equal(p, pieces) || !slices.Equal(room, was) {
				t.Errorf("Get and Split(%q, %q): %q, %q", given, name, v, p)
			}
		}
	}
}

// TestRefusedArguments: R2, R3: nor does a refused call change anything.
func TestRefusedArguments(t *testing.T) {
	room := numbered(api.MaxHeaders + 2)
	was := slices.Clone(room)
	for call, f := range both() {
		for _, c := range [][2]string{{"", "x"}, {"n1", "\x00"}, {"n1", strings.Repeat("x", api.MaxText+1)}, {"new", "x"}} {
			if got, why := f(room[:api.MaxHeaders], c[0], c[1]); why == api.OK || len(got) > 0 || !slices.Equal(room, was) {
				t.Errorf("%s(%.9q, %.9q): %v", call, c[0], c[1], why)
			}
		}
	}
}

// TestAnswersAreNew: R2: what is answered is new memory each time, its spare room too.
func TestAnswersAreNew(t *testing.T) {
	for _, given := range lists() {
		room := slices.Concat(given, list("spare", "x", "room", "y"))
		was := slices.Clone(room)
		for call, f := range answers() {
			one := f(room[:len(given)])
			want := slices.Clone(one)
			other := f(room[:len(given)])
			all := one[:cap(one)]
			for i := range all {
				all[i] = api.Header{Name: "written", Value: "over"}
			}
			if !slices.Equal(room, was) {
				t.Fatalf("%s(%q): it shares memory with what was given", call, given)
			}
			if !slices.Equal(other, want) || !slices.Equal(f(room[:len(given)]), want) {
				t.Errorf("%s(%q): answers share memory: %q", call, given, other)
			}
		}
	}
	l := list("q", "a, b, c")
	one, _ := headers.Split(l, "q")
	other, _ := headers.Split(l, "q")
	all := one[:cap(one)]
	for i := range all {
		all[i] = "written"
	}
	if want := []string{"a", "b", "c"}; !slices.Equal(other, want) || l[0].Value != "a, b, c" {
		t.Errorf("answers of Split share memory: %q", other)
	}
}

// TestNilIsEmpty: R4.
func TestNilIsEmpty(t *testing.T) {
	empty := make([]api.Header, 0, 4)
	for call, f := range answers() {
		if a, b := f(nil), f(empty); !slices.Equal(a, b) {
			t.Errorf("%s: %q of nil, %q of an empty list", call, a, b)
		}
	}
}

// TestAnyText: R1, R5: of any bytes the calls end, and what is kept is a Token with a Value.
func TestAnyText(t *testing.T) {
	r := rand.New(rand.NewSource(59))
	for range 30000 {
		b := make([]byte, r.Intn(12))
		r.Read(b)
		s := string(b)
		l := list(s, s, lower(s), s, "a", s)
		headers.Range(s)
		headers.Range("bytes=" + s)
		headers.Forbidden(s)
		headers.Safe(s, s)
		for _, name := range safe() {
			headers.Safe(name, s)
		}
		v, fine := headers.Value(s)
		m, why := headers.Add(nil, "a", s)
		if fine != (why == api.OK) || fine && m[0].Value != v || !fine && (v != "" || why != api.ErrArg) {
			t.Fatalf("Add of %q: %q, %v", s, m, why)
		}
		p, ok := headers.Split(l, s)
		if !ok || len(p) == 0 {
			t.Fatalf("Split(%q): %q, %v", l, p, ok)
		}
		if got := headers.Drop(l, s); !slices.Equal(got, list("a", s)) && lower(s) != "a" {
			t.Fatalf("Drop(%q, %q): %q", l, s, got)
		}
		headers.Set(l, s, s)
		headers.Sorted(l)
	}
}

// TestLong: R1: the calls end, and soon, of texts and lists beyond their limits too.
func TestLong(t *testing.T) {
	const n = 1 << 20
	for part, want := range map[string]int{",": n + 1, "\"": 1, "\\": 1, "\",\"": 1, "\"\\\",\",": n + 1, "\"\\": 1, "a, ": n + 1, " ": 1, "\"\",": n + 1} {
		if p, ok := headers.Split(list("q", strings.Repeat(part, n)), "q"); len(p) != want || !ok {
			t.Errorf("%q: %d pieces", part, len(p))
		}
	}
	for _, part := range []string{" ", "a", "\x00", "\n", "-", "1"} {
		s := strings.Repeat(part, n)
		headers.Value(s)
		headers.Forbidden(s)
		headers.Safe(s, s)
		headers.Safe("accept", s)
		if _, _, ok := headers.Range("bytes=" + s); ok {
			t.Errorf("Range of %q many times", part)
		}
		if _, why := headers.Add(nil, s, s); why == api.OK {
			t.Errorf("Add of %q many times", part)
		}
	}
	if from, to, ok := headers.Range("bytes=" + strings.Repeat("0", n) + "1-" + strings.Repeat("0", n) + "2"); from != 1 || to != 2 || !ok {
		t.Errorf("Range of noughts: %d, %d, %v", from, to, ok)
	}
	long := make([]api.Header, n/4)
	for i := range long {
		long[i] = api.Header{Name: []string{"a", "B", "set-cookie", "A"}[i%4], Value: "v"}
	}
	text, _ := headers.Get(long, "a")
	sorted := headers.Sorted(long)
	if len(text) != n/8*3-2 || len(sorted) != n/16+2 || sorted[0].Value != text || len(headers.Drop(long, "a")) != n/8 {
		t.Errorf("a long list: %d bytes, %d headers", len(text), len(sorted))
	}
	if got, why := headers.Set(long, "a", "w"); why != api.OK || len(got) != n/8+1 {
		t.Errorf("Set in a long list: %d headers, %v", len(got), why)
	}
	if _, why := headers.Set(long, "c", "w"); why != api.ErrMany {
		t.Errorf("Set beside a long list: %v", why)
	}
}
