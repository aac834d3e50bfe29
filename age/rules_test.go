package age_test

import (
	"math/rand"
	"slices"
	"strings"
	"testing"

	"ostiary/age"
	"ostiary/api"
)

// TestArguments: R2, R5: what is handed in is not changed, and the room behind it is neither read nor written.
func TestArguments(t *testing.T) {
	l := list("x", "y", "vary", "B, b", control, "max-age=5", "age", "2", "vary", "A", control, "no-cache", "vary", "*", control, "no-store", "age", "1")
	before := slices.Clone(l)
	for n, want := range []struct {
		c     age.Control
		old   int64
		fresh bool
		vary  string
		ok    bool
	}{
		{nothing, 1, false, "", true},
		{nothing, 1, false, "", true},
		{nothing, 1, false, "b", true},
		{age.Control{Max: 5}, 1, true, "b", true},
		{age.Control{Max: 5}, 3, true, "b", true},
		{age.Control{Max: 5}, 3, true, "a b", true},
		{age.Control{NoCache: true, Max: 5}, 3, false, "a b", true},
		{age.Control{NoCache: true, Max: 5}, 3, false, "", false},
		{age.Control{NoCache: true, NoStore: true, Max: 5}, 3, false, "", false},
		{age.Control{NoCache: true, NoStore: true, Max: 5}, 1, false, "", false},
	} {
		for range 2 {
			mustParse(t, l[:n], want.c)
			mustAge(t, l[:n], 6, 7, want.old)
			mustFresh(t, l[:n], 6, 7, want.fresh)
			if names, ok := age.Vary(l[:n]); strings.Join(names, " ") != want.vary || ok != want.ok {
				t.Errorf("Vary of %d: %q, %v", n, names, ok)
			}
		}
	}
	if !slices.Equal(l, before) {
		t.Errorf("what was given became %q", l)
	}
}

// TestAnswers: R2: each answer is new memory, its spare room too.
func TestAnswers(t *testing.T) {
	l := list("vary", "c, b, A, b, a, C")
	one, _ := age.Vary(l)
	two, _ := age.Vary(l)
	clear(one[:cap(one)])
	if !slices.Equal(two, []string{"a", "b", "c"}) {
		t.Errorf("answers share memory: %q", two)
	}
	mustVary(t, l, "a", "b", "c")
	three, _ := age.Vary(l)
	two, three = append(two, "x"), append(three, "y")
	if two[3] != "x" || three[3] != "y" {
		t.Errorf("answers share room: %q, %q", two, three)
	}
}

// TestNilIsEmpty: R4.
func TestNilIsEmpty(t *testing.T) {
	for _, l := range [][]api.Header{nil, {}, make([]api.Header, 0, 4), list(control, "max-age=5, no-cache", "vary", "*")[:0], list("age", "7")[:0]} {
		mustParse(t, l, nothing)
		mustAge(t, l, 3, 5, 2)
		mustFresh(t, l, 3, 5, false)
		mustFresh(t, l, 5, 3, false)
		mustVary(t, l)
	}
}

// TestZeroHeaders: R5: names and values that are empty.
func TestZeroHeaders(t *testing.T) {
	l := make([]api.Header, 5)
	mustParse(t, l, nothing)
	mustAge(t, l, 3, 5, 2)
	mustFresh(t, l, 3, 3, false)
	mustVary(t, l)
}

// TestAnyBytes: R1, R5: any bytes may stand in headers, and what is told holds together.
func TestAnyBytes(t *testing.T) {
	r := rand.New(rand.NewSource(165))
	text := func() string {
		b := make([]byte, r.Intn(8))
		r.Read(b)
		return some(r, string(b), string(b)+someText(r, 6, "no-store", "no-cache", "max-age", "=", ",", `"`, "5", "*", "a", "\x00", "\xff", " "))
	}
	for range 50000 {
		var l []api.Header
		for range r.Intn(5) {
			l = append(l, api.Header{Name: some(r, control, "vary", "age", text()), Value: text()})
		}
		before := slices.Clone(l)
		stored, now := someTime(r), someTime(r)
		c, old := age.Parse(l), age.Age(l, stored, now)
		if c.Max < -1 || old < 0 || age.Fresh(l, stored, now) != (!c.NoCache && c.Max > old) {
			t.Fatalf("%q, %d, %d: %+v, %d", l, stored, now, c, old)
		}
		names, ok := age.Vary(l)
		if !ok && len(names) > 0 || !slices.IsSorted(names) || slices.Contains(names, "") || slices.Contains(names, "*") {
			t.Fatalf("Vary(%q): %q, %v", l, names, ok)
		}
		for i, name := range names {
			if name != small(name) || i > 0 && name == names[i-1] {
				t.Fatalf("Vary(%q): %q", l, names)
			}
		}
		if !slices.Equal(l, before) {
			t.Fatalf("what was given became %q", l)
		}
	}
}

// TestLong: R1: the calls end, and soon, of long lists and texts too.
func TestLong(t *testing.T) {
	long := strings.Repeat("x=y, max-age=z, ", 1<<17)
	mustParse(t, list(control, long), nothing)
	mustParse(t, list(control, long+"no-store, max-age=3"), age.Control{NoStore: true, Max: 3})
	mustParse(t, list(control, `"`+long+"no-store"), nothing)
	mustParse(t, list(control, "max-age="+strings.Repeat(" ", 1<<20)+"5"), age.Control{Max: 5})
	mustParse(t, list(control, "max-age"+strings.Repeat("=", 1<<20)+"5"), nothing)
	mustParse(t, list(control, "max-age="+strings.Repeat("9", 1<<20)), age.Control{Max: most})
	mustParse(t, list(control, `max-age="`+strings.Repeat("0", 1<<20)+`1"`), age.Control{Max: 1})
	mustAge(t, list("age", strings.Repeat("9", 1<<20)), 0, 1, most)
	mustAge(t, list("age", strings.Repeat("9", 1<<20)+"x"), 0, 1, 1)
	many := slices.Repeat(list(control, "max-age=5, x", "vary", "b, A", "age", "1"), 1<<15)
	mustParse(t, many, age.Control{Max: 5})
	mustAge(t, many, 0, 4, 4)
	mustFresh(t, many, 0, 4, true)
	mustVary(t, many, "a", "b")
	mustNotVary(t, append(many, list("vary", "*")...))
	var down []string
	for i := 1 << 15; i > 0; i-- {
		down = append(down, strings.Repeat("Q", i%97+1)+oneByte('a'+i%26))
	}
	if names, ok := age.Vary(list("vary", strings.Join(down, ","))); len(names) != 97*26 || !slices.IsSorted(names) || !ok {
		t.Errorf("many names: %d, %v", len(names), ok)
	}
}
