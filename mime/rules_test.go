package mime_test

import (
	"math/rand"
	"slices"
	"strconv"
	"strings"
	"testing"

	"ostiary/api"
	"ostiary/mime"
)

// TestArguments: R2, R5: what is handed in is not changed, the room behind it is neither read nor written.
func TestArguments(t *testing.T) {
	for _, n := range []int{0, 1, 2, 3} {
		room := list("content-type", "a/b;charset=x", "content-type", "a/b;p=q", "x-content-type-options", "nosniff", "content-type", "text/css", "x-content-type-options", "x")
		was := slices.Clone(room)
		l, alone := room[:n], slices.Clip(slices.Clone(room[:n]))
		x, ok := mime.Extract(l)
		y, fine := mime.Extract(alone)
		if ok != fine || !same(x, y) {
			t.Errorf("Extract of %d: the room behind it counts: %q", n, x)
		}
		if mime.Blocked(l, api.Script) != mime.Blocked(alone, api.Script) {
			t.Errorf("Blocked of %d: the room behind it counts", n)
		}
		if !slices.Equal(room, was) {
			t.Fatalf("what was given became %q", room)
		}
	}
	full := kind("image", "svg+xml", "c", "d e", "f", "g", "spare", "room")
	was := slices.Clone(full.Params)
	x := mime.Type{Major: full.Major, Minor: full.Minor, Params: full.Params[:2]}
	if s := mime.Text(x); s != `image/svg+xml;c="d e";f=g` || mime.Essence(x) != "image/svg+xml" || mime.Group(x) != 3 || !slices.Equal(full.Params, was) {
		t.Errorf("%q: %s", full, s)
	}
}

// TestAnswersAreNew: R2: what is answered is new memory each time, its spare room too.
func TestAnswersAreNew(t *testing.T) {
	l := told("a/b;charset=x;p=q", "a/b;r=s;t=u;v=w", "a/b;p=q")
	for call, f := range map[string]func() mime.Type{
		"Parse":   func() mime.Type { x, _ := mime.Parse("a/b;c=d;e=\"f\";g=h"); return x },
		"Extract": func() mime.Type { x, _ := mime.Extract(l); return x },
	} {
		one := f()
		other := f()
		want := slices.Clone(one.Params)
		all := one.Params[:cap(one.Params)]
		for i := range all {
			all[i] = mime.Param{Name: "written", Value: "over"}
		}
		if !slices.Equal(other.Params, want) || !slices.Equal(f().Params, want) {
			t.Errorf("%s: answers share memory: %q", call, other)
		}
	}
}

// TestNilIsEmpty: R4.
func TestNilIsEmpty(t *testing.T) {
	none, some := kind("a", "b"), mime.Type{Major: "a", Minor: "b", Params: make([]mime.Param, 0, 4)}
	if mime.Text(none) != mime.Text(some) || mime.Group(none) != mime.Group(some) {
		t.Error("a kind without parameters")
	}
	for _, dest := range []int{api.Script, api.Style} {
		if mime.Blocked(nil, dest) || mime.Blocked(make([]api.Header, 0, 4), dest) {
			t.Error("Blocked of no headers")
		}
	}
}

// TestAnyText: R1, R5: of any bytes the calls end, and what is answered is a kind.
func TestAnyText(t *testing.T) {
	r := rand.New(rand.NewSource(65))
	for range 50000 {
		b := make([]byte, r.Intn(16))
		r.Read(b)
		s := string(b)
		for _, text := range []string{s, "a/" + s, "a/b;" + s, "a/b;c=" + s, "a/b;c=\"" + s} {
			want, fine := parseAgain(text)
			if x, ok := mime.Parse(text); ok != fine || !same(x, want) {
				t.Fatalf("Parse(%q): %q, %v", text, x, ok)
			}
			mime.Extract(told(text, s))
			mime.Blocked(list("content-type", text, "x-content-type-options", s), r.Intn(8))
		}
		x := kind(s, s, s, s)
		mime.Group(x)
		if text := mime.Text(x); !strings.HasPrefix(text, mime.Essence(x)+";"+s+"=") {
			t.Fatalf("Text(%q): %q", x, text)
		}
	}
}

// TestLong: R1: the calls end, and soon, of very long texts too.
func TestLong(t *testing.T) {
	const n = 1 << 20
	for part, want := range map[string]int{";": 0, ";c=d": 1, ";c=\"": 1, ";c=\"\\": 1, ";c=\"d\"": 1, ";c": 0, "; ": 0, ";=": 0, "; c= ": 0, ";c=\"\";e=\"\"": 2} {
		x, ok := mime.Parse("a/b" + strings.Repeat(part, n))
		if !ok || len(x.Params) != want {
			t.Errorf("%q: %d parameters, %v", part, len(x.Params), ok)
		}
	}
	for _, part := range []string{"/", "a", " ", "a/", "\"", "\\", "=", "\xff"} {
		if _, ok := mime.Parse(strings.Repeat(part, n)); ok {
			t.Errorf("%q many times", part)
		}
	}
	text := []byte("a/b")
	for i := range n / 4 {
		text = append(append(text, ";n"...), strconv.Itoa(i)...)
		text = append(text, "=v"...)
	}
	x, ok := mime.Parse(string(text))
	if !ok || len(x.Params) != n/4 || mime.Text(x) != string(text) {
		t.Errorf("%d parameters, %v", len(x.Params), ok)
	}
	value := strings.Repeat("\\\"", n)
	x, ok = mime.Parse(mime.Text(kind("a", "b", "c", value)))
	if !ok || !same(x, kind("a", "b", "c", value)) {
		t.Errorf("a long value: %v", ok)
	}
	if x, ok := mime.Extract(told("a/b;charset=x" + strings.Repeat(", a/b", n/4))); !ok || !same(x, kind("a", "b", "charset", "x")) {
		t.Errorf("many kinds: %v", ok)
	}
	if !mime.Blocked(list("x-content-type-options", "nosniff"+strings.Repeat(",", n)), api.Script) {
		t.Error("many options")
	}
}
