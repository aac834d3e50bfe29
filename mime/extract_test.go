package mime_test

import (
	"math/rand"
	"slices"
	"strings"
	"testing"

	"ostiary/api"
	"ostiary/headers"
	"ostiary/mime"
)

// list: headers of these names and values, by turns.
func list(words ...string) []api.Header {
	var out []api.Header
	for i := 0; i+1 < len(words); i += 2 {
		out = append(out, api.Header{Name: words[i], Value: words[i+1]})
	}
	return out
}

// told: a list of headers that tell these kinds.
func told(values ...string) []api.Header {
	var out []api.Header
	for _, v := range values {
		out = append(out, api.Header{Name: "content-type", Value: v})
	}
	return out
}

// P6.3

func TestExtract(t *testing.T) {
	for _, c := range []struct {
		l    []api.Header
		want string
	}{
		{told("text/a;charset=x, text/a"), "text/a;charset=x"},
		{told("text/a"), "text/a"},
		{told("TEXT/A;Charset=X"), "text/a;charset=X"},
		{list("Content-Type", "a/b", "CONTENT-TYPE", "c/d"), "c/d"},
		{list("x", "a/b", "content-type", "c/d", "content-types", "e/f"), "c/d"},
		{told("a/b", "c/d", "e/f"), "e/f"},
		{told("a/b, c/d, e/f"), "e/f"},
		{told("a/b;p=q, c/d"), "c/d"},
		{told("a/b", "bad"), "a/b"},
		{told("bad", "a/b"), "a/b"},
		{told("a/b, , "), "a/b"},
		{told("a/b,"), "a/b"},
		{told("a/b", ""), "a/b"},
		{told("a/b", "*/*"), "a/b"},
		{told("*/*", "a/b"), "a/b"},
		{told("a/b", "*/*;q=1"), "a/b"},
		{told("a/*"), "a/*"}, // */* alone is none
		{told("*/b"), "*/b"},
		{told("a/b", "*/b"), "*/b"},
		{told(`a/b;c="d,e"`), `a/b;c="d,e"`},
		{told(`a/b;c="d, e/f"`), `a/b;c="d, e/f"`},
		{told(`a/b;c="d`, `e";f=g`), `a/b;c="d, e";f=g`}, // Split cuts what all of them say
		{told(`a/b;c="d\", e/f", g/h`), `g/h`},
		{told("\n a/b \r"), "a/b"},
	} {
		if x, ok := mime.Extract(c.l); !ok || mime.Text(x) != c.want {
			t.Errorf("Extract(%q): %s, %v", c.l, mime.Text(x), ok)
		}
	}
}

func TestExtractNone(t *testing.T) {
	for _, l := range [][]api.Header{nil, {}, told(""), told(" "), told(","), told("*/*"), told("*/*;charset=x"), told("*/*", "*/*"), told("bad"), told("bad, */*, a/"), list("content", "a/b"), list("content-type ", "a/b"), list("", "a/b"), list("accept", "a/b"), told(`"a/b"`), told(`", a/b`), told("a;/b"), told("a/b c/d")} {
		if x, ok := mime.Extract(l); ok || !same(x, mime.Type{}) {
			t.Errorf("Extract(%q): %q, %v", l, x, ok)
		}
	}
}

func TestExtractCharset(t *testing.T) {
	for _, c := range []struct {
		l    []api.Header
		want string
	}{
		{told("a/b;charset=x", "a/b"), "a/b;charset=x"},
		{told("a/b;charset=x", "A/B"), "a/b;charset=x"},
		{told("A/B;CHARSET=X", "a/b"), "a/b;charset=X"},
		{told("a/b;charset=x", "a/b;p=q"), "a/b;p=q;charset=x"}, // behind its own
		{told("a/b;charset=x", "a/b;p=q;r=s"), "a/b;p=q;r=s;charset=x"},
		{told("a/b;p=q;charset=x;r=s", "a/b"), "a/b;charset=x"}, // the charset alone
		{told("a/b;p=q", "a/b"), "a/b"},
		{told("a/b;p=q", "a/b;r=s"), "a/b;r=s"},
		{told("a/b;charset=x", "a/b;charset=y"), "a/b;charset=y"},
		{told("a/b;charset=x", "a/b;charset=y;p=q"), "a/b;charset=y;p=q"},
		{told("a/b;charset=x", `a/b;charset=""`), `a/b;charset=""`}, // an empty one is one
		{told(`a/b;charset=""`, "a/b"), `a/b;charset=""`},
		{told(`a/b;charset=""`, "a/b", "a/b"), `a/b;charset=""`},
		{told("a/b;charset=x", "a/b;charset="), "a/b;charset=x"}, // this is none
		{told("a/b;charset=x", "a/b;charset"), "a/b;charset=x"},
		{told("a/b;charset=x", "a/b;charset=\x01"), "a/b;charset=x"},
		{told(`a/b;charset="x y"`, "a/b"), `a/b;charset="x y"`},
		{told(`a/b;charset="x, y"`, "a/b"), `a/b;charset="x, y"`},
		{told("a/b;charset=x", "a/b", "a/b"), "a/b;charset=x"}, // by this same rule
		{told("a/b;charset=x", "a/b;p=q", "a/b;r=s"), "a/b;r=s;charset=x"},
		{told("a/b;charset=x", "a/b;charset=y", "a/b"), "a/b;charset=y"},
		{told("a/b;charset=x", "a/c", "a/b"), "a/b"},
		{told("a/b;charset=x", "a/c"), "a/c"},
		{told("a/b;charset=x", "c/b"), "c/b"},
		{told("a/b;charset=x", "a/c", "a/c"), "a/c"},
		{told("a/b;charset=x", "a/c;charset=y", "a/b", "a/c"), "a/c"},
		{told("a/c;charset=y", "a/b;charset=x", "a/b"), "a/b;charset=x"},
		{told("a/b;charset=x", "bad", "a/b"), "a/b;charset=x"}, // what does not Parse is not ahead of it
		{told("a/b;charset=x", "*/*", "a/b"), "a/b;charset=x"},
		{told("a/b;charset=x", "*/*;charset=y", "a/b"), "a/b;charset=x"},
		{told("*/*;charset=y", "a/b"), "a/b"},
		{told("a/b", "a/b;charset=x"), "a/b;charset=x"},
		{told("a/b;charset=x", "a/b", "bad", "*/*"), "a/b;charset=x"},
		{told("a/b;charsets=x", "a/b"), "a/b"},
		{told("a/b;charset=x;charset=y", "a/b"), "a/b;charset=x"},
	} {
		x, ok := mime.Extract(c.l)
		if !ok || mime.Text(x) != c.want {
			t.Errorf("Extract(%q): %s, %v", c.l, mime.Text(x), ok)
		}
		if y, ok := mime.Parse(mime.Text(x)); !ok || !same(x, y) {
			t.Errorf("Extract(%q): %q is read back as %q", c.l, x, y)
		}
	}
}

// charsetAt: the charset that the kind at i has, its own or by the rule.
func charsetAt(kinds []mime.Type, i int) (string, bool) {
	for _, p := range kinds[i].Params {
		if p.Name == "charset" {
			return p.Value, true
		}
	}
	if i == 0 || kinds[i].Major != kinds[i-1].Major || kinds[i].Minor != kinds[i-1].Minor {
		return "", false
	}
	return charsetAt(kinds, i-1)
}

// TestExtractAgain: the rule, read from the last kind back.
func TestExtractAgain(t *testing.T) {
	r := rand.New(rand.NewSource(63))
	parts := []string{"a/b", "a/b", "a/c", "A/B;p=q", "a/b;charset=x", "a/c;charset=y", "a/b;Charset=\"\"", "*/*", "*/*;charset=z", "bad", "", "a/b;charset=\"v, w\""}
	inherited := 0
	for range 50000 {
		var l []api.Header
		for range r.Intn(5) {
			l = append(l, api.Header{Name: []string{"content-type", "Content-Type", "x"}[r.Intn(3)], Value: strings.Join([]string{parts[r.Intn(len(parts))], parts[r.Intn(len(parts))]}[r.Intn(2):], ",")})
		}
		var kinds []mime.Type
		cut, _ := headers.Split(l, "content-type")
		for _, piece := range cut {
			if x, ok := mime.Parse(piece); ok && (x.Major != "*" || x.Minor != "*") {
				kinds = append(kinds, x)
			}
		}
		x, ok := mime.Extract(l)
		if len(kinds) == 0 {
			if ok || !same(x, mime.Type{}) {
				t.Fatalf("Extract(%q): %q, %v", l, x, ok)
			}
			continue
		}
		last := kinds[len(kinds)-1]
		want := mime.Type{Major: last.Major, Minor: last.Minor, Params: slices.Clone(last.Params)}
		value, has := charsetAt(kinds, len(kinds)-1)
		if _, own := charsetAt([]mime.Type{last}, 0); has && !own {
			want.Params = append(want.Params, mime.Param{Name: "charset", Value: value})
			inherited++
		}
		if !ok || !same(x, want) {
			t.Fatalf("Extract(%q): %q, not %q", l, x, want)
		}
	}
	if inherited < 2000 {
		t.Errorf("too few: %d", inherited)
	}
}
