package source_test

import (
	"math/rand"
	"slices"
	"strconv"
	"strings"
	"testing"

	"ostiary/api"
	"ostiary/source"
)

// TestArguments: R2, R5: what is handed in is not changed, the room behind it is neither read nor written.
func TestArguments(t *testing.T) {
	u, page := at(t, "http://h/%78/y"), at(t, "http://p/%78/y")
	room := []string{"%78", "y", "z", "spare"}
	u.Path, page.Path = room[:2], room[1:3]
	l := []string{"'NONCE-b'", "h/x/z", "'SHA512-z'", "g", "'sha256-y'", "h", "'nonce-a'", "*"}
	was, before := slices.Clone(room), slices.Clone(l)
	for range 2 {
		for n, want := range []bool{false, false, false, false, false, false, true, true, true} {
			if got := source.Any(l[:n], u, page, 0, "a", "sha512-Z"); got != want {
				t.Errorf("Any(%q): %v", l[:n], got)
			}
			if got := source.Any(l[:n], u, page, 0, "b", ""); got != (n > 0) {
				t.Errorf("Any(%q), by its first one: %v", l[:n], got)
			}
			if got := source.Any(l[:n], u, page, 0, "", "sha256-y sha512-z"); got != (n > 4) {
				t.Errorf("Any(%q), by its third and fifth one: %v", l[:n], got)
			}
		}
		if source.One("h/x/y/z", u, page, 0) || !source.One("h/x/y", u, page, 0) || !source.One("h/%78/%79", u, page, 0) || !source.One("h/x/", u, page, 0) {
			t.Error("the room behind the path counts")
		}
	}
	if !slices.Equal(room, was) || !slices.Equal(l, before) {
		t.Errorf("what was given became %q, %q", room, l)
	}
}

// TestOrder: R4: Any hangs on what stands in a list, not on where.
func TestOrder(t *testing.T) {
	r := rand.New(rand.NewSource(114))
	u, page := at(t, "http://h/"), at(t, "http://p/")
	for range 2000 {
		l := make([]string, r.Intn(7))
		for i := range l {
			l[i] = some(r, "'nonce-a'", "'sha256-a'", "'SHA256-a'", "'sha512-b'", "g", "'none'", "", "h", "-")
		}
		want := source.Any(l, u, page, 0, "a", "sha256-a sha512-b")
		for range 5 {
			r.Shuffle(len(l), func(i, j int) { l[i], l[j] = l[j], l[i] })
			if source.Any(l, u, page, 0, "a", "sha256-a sha512-b") != want {
				t.Fatalf("Any(%q): %v", l, !want)
			}
		}
	}
}

// TestNilIsEmpty: R4: a list of sources, and the parts of a path.
func TestNilIsEmpty(t *testing.T) {
	u, page := at(t, "a://h"), at(t, "a://p")
	for _, l := range [][]string{nil, {}, make([]string, 0, 4)} {
		if source.Any(l, u, page, 0, "a", "sha256-a") || source.Any(l, u, u, 0, "", "") {
			t.Error("the empty list means something")
		}
		u.Path = l
		for s, want := range map[string]bool{"h": true, "h/": true, "h/x": false, "h//": false, "'self'": false, "*": true, "a:": true} {
			if source.One(s, u, page, 0) != want || source.Any([]string{s}, u, page, 0, "", "") != want {
				t.Errorf("One(%q) of an empty path: %v", s, !want)
			}
		}
	}
}

// TestAnyBytes: R1, R5: of any bytes the calls end, and answer what the promises say.
func TestAnyBytes(t *testing.T) {
	r := rand.New(rand.NewSource(115))
	for range 20000 {
		b := make([]byte, r.Intn(12))
		r.Read(b)
		x := string(b)
		if got := source.Scheme(x, x) && !source.Scheme(x, x+"s") && !source.Scheme(x+"s", x); !got && x != "http" && x != "ws" {
			t.Fatalf("Scheme(%q)", x)
		}
		u, page := at(t, someAddress(r)), at(t, someAddress(r))
		for _, s := range []string{x, "'" + x, "'" + x + "'", x + ":", x + "://h", "http://" + x, "h:" + x, "h/" + x, "*." + x, "*:*/x/" + x, someSource(r) + x} {
			if want := oneAgain(s, u, page, 0); source.One(s, u, page, 0) != want {
				t.Fatalf("One(%q, %+v, %+v): %v", s, u, page, !want)
			}
			l := []string{s, "'nonce-" + x + "'", "'sha256-" + x + "'"}
			if want := anyAgain(l, u, page, 1, x, "sha256-"+x); source.Any(l, u, page, 1, x, "sha256-"+x) != want {
				t.Fatalf("Any(%q, %+v, %+v): %v", l, u, page, !want)
			}
		}
	}
}

// TestAnyAddress: R1: of addresses that no call answered, the calls end.
func TestAnyAddress(t *testing.T) {
	r := rand.New(rand.NewSource(116))
	texts := []string{"", "http", "https", "blob", "a", "h", "*", "*.", ".", "/", "x", "%", "%78", "'", "\xff", ":"}
	one := func() api.URL {
		u := api.URL{Scheme: some(r, texts...), Host: some(r, texts...), HasHost: r.Intn(2) == 0, Port: []int{-1, 0, 80, 443, -2, 1 << 40, -1 << 63}[r.Intn(7)], Opaque: r.Intn(2) == 0}
		for range r.Intn(4) {
			u.Path = append(u.Path, some(r, texts...))
		}
		return u
	}
	for range 50000 {
		s, u, page, hops := someSource(r), one(), one(), r.Intn(3)-1
		if source.One(s, u, page, hops) && !source.Any([]string{"g:", s}, u, page, hops, "", "") {
			t.Fatalf("One(%q, %+v, %+v, %d), and not Any", s, u, page, hops)
		}
	}
	if source.One("", api.URL{}, api.URL{}, 0) || source.One("*:*", api.URL{}, api.URL{}, 0) || source.Any(nil, api.URL{}, api.URL{}, 0, "", "") {
		t.Error("of zero addresses")
	}
	if source.One("h/x", api.URL{Scheme: "a", Host: "h", Port: -1, Opaque: true, Path: []string{"x"}}, api.URL{Scheme: "a"}, 0) {
		t.Error("the text of an Opaque one is no part")
	}
}

// TestLong: R1: the calls end, and soon, of very long texts and lists too.
func TestLong(t *testing.T) {
	const n = 1 << 16
	u, page := at(t, "http://h/x"), at(t, "http://p/")
	for _, part := range []string{"*", "'", "a", ":", "/", "//", "*.", ".", "http:", "http://", "h:80/", "%78", "/x", "0", "-", "'nonce-", "\xff"} {
		for _, ahead := range []string{"", "h", "h/", "h:", "http://", "*.", "'nonce-a"} {
			s := ahead + strings.Repeat(part, n)
			if source.One(s, u, page, 0) || source.Any([]string{s, s, s}, u, page, 0, s, s) {
				t.Errorf("%q and %q many times", ahead, part)
			}
		}
	}
	if !source.One("h:"+strings.Repeat("0", n)+"80/"+strings.Repeat("x", n), u, page, 1) {
		t.Error("a long port")
	}
	path := strings.Repeat("/y", 2000)
	long := at(t, "http://h"+path)
	many := make([]string, n)
	for i := range many {
		many[i] = "g" + strconv.Itoa(i)
	}
	many[n-1] = "h" + path
	if !source.Any(many, long, page, 0, "", "") || source.Any(many[:n-1], long, page, 0, "", "") {
		t.Error("the last of many sources")
	}

	var metadata strings.Builder
	for i := range many {
		many[i] = "'SHA384-" + strconv.Itoa(i) + "'"
		metadata.WriteString("sha384-" + strconv.Itoa(n-1-i) + " ")
	}
	if !source.Any(many, u, page, 0, "a", metadata.String()) || source.Any(many[1:], u, page, 0, "a", metadata.String()) || source.Any(many, u, page, 0, "", metadata.String()+"sha512-0") {
		t.Error("many digests")
	}
}
