package meta_test

import (
	"math/rand"
	"slices"
	"strings"
	"testing"

	"ostiary/api"
	"ostiary/meta"
	"ostiary/origin"
	"ostiary/url"
)

// TestArguments: R2, R5: what is handed in is not changed, and the room behind it is neither read nor written.
func TestArguments(t *testing.T) {
	self := of(t, "https://a.b.com/")
	l := all(t, "https://a.b.com/x https://c.b.com/ http://x.com/ https://a.b.com/ http://a/")
	l[0].Path = []string{"x", "spare"}[:1]
	var before []string
	for _, u := range l {
		before = append(before, url.Text(u))
	}
	for n, want := range []string{"", "same-origin", "same-site", "", "cross-site", ""} {
		for range 2 {
			got := meta.Headers(self, l[:n], api.Cors, api.Image)
			if len(got) == 0 && want != "" || len(got) > 0 && (len(got) != 3 || got[0].Value != want) {
				t.Errorf("of %d: %q", n, got)
			}
		}
	}
	for n, want := range []string{"same-origin", "same-origin", "same-site", "cross-site", "cross-site", "cross-site"} {
		if got := meta.Site(self, l[:n]); got != want {
			t.Errorf("of %d: %s, not %s", n, got, want)
		}
	}
	for i, u := range l {
		if url.Text(u) != before[i] {
			t.Errorf("what was given became %s", url.Text(u))
		}
	}
	if l[0].Path[:2][1] != "spare" {
		t.Error("the room behind a path was written")
	}
}

// TestArgumentsOfReplies: R2, R5: lists of headers.
func TestArgumentsOfReplies(t *testing.T) {
	self, u := of(t, "https://a/"), at(t, "https://b/")
	l := list("x", "y", policy, "same-origin", timing, "x", policy, "x", timing, "*")
	before := slices.Clone(l)
	for n, want := range []string{"yn", "yn", "nn", "nn", "yn", "yy"} {
		for range 2 {
			if meta.Shares(l[:n], self, u) != (want[0] == 'y') || meta.Timed(l[:n], self) != (want[1] == 'y') {
				t.Errorf("of %d: not %s", n, want)
			}
		}
	}
	if !slices.Equal(l, before) {
		t.Errorf("what was given became %q", l)
	}
}

// TestAnswers: R2: each answer is new memory, its spare room too.
func TestAnswers(t *testing.T) {
	self, l := of(t, "https://a/"), all(t, "https://a/")
	one, two := meta.Headers(self, l, api.Cors, api.Image), meta.Headers(self, l, api.Cors, api.Image)
	clear(one[:cap(one)])
	want := list("sec-fetch-site", "same-origin", "sec-fetch-mode", "cors", "sec-fetch-dest", "image")
	if !slices.Equal(two, want) || !slices.Equal(meta.Headers(self, l, api.Cors, api.Image), want) {
		t.Errorf("answers share memory: %q", two)
	}
	three, four := append(two, api.Header{Name: "a"}), append(meta.Headers(self, l, api.Cors, api.Image), api.Header{Name: "b"})
	if three[3].Name != "a" || four[3].Name != "b" {
		t.Errorf("answers share room: %q, %q", three, four)
	}
}

// TestNilIsEmpty: R4.
func TestNilIsEmpty(t *testing.T) {
	u := at(t, "https://b/")
	for _, self := range []api.Origin{of(t, "https://a/"), opaque, {}} {
		for _, l := range [][]api.URL{nil, {}, make([]api.URL, 0, 4), all(t, "https://x/")[:0]} {
			if meta.Site(self, l) != "same-origin" || len(meta.Headers(self, l, api.Cors, api.Image)) != 0 {
				t.Errorf("%+v: no addresses", self)
			}
		}
		for _, l := range [][]api.Header{nil, {}, make([]api.Header, 0, 4), list(policy, "same-origin", timing, "*")[:0]} {
			if !meta.Shares(l, self, u) || meta.Timed(l, self) {
				t.Errorf("%+v: no headers", self)
			}
		}
	}
	for _, parts := range [][]string{nil, {}, make([]string, 0, 4)} {
		u := at(t, "https://a/")
		u.Path = parts
		blob := at(t, "blob:https://a/1")
		blob.Path = parts
		self := of(t, "https://a/")
		if meta.Site(self, []api.URL{u}) != "same-origin" || len(meta.Headers(self, []api.URL{u}, 1, 1)) != 3 || meta.Site(self, []api.URL{blob}) != "cross-site" || len(meta.Headers(self, []api.URL{blob}, 1, 1)) != 0 {
			t.Error("addresses without parts")
		}
	}
}

// TestAnyBytes: R1, R5: any bytes may stand in headers, origins and addresses, also in those that no call answered.
func TestAnyBytes(t *testing.T) {
	r := rand.New(rand.NewSource(155))
	texts := []string{"", "http", "https", "HTTPS", "ws", "ftp", "blob", "data", "a", "a.b", "localhost", "[", "[::1]", "https://a/", "*", ",", `"`, `\`, "null", "same-origin", "same-site", policy, timing, "\xff", "\x00", "é", strings.Repeat("x", 4097)}
	text := func() string {
		b := make([]byte, r.Intn(6))
		r.Read(b)
		return some(r, string(b), some(r, texts...), some(r, texts...))
	}
	port := func() int { return []int{-1, 0, 80, 443, -2, 1 << 40, -1 << 63}[r.Intn(7)] }
	address := func() api.URL {
		u := api.URL{Scheme: text(), User: text(), Host: text(), HasHost: r.Intn(2) == 0, Port: port(), Opaque: r.Intn(2) == 0, Query: text(), HasQuery: r.Intn(2) == 0}
		for range r.Intn(3) {
			u.Path = append(u.Path, text())
		}
		return u
	}
	for range 50000 {
		self, u := api.Origin{Scheme: text(), Host: text(), Port: port(), Opaque: r.Intn(4) == 0}, address()
		to := origin.Of(u)
		site := meta.Site(self, []api.URL{u})
		if (site == "same-origin") != origin.Same(self, to) || (site == "cross-site") == origin.SameSite(self, to) {
			t.Fatalf("Site(%+v, %+v): %s", self, u, site)
		}
		if got := meta.Headers(self, []api.URL{address(), u}, r.Intn(9)-2, r.Intn(9)-2); (len(got) == 3) != origin.Trusted(u) {
			t.Fatalf("Headers of %+v: %q", u, got)
		}
		value := text()
		l := list(text(), text(), policy, value, timing, value)
		if l[0].Name == policy || l[0].Name == timing {
			l = l[1:]
		}
		want := value != "same-origin" && value != "same-site" || value == "same-site" && origin.SameSite(self, to) || origin.Same(self, to)
		if got := meta.Shares(l, self, u); got != want {
			t.Fatalf("Shares(%q, %+v, %+v): %v", value, self, u, got)
		}
		trimmed := strings.Trim(value, "\t ")
		if got := meta.Timed(l, self); got != (trimmed == "*" || trimmed == origin.Text(self)) && !strings.Contains(value, ",") {
			t.Fatalf("Timed(%q, %+v): %v", value, self, got)
		}
	}
}

// TestLong: R1: the calls end, and soon, of long lists and texts too.
func TestLong(t *testing.T) {
	self, here, far := of(t, "https://a.b.com/"), at(t, "https://a.b.com/"), at(t, "https://x.com/")
	l := slices.Repeat([]api.URL{here}, 1<<17)
	if got := meta.Site(self, l); got != "same-origin" {
		t.Errorf("many addresses: %s", got)
	}
	for _, n := range []int{0, 1 << 16, len(l) - 1} {
		l[n] = far
		if got := meta.Headers(self, l, api.Cors, api.Image); len(got) != 3 || got[0].Value != "cross-site" {
			t.Errorf("many addresses, one far: %q", got)
		}
		l[n] = here
	}
	many := slices.Repeat(list(timing, "x", policy, "same-origin"), 1<<16)
	if meta.Timed(many, self) || !meta.Shares(many, self, far) {
		t.Error("many headers")
	}
	long := strings.Repeat("x, ", 1<<20)
	if !meta.Timed(list(timing, long+"*"), self) || !meta.Timed(list(timing, long+"https://a.b.com"), self) || meta.Timed(list(timing, long), self) || meta.Timed(list(timing, `"`+long+"*"), self) {
		t.Error("a long value")
	}
	if !meta.Shares(list(policy, "same-origin"+strings.Repeat(" ", 1<<20)), self, far) {
		t.Error("a long policy")
	}
	deep := at(t, strings.Repeat("blob:", 800)+"https://a.b.com/")
	if meta.Site(self, []api.URL{deep}) != "cross-site" || len(meta.Headers(self, []api.URL{deep}, 1, 1)) != 3 {
		t.Error("a blob in many")
	}
}
