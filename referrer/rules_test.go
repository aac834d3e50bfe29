package referrer_test

import (
	"math/rand"
	"slices"
	"strings"
	"testing"

	"ostiary/api"
	"ostiary/referrer"
)

// TestArguments: R2, R5: what is handed in is not changed, the room behind it is neither read nor written.
func TestArguments(t *testing.T) {
	l := list("X", "unsafe-url", header, "Origin, x", "y", "z", header, "NO-REFERRER", header, "same-origin")
	before := slices.Clone(l)
	for n, want := range []string{"old", "old", "origin", "origin", "no-referrer", "same-origin"} {
		for range 2 {
			if got := referrer.From(l[:n], "old"); got != want {
				t.Errorf("From(%q): %q, not %q", l[:n], got, want)
			}
		}
	}
	if !slices.Equal(l, before) {
		t.Errorf("what was given became %q", l)
	}

	parts := []string{"x", "y", "spare", "room"}
	page, to := at(t, "https://u:p@a/?q#f"), at(t, "https://v:w@a/?r#g")
	page.Path, to.Path = parts[:2], parts[1:2]
	for range 2 {
		for _, name := range names {
			want := map[byte]string{'a': "https://a/x/y?q", 'o': "https://a/"}[known[name][0]]
			if got := referrer.Of(name, page, to); got != want {
				t.Errorf("%s: %q, not %q", name, got, want)
			}
		}
		mustStrip(t, page, "https://a/x/y?q", "https://a/")
		mustStrip(t, to, "https://a/y?r", "https://a/")
	}
	if !slices.Equal(parts, []string{"x", "y", "spare", "room"}) || len(page.Path) != 2 || page.User != "u" || page.Pass != "p" || page.Fragment != "f" || !page.HasFragment || to.User != "v" {
		t.Errorf("what was given became %q, %+v, %+v", parts, page, to)
	}
}

// TestNilIsEmpty: R4: lists of headers, of a path's parts.
func TestNilIsEmpty(t *testing.T) {
	for _, l := range [][]api.Header{nil, {}, make([]api.Header, 0, 4), list(header, "origin")[:0]} {
		mustName(t, l, "")
	}
	page, to := at(t, "https://a/"), at(t, "https://b/")
	for _, parts := range [][]string{nil, {}, make([]string, 0, 4), {"x"}} {
		page.Path = parts[:0]
		mustStrip(t, page, "https://a", "https://a/")
		to.Path = parts[:0]
		if got := referrer.Of("", page, to); got != "https://a/" {
			t.Errorf("to a path without parts: %q", got)
		}
		if got := referrer.Of("", page, page); got != "https://a" {
			t.Errorf("to itself: %q", got)
		}
	}
}

// TestAnyBytes: R1, R5: any bytes may stand in a policy, a header, an address.
func TestAnyBytes(t *testing.T) {
	r := rand.New(rand.NewSource(137))
	page, near, down := at(t, "https://a/x"), at(t, "https://a/"), at(t, "http://b/")
	for range 30000 {
		b := make([]byte, r.Intn(12))
		r.Read(b)
		s := string(b)
		if referrer.Known(s) || referrer.Known("origin"+s) && s != "" || referrer.Known(s+"origin") && s != "" {
			t.Fatalf("Known of %q", s)
		}
		if referrer.Of(s, page, near) != "https://a/x" || referrer.Of(s, page, down) != "" {
			t.Fatalf("Of(%q)", s)
		}
		for _, l := range [][]api.Header{list(header, s), list(s, "origin"), list(header, s+","+s), list(header, s+",origin"), list(header, "origin,"+s), list(header, "origin", header, s, s, s), list(header, "unsafe-url", s, "x", header, s+"origin")} {
			for _, old := range []string{"old", s} {
				if got, want := referrer.From(l, old), fromAgain(l, old); got != want {
					t.Fatalf("From(%q, %q): %q, not %q", l, old, got, want)
				}
			}
		}
	}
	for c := range 256 {
		s := string([]byte{byte(c)})
		want := "" // a byte that is no part of a name makes it another one, but for those at a piece's ends
		if strings.Contains("\t ,", s) {
			want = "origin"
		}
		mustName(t, list(header, s+"origin"), want)
		mustName(t, list(header, "origin"+s), want)
		if s != "N" && s != "n" {
			mustName(t, list(header, "origi"+s), "")
		}
	}
}

// TestAnyAddress: R1: of addresses that no call answered, the calls end.
func TestAnyAddress(t *testing.T) {
	r := rand.New(rand.NewSource(138))
	texts := []string{"", "http", "https", "HTTPS", "blob", "a", "localhost", "127.", "/", "x", "%", "http://a/", "@", "#", "\xff", ":", strings.Repeat("x", 4097)}
	one := func() api.URL {
		u := api.URL{Scheme: some(r, "http", "https", "blob", some(r, texts...)), User: some(r, texts...), Pass: some(r, texts...), Host: some(r, texts...), HasHost: r.Intn(2) == 0, Port: []int{-1, 0, 80, 443, -2, 1 << 40, -1 << 63}[r.Intn(7)], Opaque: r.Intn(2) == 0, Query: some(r, texts...), Fragment: some(r, texts...), HasQuery: r.Intn(2) == 0, HasFragment: r.Intn(2) == 0}
		for range r.Intn(4) {
			u.Path = append(u.Path, some(r, texts...))
		}
		return u
	}
	for range 20000 {
		page, to := one(), one()
		all, only := referrer.Strip(page, false), referrer.Strip(page, true)
		if (page.Scheme == "http" || page.Scheme == "https") != (only != "") {
			t.Fatalf("Strip(%+v): %q", page, only)
		}
		for _, name := range slices.Concat(names, []string{"", "x"}) {
			if got := referrer.Of(name, page, to); got != "" && got != all && got != only {
				t.Fatalf("Of(%q, %+v, %+v): %q", name, page, to, got)
			}
		}
	}
	for _, name := range slices.Concat(names, []string{"", "x"}) {
		if got := referrer.Of(name, api.URL{}, api.URL{}); got != "" {
			t.Errorf("%q of zero addresses: %q", name, got)
		}
	}
	mustStrip(t, api.URL{}, "", "")
}

// TestLong: R1: the calls end, and soon, of very long texts and lists too.
func TestLong(t *testing.T) {
	const n = 1 << 18
	long := strings.Repeat("origin", n)
	page, near := at(t, "https://a/x"), at(t, "https://a/")
	if referrer.Known(long) || referrer.Of(long, page, near) != "https://a/x" {
		t.Error("a long policy")
	}
	mustName(t, list(header, long), "")
	for part, want := range map[string]string{",": "", "\"": "", " ": "", "origin,": "origin", "x,": "", "Unsafe-Url, x, ": "unsafe-url", "\"a, b\",": ""} {
		text := strings.Repeat(part, n/4)
		mustName(t, list(header, text), want)
		mustName(t, list(header, text+",same-origin"), "same-origin")
		mustName(t, list(header, "same-origin,"+text), map[bool]string{true: "same-origin", false: want}[want == ""])
	}
	l := make([]api.Header, n/4)
	for i := range l {
		l[i] = api.Header{Name: []string{header, "x"}[i%2], Value: []string{"origin", "no-referrer"}[i%2]}
	}
	mustName(t, l, "origin")
	l[n/4-2].Value = "strict-origin"
	mustName(t, l, "strict-origin")

	deep := at(t, "blob:"+strings.Repeat("blob:", 800)+"http://b/")
	if got := referrer.Of("strict-origin", page, deep); got != "" {
		t.Errorf("to a blob in many: %q", got)
	}
	if got := referrer.Of("strict-origin", page, at(t, strings.Repeat("blob:", 800)+"https://b/")); got != "https://a/" {
		t.Errorf("to a safe blob in many: %q", got)
	}
	mustStrip(t, at(t, "http:a"+strings.Repeat("/", 4090)), "http://a/", "http://a/")
	mustStrip(t, at(t, "http:a"+strings.Repeat("/.", 2045)), "http://a/", "http://a/")
}
