package mixed_test

import (
	"math/rand"
	"slices"
	"strings"
	"testing"

	"ostiary/api"
	"ostiary/mixed"
	"ostiary/url"
)

// TestArguments: R2, R5: what is handed in is not changed, the room behind it is neither read nor written; an answer is new memory.
func TestArguments(t *testing.T) {
	for _, s := range []string{"http://u:p@h:443/?q#f", "ws://h/", "https://h/", "ftp://h:443/", "a://h/"} {
		parts := []string{"x", "y", "spare", "room"}
		u := at(t, s)
		u.Path = parts[:2]
		before := u
		for range 2 {
			mixed.Bad(u)
			mixed.Judge(u, u, api.Image)
			up := mixed.Raise(u)
			if !slices.Equal(up.Path, []string{"x", "y"}) {
				t.Errorf("Raise(%s): %q", s, up.Path)
			}
			clear(up.Path[:cap(up.Path)])
			up.Path = append(up.Path, "z")
		}
		if !slices.Equal(parts, []string{"x", "y", "spare", "room"}) || !alike(u, before) {
			t.Errorf("%s: what was given became %q, %+v", s, parts, u)
		}
		one, two := mixed.Raise(u), mixed.Raise(u)
		one.Path[0] = "other"
		if two.Path[0] != "x" {
			t.Errorf("%s: two answers share memory", s)
		}
		up := mixed.Raise(u)
		parts[0] = "changed"
		if up.Path[0] != "x" {
			t.Errorf("%s: an answer changed with what was given", s)
		}
	}
	page, u := at(t, "https://u:p@a/x#f"), at(t, "http://v:w@b:81/y?q")
	if mixed.Judge(page, u, api.Image) != mixed.Upgrade || url.Text(page) != "https://u:p@a/x#f" || url.Text(u) != "http://v:w@b:81/y?q" {
		t.Errorf("what was given became %+v, %+v", page, u)
	}
}

// TestNilIsEmpty: R4: lists of a path's parts.
func TestNilIsEmpty(t *testing.T) {
	room := []string{"x", "y"}
	for _, parts := range [][]string{nil, {}, make([]string, 0, 4), room[:0]} {
		u := at(t, "http://h:443/")
		u.Path = parts
		up := mixed.Raise(u)
		if url.Text(up) != "https://h" || len(up.Path) != 0 {
			t.Errorf("Raise of no parts: %+v", up)
		}
		up.Path = append(up.Path, "z")
		if room[0] != "x" {
			t.Error("an answer has the room of what was given")
		}
		if mixed.Judge(at(t, "https://a/"), u, api.Image) != mixed.Upgrade || mixed.Bad(u) {
			t.Error("an address without parts is judged otherwise")
		}
	}
}

// TestAnyAddress: R1, R5: of addresses that no call answered, the calls end; any bytes may stand in them.
func TestAnyAddress(t *testing.T) {
	r := rand.New(rand.NewSource(145))
	texts := []string{"", "http", "https", "HTTP", "ws", "wss", "ftp", "blob", "data", "a", "localhost", "127.", "1.2", "[", "[::1]", "/", "%", "http://a/", "@", "\xff", "\x00", ":", strings.Repeat("x", 4097)}
	one := func() api.URL {
		b := make([]byte, r.Intn(6))
		r.Read(b)
		any := string(b)
		u := api.URL{Scheme: some(r, "http", "https", "ws", any, some(r, texts...)), User: some(r, texts...), Pass: any, Host: some(r, any, some(r, texts...)), HasHost: r.Intn(2) == 0, Port: []int{-1, 0, 21, 80, 443, 25, -2, 1 << 16, 1<<16 + 25, 1 << 40, -1 << 63, 1<<63 - 1}[r.Intn(12)], Opaque: r.Intn(2) == 0, Query: some(r, texts...), Fragment: any, HasQuery: r.Intn(2) == 0, HasFragment: r.Intn(2) == 0}
		for range r.Intn(4) {
			u.Path = append(u.Path, some(r, any, some(r, texts...)))
		}
		return u
	}
	for range 50000 {
		page, u, dest := one(), one(), r.Intn(12)-3
		if mixed.Bad(u) && !url.Special(u.Scheme) {
			t.Fatalf("Bad(%+v)", u)
		}
		if got := mixed.Judge(page, u, dest); got < mixed.Fine || got > mixed.Block || got != mixed.Fine && page.Scheme != "https" {
			t.Fatalf("Judge(%+v, %+v, %d): %d", page, u, dest, got)
		}
		up := mixed.Raise(u)
		if mixed.Judge(page, up, dest) != mixed.Fine {
			t.Fatalf("Judge(%+v, Raise(%+v), %d)", page, u, dest)
		}
		if u.Scheme != "http" && u.Scheme != "ws" && !alike(u, up) {
			t.Fatalf("Raise(%+v): %+v", u, up)
		}
		up.Scheme, up.Port = u.Scheme, u.Port
		if !alike(u, up) {
			t.Fatalf("Raise(%+v): %+v", u, up)
		}
	}
	zero := api.URL{}
	if mixed.Bad(zero) || mixed.Judge(zero, zero, 0) != mixed.Fine || !alike(mixed.Raise(zero), zero) {
		t.Error("zero addresses")
	}
}

// TestLargePorts: numbers that are no port of any address are none of the list, though their last bytes may be.
func TestLargePorts(t *testing.T) {
	for _, scheme := range special {
		u := at(t, scheme+"://h/")
		for _, run := range bad {
			for _, more := range []int{1 << 16, 1 << 32, 1 << 62, -1 << 63} {
				u.Port = run[0] + more
				if mixed.Bad(u) {
					t.Errorf("Bad of %s at %d", scheme, u.Port)
				}
			}
			if u.Port = -run[0] - 1; mixed.Bad(u) {
				t.Errorf("Bad of %s at %d", scheme, u.Port)
			}
		}
	}
}

// TestLong: R1: the calls end, and soon, of very long addresses too.
func TestLong(t *testing.T) {
	page := at(t, "https://a/")
	for host, want := range map[string]int{strings.Repeat("1.", 1<<20): mixed.Block, strings.Repeat("1.", 1<<20) + "a": mixed.Upgrade, "a" + strings.Repeat("1.", 1<<20): mixed.Upgrade, strings.Repeat("b.", 1<<20) + "localhost": mixed.Fine, "127." + strings.Repeat(".", 1<<20): mixed.Fine, "[" + strings.Repeat(":", 1<<20): mixed.Block} {
		u := api.URL{Scheme: "http", Host: host, HasHost: true, Port: -1, Path: make([]string, 1<<20)}
		if got := mixed.Judge(page, u, api.Image); got != want {
			t.Errorf("%.20q ..: %d, not %d", host, got, want)
		}
		if up := mixed.Raise(u); up.Scheme != "https" || up.Host != host || len(up.Path) != 1<<20 {
			t.Errorf("%.20q ..: raised wrongly", host)
		}
	}
	if got := mixed.Judge(page, at(t, strings.Repeat("blob:", 800)+"http://b/"), api.Image); got != mixed.Fine {
		t.Errorf("a blob in many: %d", got)
	}
}
