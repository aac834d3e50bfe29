package guard_test

import (
	"fmt"
	"math"
	"slices"
	"strings"
	"testing"

	"ostiary/api"
	"ostiary/guard"
	"ostiary/integrity"
	"ostiary/policy"
	"ostiary/url"
)

func at(t *testing.T, s string) api.URL {
	t.Helper()
	u, why := url.Parse(s)
	if why != api.OK {
		t.Fatalf("Parse(%q): %v", s, why)
	}
	return u
}

// policies: one for each text; a `?` ahead of it makes one that reports alone.
func policies(texts ...string) []policy.Policy {
	var out []policy.Policy
	for _, s := range texts {
		rest, report := strings.CutPrefix(s, "?")
		out = append(out, policy.Parse(rest, report))
	}
	return out
}

// shown: number, rule and address of each violation, and a `?` where it is a report.
func shown(l []guard.Violation) string {
	var out []string
	for _, v := range l {
		out = append(out, fmt.Sprint(v.Policy, " ", v.Rule, " ", v.Url, map[bool]string{true: "?"}[v.Report]))
	}
	return strings.Join(out, ", ")
}

func mustFind(t *testing.T, l []policy.Policy, a guard.Ask, want string) {
	t.Helper()
	if got := shown(guard.Check(l, a)); got != want {
		t.Errorf("Check(%v, %s on %s, to %d, hops %d, nonce %q, metadata %q): %q, not %q", l, url.Text(a.Url), url.Text(a.Page), a.Dest, a.Hops, a.Nonce, a.Metadata, got, want)
	}
}

// named: the destinations that have a name.
func named() []int {
	return []int{api.Plain, api.Script, api.Style, api.Image, api.Font, api.Frame}
}

// unnamed: numbers that are no destination, those among them that would be one if they were cut short.
func unnamed() []int {
	return []int{0, 7, 8, 12, 100, -1, -2, -6, 256, 257, 1 << 32, 1<<32 + 1, 1<<32 + api.Script, -1 << 32, math.MaxInt, math.MinInt}
}

// P12.1: Check

// TestRuns: the chapter's.
func TestRuns(t *testing.T) {
	a := guard.Ask{Page: at(t, "https://p/x"), Url: at(t, "https://p/y"), Dest: api.Image}
	mustFind(t, policies("img-src 'none'"), a, "0 img-src https://p/y")
	for _, dest := range append(named(), unnamed()...) {
		a.Dest = dest
		mustFind(t, nil, a, "")
		mustFind(t, []policy.Policy{}, a, "")
	}
}

// TestUnnamed: the chapter's first example.
func TestUnnamed(t *testing.T) {
	l := policies("default-src 'none'", "connect-src; script-src; style-src; img-src; font-src; frame-src; child-src; worker-src; object-src; media-src", "?default-src")
	l = append(l, policy.Policy{Rules: []policy.Rule{{Name: ""}, {Name: "0"}, {Name: "default-src"}}})
	for _, dest := range unnamed() {
		a := guard.Ask{Page: at(t, "http://p/"), Url: at(t, "http://h/"), Dest: dest, Nonce: "n", Metadata: "sha256-x"}
		mustFind(t, l, a, "")
	}
}

// TestDefault: the chapter's second example.
func TestDefault(t *testing.T) {
	a := guard.Ask{Page: at(t, "http://p/"), Url: at(t, "http://h/")}
	for _, dest := range named() {
		a.Dest = dest
		mustFind(t, policies("default-src 'none'"), a, "0 default-src http://h")
		mustFind(t, policies("default-src"), a, "0 default-src http://h")
		mustFind(t, policies("default-src g"), a, "0 default-src http://h")
		mustFind(t, policies("default-src g h"), a, "")
		mustFind(t, policies("default-src *"), a, "")
		mustFind(t, policies("x; default-src g; y"), a, "0 default-src http://h")
		mustFind(t, policies("default-srcs g; default g; x"), a, "")
	}
}

// TestRules: by which rule each destination goes, the nearest first; a rule that permits keeps those behind it from being asked.
func TestRules(t *testing.T) {
	a := guard.Ask{Page: at(t, "http://p/"), Url: at(t, "http://h/")}
	for dest, chain := range map[int]string{
		api.Plain:  "connect-src default-src",
		api.Script: "script-src-elem script-src default-src",
		api.Style:  "style-src-elem style-src default-src",
		api.Image:  "img-src default-src",
		api.Font:   "font-src default-src",
		api.Frame:  "frame-src child-src default-src",
	} {
		a.Dest = dest
		names := strings.Fields(chain)
		for i, name := range names {
			behind := strings.Join(names[i:], " g; ") + " g"
			mustFind(t, policies(behind), a, "0 "+name+" http://h")
			mustFind(t, policies(name+" h;"+behind), a, "")
			mustFind(t, policies(behind+";"+name+" h"), a, "0 "+name+" http://h") // the first one of a name holds
			ahead := strings.Join(names[:i], " h; ")
			if i > 0 {
				mustFind(t, policies(ahead+" h;"+name), a, "")
			}
		}
		for _, name := range []string{"connect-src", "script-src-elem", "script-src", "style-src-elem", "style-src", "img-src", "font-src", "frame-src", "child-src", "worker-src", "object-src", "media-src", "x", "script-src-attr", "form-action"} {
			want := ""
			if slices.Contains(names, name) {
				want = "0 " + name + " http://h"
			}
			mustFind(t, policies(name+" 'none'"), a, want)
			mustFind(t, policies(name), a, want)
		}
	}
}

// TestEachPolicy: each is asked for itself, in its order, and counts whether it is broken or not.
func TestEachPolicy(t *testing.T) {
	a := guard.Ask{Page: at(t, "http://p/"), Url: at(t, "http://h/"), Dest: api.Image}
	l := policies("img-src g", "img-src h", "?default-src 'self'", "x", "", "?img-src *", "default-src https:; font-src h", "img-src g")
	mustFind(t, l, a, "0 img-src http://h, 2 default-src http://h?, 6 default-src http://h, 7 img-src http://h")
	slices.Reverse(l)
	mustFind(t, l, a, "0 img-src http://h, 1 default-src http://h, 5 default-src http://h?, 7 img-src http://h")
	mustFind(t, l[:2], a, "0 img-src http://h, 1 default-src http://h")
	mustFind(t, l[2:5], a, "")
	mustFind(t, make([]policy.Policy, 3), a, "")
}

// TestReport: of one that reports all is told alike.
func TestReport(t *testing.T) {
	a := guard.Ask{Page: at(t, "http://p/"), Url: at(t, "http://p/y"), Dest: api.Style}
	mustFind(t, policies("?style-src 'none'"), a, "0 style-src http://p/y?")
	mustFind(t, policies("?style-src 'self'"), a, "")
	mustFind(t, policies("?style-src h", "style-src h", "?style-src h"), a, "0 style-src http://p/y?, 1 style-src http://p/y, 2 style-src http://p/y?")
}

// TestPage: sources are read as the page's.
func TestPage(t *testing.T) {
	self := policies("default-src 'self'")
	bare := policies("img-src h")
	for _, c := range []struct{ page, u, self, bare string }{
		{"http://h/x", "http://h/y", "", ""},
		{"http://h/x", "https://h/y", "", ""},
		{"https://h/x", "http://h/y", "0 default-src http://h", "0 img-src http://h"},
		{"http://p/x", "http://h/y", "0 default-src http://h", ""},
		{"https://p/x", "https://h/y", "0 default-src https://h", ""},
		{"ws://p/x", "http://h/y", "0 default-src http://h", "0 img-src http://h"},
		{"http://h:81/", "http://h:81/y", "", "0 img-src http://h:81/y"},
		{"http://h/", "http://h:81/y", "0 default-src http://h:81", "0 img-src http://h:81"},
		{"http://h/", "data:x", "0 default-src data", "0 img-src data"},
		{"http://h/", "blob:http://h/1", "", "0 img-src blob:http://h/1"},
	} {
		a := guard.Ask{Page: at(t, c.page), Url: at(t, c.u), Dest: api.Image}
		mustFind(t, self, a, c.self)
		mustFind(t, bare, a, c.bare)
	}
}

// TestHops: behind a redirect paths do not count.
func TestHops(t *testing.T) {
	l := policies("img-src h/x")
	a := guard.Ask{Page: at(t, "http://p/"), Url: at(t, "http://h/y"), Dest: api.Image}
	mustFind(t, l, a, "0 img-src http://h")
	for _, a.Hops = range []int{1, 2, 19, 20, 21, math.MaxInt} {
		mustFind(t, l, a, "")
		mustFind(t, policies("img-src g/x"), a, "0 img-src http://h")
	}
}

// TestNonceAndMetadata: they count for Script and Style alone.
func TestNonceAndMetadata(t *testing.T) {
	l := policies("default-src 'nonce-n' 'SHA256-s' 'sha512-T'")
	for _, c := range []struct {
		nonce, metadata string
		want            bool
	}{
		{"", "", false},
		{"n", "", true},
		{"N", "", false},
		{"nn", "", false},
		{"", "sha256-s", true},
		{"", "sha256-S", false},
		{"", "sha512-T", true},
		{"", "sha384-s", false},
		{"", "md5-s", false},
		{"", "sha256-s sha512-T", true},
		{"", "sha256-s sha512-x", false},
		{"x", "sha256-s", true},
		{"n", "sha256-x", true},
		{"x", "sha256-x", false},
	} {
		for _, dest := range named() {
			a := guard.Ask{Page: at(t, "http://p/"), Url: at(t, "http://h/"), Dest: dest, Nonce: c.nonce, Metadata: c.metadata}
			want := "0 default-src http://h"
			if c.want && (dest == api.Script || dest == api.Style) {
				want = ""
			}
			mustFind(t, l, a, want)
			a.Hops = 3
			mustFind(t, l, a, want)
		}
	}
}

// TestNonceOfNoRule: a nonce is asked of the rule that holds, and beside it addresses are meant as ever.
func TestNonceOfNoRule(t *testing.T) {
	a := guard.Ask{Page: at(t, "http://p/"), Url: at(t, "http://h/"), Dest: api.Script, Nonce: "n"}
	mustFind(t, policies("script-src 'none'; default-src 'nonce-n'"), a, "0 script-src http://h")
	mustFind(t, policies("style-src 'nonce-n'; default-src 'self'"), a, "0 default-src http://h")
	mustFind(t, policies("script-src-elem 'nonce-n'; script-src 'none'; default-src 'none'"), a, "")
	mustFind(t, policies("script-src 'nonce-n'", "script-src 'self'", "script-src 'nonce-m'"), a, "1 script-src http://h, 2 script-src http://h")
	mustFind(t, policies("script-src h 'nonce-m'"), a, "")
	a.Nonce = ""
	mustFind(t, policies("script-src 'nonce-'"), a, "0 script-src http://h")
	a.Metadata, _ = integrity.Make(384, []byte("body"))
	mustFind(t, policies("script-src '"+a.Metadata+"'"), a, "")
	mustFind(t, policies("script-src "+a.Metadata), a, "0 script-src http://h")
}

// TestHeaders: policies as a reply tells them.
func TestHeaders(t *testing.T) {
	l := policy.From([]api.Header{
		{Name: "Content-Security-Policy-Report-Only", Value: "default-src https:"},
		{Name: "Content-Security-Policy", Value: "img-src g, default-src 'self'"},
	})
	a := guard.Ask{Page: at(t, "http://p/"), Url: at(t, "http://h/"), Dest: api.Image}
	mustFind(t, l, a, "0 img-src http://h, 1 default-src http://h, 2 default-src http://h?")
	a.Dest, a.Url = api.Font, at(t, "http://p/f")
	mustFind(t, l, a, "2 default-src http://p/f?")
}

// P12.1: Blocks

// TestBlocks: the chapter's third example, and every list of up to six.
func TestBlocks(t *testing.T) {
	for _, l := range [][]guard.Violation{nil, {}, make([]guard.Violation, 0, 4), make([]guard.Violation, 4)[:0]} {
		if guard.Blocks(l) {
			t.Error("none blocks")
		}
	}
	for n := range 7 {
		for bits := range 1 << n {
			l := make([]guard.Violation, n)
			for i := range l {
				l[i].Report = bits>>i&1 == 1
			}
			if got, want := guard.Blocks(l), bits != 1<<n-1; got != want {
				t.Errorf("Blocks(%v): %v", l, got)
			}
		}
	}
	if !guard.Blocks([]guard.Violation{{Policy: -1}}) || guard.Blocks([]guard.Violation{{Policy: 3, Rule: "img-src", Url: "http://h", Report: true}}) {
		t.Error("it goes by Report alone")
	}
}

// P12.2

func TestTold(t *testing.T) {
	for _, c := range []struct{ u, page, want string }{
		{"https://p/y", "https://p/x", "https://p/y"},
		{"https://u:v@p/y?q#f", "https://p/x", "https://p/y?q"},
		{"https://u@p/y", "https://p/x", "https://p/y"},
		{"https://:v@p/y", "https://p/x", "https://p/y"},
		{"https://p/y#f", "https://p/x", "https://p/y"},
		{"https://p/y#", "https://p/x", "https://p/y"},
		{"https://p/y?", "https://p/x", "https://p/y?"},
		{"https://p/y?u:v@p", "https://p/x", "https://p/y?u:v@p"},
		{"https://p/u:v@p", "https://p/x", "https://p/u:v@p"},
		{"https://p", "https://p/x", "https://p/"},
		{"https://p:443/y", "https://p/x", "https://p/y"},
		{"https://p/y", "https://u:v@p:443/x?q#f", "https://p/y"},
		{"http://p:81/y", "http://p:81/x", "http://p:81/y"},
		{"ws://p/y", "ws://p/", "ws://p/y"},
		{"ftp://u:v@p:21/y", "ftp://p/", "ftp://p/y"},
		{"http://u:v@[::1]:8/y#f", "http://[0::1]:8/", "http://[::1]:8/y"},

		{"http://p/y", "https://p/x", "http://p"}, // another scheme, port or host is another origin
		{"https://p/y", "http://p/x", "https://p"},
		{"wss://p/y", "https://p/x", "wss://p"},
		{"https://p:444/y", "https://p/x", "https://p:444"},
		{"https://p/y", "https://p:444/x", "https://p"},
		{"https://h/y?q#f", "https://p/x", "https://h"},
		{"https://u:v@h/y?q#f", "https://p/x", "https://h"},
		{"https://u:v@h:81/y", "https://p/x", "https://h:81"},
		{"https://a.p/y", "https://p/x", "https://a.p"},
		{"https://p/y", "https://a.p/x", "https://p"},
		{"ftp://h/y", "https://p/x", "ftp://h"},
		{"https://h/y", "data:x", "https://h"}, // an Opaque page has no other of its origin
		{"https://h/y", "about:blank", "https://h"},
		{"https://h/y", "a://h/y", "https://h"},

		{"data:x", "https://p/x", "data"},
		{"data:x,secret?q#f", "data:x,secret?q#f", "data"}, // two Opaque ones are never one
		{"about:blank", "about:blank", "about"},
		{"a://u:v@h:81/x?q", "a://u:v@h:81/x?q", "a"},
		{"a:/x", "https://p/x", "a"},
		{"A+b-c.1:x", "https://p/x", "a+b-c.1"},
		{"file:///etc/x", "file:///etc/y", "file"},

		{"blob:https://p/1", "https://p/x", "blob:https://p/1"},
		{"blob:https://p/1#f", "https://p/x", "blob:https://p/1"},
		{"blob:https://p/1?q#f", "https://p/x", "blob:https://p/1?q"},
		{"blob:https://u:v@p/1", "https://p/x", "blob:https://u:v@p/1"}, // its own User and Pass are none
		{"blob:https://p/1", "blob:https://p/2", "blob:https://p/1"},
		{"https://u:v@p/y", "blob:https://p/2", "https://p/y"},
		{"blob:https://h:81/1", "https://p/x", "https://h:81"},
		{"blob:https://u:v@h/1", "https://p/x", "https://h"},
		{"blob:http://p/1", "https://p/x", "http://p"},
		{"blob:x", "https://p/x", "blob"},
		{"blob:x", "blob:x", "blob"},
		{"blob:ws://p/", "ws://p/", "blob"},
		{"blob://p/x", "https://p/x", "blob"},
	} {
		u, page := at(t, c.u), at(t, c.page)
		if got := guard.Told(u, page); got != c.want {
			t.Errorf("Told(%q, %q): %q, not %q", c.u, c.page, got, c.want)
		}
		mustFind(t, policies("font-src 'none'"), guard.Ask{Page: page, Url: u, Dest: api.Font}, "0 font-src "+c.want)
	}
}

// TestToldJoined: of addresses that Join answered.
func TestToldJoined(t *testing.T) {
	page := at(t, "https://u:v@p/a/b?q#f")
	for s, want := range map[string]string{"": "https://p/a/b?q", "../c#g": "https://p/c", "?r": "https://p/a/b?r", "//h/x": "https://h", "http:x": "http://x", "data:x": "data", "//u:v@p:443/": "https://p/"} {
		u, why := url.Join(s, page)
		if why != api.OK {
			t.Fatalf("Join(%q): %v", s, why)
		}
		if got := guard.Told(u, page); got != want {
			t.Errorf("Told of %q: %q, not %q", s, got, want)
		}
	}
}
