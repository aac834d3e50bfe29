package meta_test

import (
	"slices"
	"strings"
	"testing"

	"ostiary/api"
	"ostiary/meta"
	"ostiary/origin"
	"ostiary/url"
)

func at(t *testing.T, s string) api.URL {
	t.Helper()
	u, why := url.Parse(s)
	if why != api.OK {
		t.Fatalf("Parse(%.60q): %v", s, why)
	}
	return u
}

// all: the addresses of a text, parted by blanks.
func all(t *testing.T, s string) []api.URL {
	t.Helper()
	var l []api.URL
	for _, one := range strings.Fields(s) {
		l = append(l, at(t, one))
	}
	return l
}

func of(t *testing.T, s string) api.Origin {
	t.Helper()
	return origin.Of(at(t, s))
}

var opaque = api.Origin{Opaque: true}

// none: numbers that are no mode and no destination.
var none = []int{0, -1, -2, -3, 7, 8, 9, 100, 255, 256, 257, 1<<8 + 2, 1<<16 + 1, 1<<32 + 1, 1<<32 + 4, 1<<63 - 1, -1 << 63, -1<<63 + 1}

// P15.1

func mustSite(t *testing.T, self, l, want string) {
	t.Helper()
	if got := meta.Site(of(t, self), all(t, l)); got != want {
		t.Errorf("Site(%s; %s): %s, not %s", self, l, got, want)
	}
}

// TestSiteRun: the chapter's.
func TestSiteRun(t *testing.T) {
	mustSite(t, "https://a.b.com", "https://c.b.com/", "same-site")
}

func TestSiteOfNone(t *testing.T) {
	for _, self := range []string{"https://a.b.com/", "http://a/", "ftp://h:1/", "data:x", "a:x"} {
		mustSite(t, self, "", "same-origin")
	}
}

func TestSiteOfOne(t *testing.T) {
	const self = "https://a.b.com/"
	for want, l := range map[string][]string{
		"same-origin": {"https://a.b.com/", "https://a.b.com:443/x?q#f", "HTTPS://u:p@A.B.COM", "https:a.b.com", "blob:https://a.b.com/1", "blob:https://a.b.com:443/1"},
		"same-site":   {"https://a.b.com:80/", "https://a.b.com:0/", "https://a.b.com:444/", "https://b.com/", "https://c.b.com/", "https://d.c.b.com:81/", "https://a.a.b.com/", "blob:https://c.b.com/1", "https://.b.com/"},
		"cross-site":  {"http://a.b.com/", "http://a.b.com:443/", "wss://a.b.com/", "ws://a.b.com:443/", "ftp://a.b.com/", "https://x.com/", "https://xb.com/", "https://a.b.com./", "https://a.b.com.x/", "https://com/", "https://a/", "https://1.2.3.4/", "https://[::1]/", "https://localhost/", "data:x", "data:https://a.b.com/", "about:blank", "a://a.b.com/", "a:x", "file:///x", "blob:http://a.b.com/1", "blob:wss://a.b.com/1", "blob:x", "blob:blob:https://a.b.com/1", "https://x.com/a.b.com", "https://a.b.com@x.com/", "https://x.com/#https://a.b.com/"},
	} {
		for _, s := range l {
			mustSite(t, self, s, want)
		}
	}
	mustSite(t, "http://h:81/", "http://h:81/", "same-origin")
	mustSite(t, "http://h:81/", "http://h/", "same-site")
	mustSite(t, "http://1.2.3.4/", "http://1.2.3.4:81/", "same-site")
	mustSite(t, "http://1.2.3.4/", "http://2.2.3.4/", "cross-site")
	mustSite(t, "http://[::1]/", "http://[::1]:81/", "same-site")
	mustSite(t, "http://a.co.uk/", "http://b.co.uk/", "cross-site")
	mustSite(t, "http://a.c.co.uk/", "http://b.c.co.uk/", "same-site")
	mustSite(t, "ws://a/", "ws://a:80/x", "same-origin")
}

// TestSiteOrders: lists of up to four addresses, near and far ones in every order: the farthest one counts.
func TestSiteOrders(t *testing.T) {
	self := of(t, "https://a.b.com/")
	near := []api.URL{at(t, "https://a.b.com/x"), at(t, "https://c.b.com/y"), at(t, "https://x.com/"), at(t, "https://a.b.com:81/"), at(t, "data:x")}
	how := []int{0, 1, 2, 1, 2}
	names := []string{"same-origin", "same-site", "cross-site"}
	var grow func(l []api.URL, far int)
	grow = func(l []api.URL, far int) {
		if got := meta.Site(self, l); got != names[far] {
			t.Fatalf("%+v: %s, not %s", l, got, names[far])
		}
		if len(l) == 4 {
			return
		}
		for i, u := range near {
			grow(append(slices.Clone(l), u), max(far, how[i]))
		}
	}
	grow(nil, 0)
}

// TestSiteTwice: what two addresses are to one another is not asked, but what each is to the page.
func TestSiteTwice(t *testing.T) {
	const self = "https://a.b.com/"
	mustSite(t, self, "https://x.com/ https://x.com/", "cross-site")
	mustSite(t, self, "https://x.com/ https://y.x.com/ https://a.b.com/", "cross-site")
	mustSite(t, self, "https://a.b.com/ https://x.com/ https://a.b.com/ https://a.b.com/", "cross-site")
	mustSite(t, self, "https://c.b.com/ https://c.b.com/", "same-site")
	mustSite(t, self, "https://c.b.com/ https://d.b.com/ https://a.b.com/", "same-site")
	mustSite(t, self, "https://a.b.com/ https://a.b.com/", "same-origin")
	mustSite(t, self, "http://a.b.com/ https://a.b.com/", "cross-site")
	mustSite(t, self, "data:x https://a.b.com/", "cross-site")
}

// TestSiteOpaque: to an Opaque origin nothing is near, not even what looks like it.
func TestSiteOpaque(t *testing.T) {
	for _, self := range []api.Origin{opaque, {Scheme: "https", Host: "a", Port: 443, Opaque: true}} {
		for _, s := range []string{"data:x", "about:blank", "https://a/", "https://a/ https://a/", "blob:x", "a://a/"} {
			if got := meta.Site(self, all(t, s)); got != "cross-site" {
				t.Errorf("%+v; %s: %s", self, s, got)
			}
		}
		if got := meta.Site(self, nil); got != "same-origin" {
			t.Errorf("%+v; none: %s", self, got)
		}
	}
}

func TestMode(t *testing.T) {
	for mode, want := range map[int]string{api.SameOrigin: "same-origin", api.NoCors: "no-cors", api.Cors: "cors", 4: "", 5: "", 6: ""} {
		if got := meta.Mode(mode); got != want {
			t.Errorf("Mode(%d): %q, not %q", mode, got, want)
		}
	}
	for _, mode := range none {
		if got := meta.Mode(mode); got != "" {
			t.Errorf("Mode(%d): %q", mode, got)
		}
	}
}

func TestDest(t *testing.T) {
	for dest, want := range map[int]string{api.Plain: "empty", api.Script: "script", api.Style: "style", api.Image: "image", api.Font: "font", api.Frame: "iframe"} {
		if got := meta.Dest(dest); got != want {
			t.Errorf("Dest(%d): %q, not %q", dest, got, want)
		}
	}
	for _, dest := range none { // the chapter's third example, 9, among them
		if got := meta.Dest(dest); got != "" {
			t.Errorf("Dest(%d): %q", dest, got)
		}
	}
}

// P15.2

func mustTell(t *testing.T, self, l string, mode, dest int, want ...string) {
	t.Helper()
	var told []api.Header
	for i, value := range want {
		told = append(told, api.Header{Name: []string{"sec-fetch-site", "sec-fetch-mode", "sec-fetch-dest"}[i], Value: value})
	}
	if got := meta.Headers(of(t, self), all(t, l), mode, dest); !slices.Equal(got, told) {
		t.Errorf("Headers(%s; %s; %d, %d): %q, not %q", self, l, mode, dest, got, told)
	}
}

// TestHeadersEach: each mode with each destination, and numbers that are none.
func TestHeadersEach(t *testing.T) {
	for mode, how := range []string{"", "same-origin", "no-cors", "cors", ""} {
		for dest, what := range []string{"", "empty", "script", "style", "image", "font", "iframe", ""} {
			mustTell(t, "https://a.b.com/", "https://a.b.com/", mode, dest, "same-origin", how, what)
			mustTell(t, "https://a.b.com/", "https://c.b.com/", mode, dest, "same-site", how, what)
			mustTell(t, "https://a.b.com/", "https://x/ https://a.b.com/", mode, dest, "cross-site", how, what)
			mustTell(t, "https://a.b.com/", "http://a.b.com/", mode, dest)
			mustTell(t, "https://a.b.com/", "", mode, dest)
		}
	}
	for _, n := range none {
		mustTell(t, "https://a/", "https://a/", n, n, "same-origin", "", "")
		mustTell(t, "https://a/", "https://a/", api.Cors, n, "same-origin", "cors", "")
		mustTell(t, "https://a/", "https://a/", n, api.Style, "same-origin", "", "style")
		mustTell(t, "http://a/", "http://a/", n, n)
	}
}

// TestHeadersTrusted: the last address alone is asked whether it is trusted.
func TestHeadersTrusted(t *testing.T) {
	trusted := []string{"https://a/", "https://b:25/x?q#f", "https://1.2.3.4/", "wss://a/", "data:x", "about:blank", "http://localhost/", "http://b.localhost:81/", "http://127.0.0.1/", "http://0x7f.1/", "http://[::1]/", "ws://localhost/", "ftp://localhost/", "a://localhost/", "blob:https://b/1", "blob:http://localhost/1", "blob:data:x"}
	others := []string{"http://a/", "http://a:443/", "http://b/", "ws://a/", "ftp://a/", "a:x", "a://a/", "file:///x", "http://128.0.0.1/", "http://[::2]/", "http://localhost.b/", "blob:http://a/1", "blob:x", "http://a/https://a/", "http://localhost@b/"}
	self := of(t, "https://a/")
	for _, good := range trusted {
		for _, more := range append([]string{"", "https://a/"}, others...) {
			l := all(t, more+" "+good)
			got := meta.Headers(self, l, api.NoCors, api.Font)
			want := []api.Header{{Name: "sec-fetch-site", Value: meta.Site(self, l)}, {Name: "sec-fetch-mode", Value: "no-cors"}, {Name: "sec-fetch-dest", Value: "font"}}
			if !slices.Equal(got, want) {
				t.Errorf("%s %s: %q, not %q", more, good, got, want)
			}
		}
	}
	for _, bad := range others {
		for _, more := range append([]string{"", "http://a/"}, trusted...) {
			mustTell(t, "https://a/", more+" "+bad, api.Cors, api.Plain)
			mustTell(t, bad, more+" "+bad, api.Cors, api.Plain)
		}
	}
	mustTell(t, "https://a/", "http://a/", api.Cors, api.Plain) // the chapter's second example
}

func TestHeadersSites(t *testing.T) {
	mustTell(t, "http://a/", "https://a/", api.Cors, api.Image, "cross-site", "cors", "image")
	mustTell(t, "http://localhost/", "http://localhost/", api.SameOrigin, api.Script, "same-origin", "same-origin", "script")
	mustTell(t, "http://localhost/", "http://localhost:81/", api.SameOrigin, api.Script, "same-site", "same-origin", "script")
	mustTell(t, "https://a/", "http://a/ https://a/", api.Cors, api.Plain, "cross-site", "cors", "empty")
	mustTell(t, "https://a/", "https://a/ https://a:81/ https://a/", api.Cors, api.Frame, "same-site", "cors", "iframe")
	mustTell(t, "data:x", "https://a/", api.Cors, api.Plain, "cross-site", "cors", "empty")
	mustTell(t, "data:x", "data:x", api.NoCors, api.Style, "cross-site", "no-cors", "style")
	mustTell(t, "data:x", "", api.Cors, api.Plain)
}

// P15.3

const policy = "cross-origin-resource-policy"

// list: headers of these names and values.
func list(of ...string) []api.Header {
	var l []api.Header
	for i := 0; i+1 < len(of); i += 2 {
		l = append(l, api.Header{Name: of[i], Value: of[i+1]})
	}
	return l
}

// mustShare: with the same origin, one of the same site, and one of another; each y or n.
func mustShare(t *testing.T, l []api.Header, want string) {
	t.Helper()
	self := of(t, "https://a.b.com/")
	for i, s := range []string{"https://a.b.com/x?q#f", "https://c.b.com/", "https://x.com/"} {
		if got := meta.Shares(l, self, at(t, s)); got != (want[i] == 'y') {
			t.Errorf("Shares(%q, %s): %v", l, s, got)
		}
	}
}

func TestSharesValues(t *testing.T) {
	for value, want := range map[string]string{
		"same-origin":  "ynn",
		"same-site":    "yyn",
		"cross-origin": "yyy",
	} {
		mustShare(t, list(policy, value), want)
		mustShare(t, list("Cross-Origin-Resource-Policy", value), want)
		mustShare(t, list("CROSS-ORIGIN-RESOURCE-POLICY", value), want)
		mustShare(t, list("x", "same-origin", policy, value, "y", "same-site"), want)
	}
	for _, value := range []string{"Same-Origin", "SAME-ORIGIN", "same-Origin", "same-origiN", "Same-Site", "SAME-SITE", "same-sitE", "Cross-Origin", "cross-site", "", " ", "x", "same", "origin", "site", "same-", "-origin", "same-originx", "xsame-origin", "same-sites", "sameorigin", "same_origin", "same origin", " same-origin", "same-origin ", "\tsame-site", "same-site\x00", "same-origin;x", "same-origin,", ",same-origin", `"same-origin"`, "'same-origin'", "same-origin, same-site", "same-origin,same-origin", "*", "null", "none", "no-cors", "https://a.b.com", "\xff", "same-or\u0131gin"} {
		mustShare(t, list(policy, value), "yyy")
	}
}

func TestSharesNoneAndSeveral(t *testing.T) {
	mustShare(t, nil, "yyy")
	mustShare(t, list("x", "same-origin", "cross-origin-resource", "same-origin", policy+"s", "same-origin", "x"+policy, "same-site", "cross-origin-embedder-policy", "same-origin", " "+policy, "same-origin", "", "same-origin"), "yyy")
	for _, one := range []string{"same-origin", "same-site", "cross-origin", "", "x"} {
		for _, two := range []string{"same-origin", "same-site", "cross-origin", "", "x"} {
			mustShare(t, list(policy, one, policy, two), "yyy") // Get's text is neither
			mustShare(t, list("Cross-Origin-Resource-Policy", one, "x", "y", policy, two), "yyy")
		}
	}
}

func TestSharesOrigins(t *testing.T) {
	for _, row := range []struct {
		self, u, want string // by same-origin, by same-site
	}{
		{"https://a/", "https://b/", "nn"}, // the chapter's run
		{"https://a/", "https://a/", "yy"},
		{"https://a/", "https://a:443/", "yy"},
		{"https://a/", "HTTPS://u:p@A/x", "yy"},
		{"https://a/", "https://a:81/", "ny"},
		{"https://a:81/", "https://a/", "ny"},
		{"https://a/", "http://a/", "nn"},
		{"http://a/", "https://a/", "nn"},
		{"https://a/", "wss://a/", "nn"},
		{"https://a.b.com/", "https://b.com/", "ny"},
		{"https://b.com/", "https://a.b.com/", "ny"},
		{"https://a.co.uk/", "https://b.co.uk/", "nn"},
		{"https://a/", "blob:https://a/1", "yy"},
		{"https://a/", "blob:https://a:81/1", "ny"},
		{"https://a/", "blob:x", "nn"},
		{"https://a/", "data:x", "nn"},
		{"https://a/", "about:blank", "nn"},
		{"data:x", "https://a/", "nn"},
		{"data:x", "data:x", "nn"},
		{"a://a/", "a://a/", "nn"},
		{"ftp://a/", "ftp://a:21/", "yy"},
		{"http://[::1]/", "http://[::1]:81/", "ny"},
		{"http://1.2.3.4/", "http://1.2.3.5/", "nn"},
	} {
		self, u := of(t, row.self), at(t, row.u)
		if got := meta.Shares(list(policy, "same-origin"), self, u); got != (row.want[0] == 'y') {
			t.Errorf("same-origin, %s, %s: %v", row.self, row.u, got)
		}
		if got := meta.Shares(list(policy, "same-site"), self, u); got != (row.want[1] == 'y') {
			t.Errorf("same-site, %s, %s: %v", row.self, row.u, got)
		}
		for _, l := range [][]api.Header{nil, list(policy, "cross-origin"), list(policy, "Same-Origin"), list(policy, "Same-Site"), list(policy, "")} { // the chapter's first example among them
			if !meta.Shares(l, self, u) {
				t.Errorf("%q, %s, %s: false", l, row.self, row.u)
			}
		}
	}
}

// P15.4

const timing = "timing-allow-origin"

func mustTime(t *testing.T, self string, l []api.Header, want bool) {
	t.Helper()
	if got := meta.Timed(l, of(t, self)); got != want {
		t.Errorf("Timed(%q, %s): %v", l, self, got)
	}
}

func TestTimedPieces(t *testing.T) {
	for value, want := range map[string]bool{
		"*":                                true,
		"https://a":                        true,
		"*,*":                              true,
		"x, *":                             true,
		"*, x":                             true,
		"x,*,y":                            true,
		"https://x, https://a":             true,
		"https://a, https://x":             true,
		"https://a,https://x":              true,
		"\t https://a \t":                  true,
		"x ,\thttps://a\t, y":              true,
		",,*":                              true,
		",https://a,":                      true,
		`"x, y", *`:                        true,
		`"x\", *", https://a`:              true,
		`"x\\", *`:                         true,
		"":                                 false,
		" ":                                false,
		",":                                false,
		"x":                                false,
		"null":                             false,
		"**":                               false,
		"* x":                              false,
		"x *":                              false,
		"*;x":                              false,
		`"*"`:                              false,
		`"https://a"`:                      false,
		`"x, *`:                            false,
		`"x, *, y"`:                        false,
		`"x\", *"`:                         false,
		`"x", "*, https://a"`:              false,
		"https://*":                        false,
		"*://a":                            false,
		"*.a":                              false,
		"https://a/":                       false,
		"https://a:443":                    false,
		"https://a:81":                     false,
		"http://a":                         false,
		"HTTPS://a":                        false,
		"https://A":                        false,
		"https://a.b":                      false,
		"https://b.a":                      false,
		"https://aa":                       false,
		"https://":                         false,
		"https://a https://x":              false,
		"https://a; https://a":             false,
		"a":                                false,
		"https:a":                          false,
		"//a":                              false,
		"\nhttps://a":                      false, // just 9 and 32 are left out at the ends
		"https://a\r":                      false,
		"\f*":                              false,
		"same-origin":                      false,
		"\xff":                             false,
		"https://a\x00":                    false,
		"https://x, https://y, https://az": false,
	} {
		mustTime(t, "https://a/x?q#f", list(timing, value), want)
		mustTime(t, "https://a/", list("Timing-Allow-Origin", value), want)
		mustTime(t, "https://a/", list("x", "*", "TIMING-ALLOW-ORIGIN", value, "y", "https://a"), want)
	}
}

func TestTimedNoneAndSeveral(t *testing.T) {
	mustTime(t, "https://a/", nil, false)
	mustTime(t, "https://a/", list("x", "*", timing+"s", "*", "timing-allow", "https://a", "access-control-allow-origin", "*", " "+timing, "*", "", "*"), false)
	mustTime(t, "https://a/", list(timing, "x", timing, "y"), false)
	mustTime(t, "https://a/", list(timing, "x", timing, "*"), true)
	mustTime(t, "https://a/", list(timing, "*", timing, "x"), true)
	mustTime(t, "https://a/", list(timing, "x", "z", "w", "Timing-Allow-Origin", "y, https://a"), true)
	mustTime(t, "https://a/", list(timing, "https:", timing, "//a"), false)
	mustTime(t, "https://a/", list(timing, `"x`, timing, "*"), false) // quotes that are open go on in the next one
	mustTime(t, "https://a/", list(timing, `"x`, timing, `y", *`), true)
	mustTime(t, "https://a/", list(timing, "", timing, "*"), true)
	mustTime(t, "https://a/", list(timing, "", timing, ""), false)
}

func TestTimedOrigins(t *testing.T) {
	for self, text := range map[string]string{
		"https://a/":           "https://a",
		"https://a:443/":       "https://a",
		"https://a:81/":        "https://a:81",
		"http://a:443/":        "http://a:443",
		"http://a/":            "http://a",
		"HTTP://U:P@EX.com:80": "http://ex.com",
		"ftp://a/":             "ftp://a",
		"ws://[0::1]:1/":       "ws://[::1]:1",
		"blob:https://a/1":     "https://a",
		"data:x":               "null",
		"about:blank":          "null",
		"a://a/":               "null",
		"blob:x":               "null",
	} {
		mustTime(t, self, list(timing, text), true)
		mustTime(t, self, list(timing, "x, "+text), true)
		mustTime(t, self, list(timing, "*"), true)
		for _, other := range []string{"https://a", "https://a:81", "http://a", "http://a:443", "http://ex.com", "ftp://a", "ws://[::1]:1", "null", "Null", "NULL", ""} {
			mustTime(t, self, list(timing, other), other == text)
		}
	}
}

// TestTimedHostWithComma: such an origin's text is no piece, for it is cut there.
func TestTimedHostWithComma(t *testing.T) {
	mustTime(t, "http://a,b/", list(timing, "http://a,b"), false)
	mustTime(t, "http://a,b/", list(timing, "*"), true)
	mustTime(t, `http://a"b/`, list(timing, `http://a"b`), true)
	mustTime(t, `http://a",b"/`, list(timing, `http://a",b", x`), true)
}

// P15.5

// TestStaysCrossSite: whatever comes behind, and whatever stood ahead.
func TestStaysCrossSite(t *testing.T) {
	self := of(t, "https://a.b.com/")
	for _, far := range []string{"https://x.com/", "http://a.b.com/", "data:x", "blob:x", "ftp://a.b.com/"} {
		for _, ahead := range []string{"", "https://a.b.com/", "https://c.b.com/ https://a.b.com/"} {
			l := all(t, ahead+" "+far)
			for n := range 40 {
				if got := meta.Site(self, l); got != "cross-site" {
					t.Fatalf("%s %s, and %d behind it: %s", ahead, far, n, got)
				}
				if got := meta.Headers(self, append(slices.Clone(l), at(t, "https://a.b.com/")), api.Cors, api.Plain); len(got) != 3 || got[0].Value != "cross-site" {
					t.Fatalf("%s %s, and %d behind it: %q", ahead, far, n, got)
				}
				l = append(l, at(t, []string{"https://a.b.com/", "https://c.b.com/", "https://a.b.com:81/"}[n%3]))
			}
		}
	}
}
