package source_test

import (
	"math"
	"strings"
	"testing"

	"ostiary/api"
	"ostiary/source"
	"ostiary/url"
)

func at(t *testing.T, s string) api.URL {
	t.Helper()
	u, why := url.Parse(s)
	if why != api.OK {
		t.Fatalf("Parse(%q): %v", s, why)
	}
	return u
}

// oneByte: a text of just that byte (string(rune(c)) would be two bytes above 127).
func oneByte(c int) string { return string([]byte{byte(c)}) }

// must: One of s, for a page at that address and without redirects.
func must(t *testing.T, s, u, page string, want bool) {
	t.Helper()
	mustBehind(t, s, u, page, 0, want)
}

func mustBehind(t *testing.T, s, u, page string, hops int, want bool) {
	t.Helper()
	if source.One(s, at(t, u), at(t, page), hops) != want {
		t.Errorf("One(%q, %s, %s, %d): %v", s, u, page, hops, !want)
	}
	if source.Any([]string{s}, at(t, u), at(t, page), hops, "", "") != want {
		t.Errorf("Any of %q alone, %s, %s, %d: %v", s, u, page, hops, !want)
	}
}

// P11.1

func TestScheme(t *testing.T) {
	yes := map[[2]string]int{{"http", "https"}: 1, {"ws", "wss"}: 1, {"http", "ws"}: 1, {"http", "wss"}: 1}
	all := []string{"", "http", "https", "ws", "wss", "ftp", "data", "blob", "about", "file", "a", "h", "w", "httpss", "http:", "https:", " http", "HTTP", "Http", "HTTPS", "httpS", "WS", "Wss", "\xff", "\x00", "http\x00"}
	for _, want := range all {
		for _, has := range all {
			if source.Scheme(want, has) != (want == has || yes[[2]string{want, has}] == 1) {
				t.Errorf("Scheme(%q, %q): %v", want, has, want != has)
			}
		}
	}
}

// P11.2

// TestRuns: the chapter's.
func TestRuns(t *testing.T) {
	for _, page := range []string{"https://p/", "http://p/", "https://b.com/x"} {
		must(t, "*.b.com", "https://a.b.com/", page, true)
		must(t, "b.com", "https://b.com:444/", page, false)
		must(t, "http://b.com/x/", "https://b.com/x/y", page, true)
		must(t, "https:", "http://a/", page, false)
	}
}

// TestExamples: the chapter's.
func TestExamples(t *testing.T) {
	for _, none := range []string{"'NONE'", "'none'", "'None'"} {
		for _, u := range []string{"http://h/", "https://h/", "http://none/", "data:x", "a://h", "a:", "about:blank"} {
			must(t, none, u, u, false)
		}
	}
	for _, u := range []string{"http://h/", "http://a.b:9/x", "http://[::1]:1/", "https://h:80/"} {
		must(t, "*:*", u, "http://p:7/", true)
	}
	must(t, "*:*", "http://h/", "https://p/", false)
	must(t, "*:*", "ftp://h/", "http://p/", false)
	must(t, "*:*", "ftp://h:9/", "ftp://p/", true)
	must(t, "h/x", "http://h/y", "http://p/", false)
	mustBehind(t, "h/x", "http://h/y", "http://p/", 1, true)
}

func TestStar(t *testing.T) {
	pages := []string{"http://p/", "https://p/", "ws://p/", "wss://p/", "ftp://p/", "data:p", "about:p", "blob:http://p/", "a://p", "a:p"}
	for _, page := range pages {
		for _, u := range []string{"http://h/", "https://h:9/x", "ws://h/", "wss://h:0/"} {
			must(t, "*", u, page, true)
		}
		for _, u := range []string{"ftp://h/", "data:x", "about:x", "blob:http://p/", "a://h", "a:x", "https+a://h", "b:"} {
			must(t, "*", u, page, strings.Split(u, ":")[0] == strings.Split(page, ":")[0])
		}
	}
	for _, s := range []string{"**", " *", "* ", "'*'", "*:", "*\x00", "*."} {
		must(t, s, "http://h/", "http://h/", false)
	}
}

func TestSelf(t *testing.T) {
	for _, c := range []struct {
		u, page string
		want    bool
	}{
		{"http://h/x?q#f", "http://u:p@h/y", true},
		{"http://h/", "http://h:80/", true},
		{"https://h:443/", "https://h/", true},
		{"http://h:81/", "http://h:81/", true},
		{"ftp://h/", "ftp://h/", true},
		{"http://[::1]/", "http://[0::1]/", true},
		{"http://h/", "http://g/", false},
		{"http://a.h/", "http://h/", false},
		{"http://h/", "http://a.h/", false},
		{"http://h:81/", "http://h/", false},
		{"http://h/", "http://h:81/", false},
		{"http://h:81/", "http://h:82/", false},

		{"https://h/", "http://h/", true}, // not one origin, but safer
		{"ws://h/", "http://h/", true},
		{"wss://h/", "http://h/", true},
		{"wss://h/", "ws://h/", true},
		{"https://g/", "http://h/", false},
		{"http://h/", "https://h/", false},
		{"wss://h/", "https://h/", false},
		{"https://h/", "wss://h/", false},
		{"http://h/", "ws://h/", false},
		{"ftp://h/", "http://h/", false},
		{"http://h/", "ftp://h/", false},

		{"https://h:81/", "http://h/", false}, // a port that is not -1
		{"https://h/", "http://h:81/", false},
		{"https://h:81/", "http://h:81/", false},
		{"https://h:80/", "http://h/", false},
		{"https://h/", "http://h:443/", false},
		{"https://h:80/", "http://h:443/", false},

		{"blob:http://h/x", "http://h/", true}, // a blob's origin
		{"http://h/", "blob:http://h/x", true},
		{"blob:http://h:81/x", "http://h:81/", true},
		{"blob:https://h/x", "http://h/", false},
		{"blob:http://g/x", "http://h/", false},
		{"blob:x", "http://h/", false},

		{"a://h", "a://h/x", true}, // no origin, but a Host
		{"a://h", "a://g", false},
		{"a://h", "b://h", false},
		{"a://h:1", "a://h:1", false},
		{"a://h:1", "a://h", false},
		{"data:x", "data:y", true}, // as the words are: their Hosts are one, though empty
		{"data:x", "about:y", false},
		{"data:x", "http://h/", false},
		{"a:x", "a://h", false},
		{"a:///x", "a:y", true},
	} {
		for _, s := range []string{"'self'", "'SELF'", "'Self'", "'seLF'"} {
			must(t, s, c.u, c.page, c.want)
			mustBehind(t, s, c.u, c.page, 3, c.want)
		}
	}
}

// TestQuoted: what begins with `'` means nothing else, even where it could be read as a host.
func TestQuoted(t *testing.T) {
	must(t, "'x", "http://'x/", "http://p/", false)
	must(t, "'x'", "http://'x'/", "http://p/", false)
	must(t, "x'", "http://x'/", "http://p/", true)
	for _, s := range []string{"'", "''", "'self", "self'", "''self''", "'self' ", " 'self'", "'self'/", "'self':80", "'self':*", "'selfish'", "'\u017felf'", "'*'", "'http:'", "'h'", "'h", "'unsafe-inline'", "'strict-dynamic'", "'nonce-a'", "'sha256-a'", "'http://h'", "\"self\""} {
		must(t, s, "http://h/", "http://h/", false)
	}
	must(t, "self", "http://self/", "http://p/", true)
	must(t, "self", "http://h/", "http://h/", false)
}

func TestSchemeAlone(t *testing.T) {
	must(t, "https:", "https://a:9/x", "data:p", true)
	must(t, "HTTPS:", "https://a/", "http://p/", true)
	must(t, "HttP:", "http://a/", "https://p/", true)
	must(t, "http:", "https://a/", "https://p/", true)
	must(t, "http:", "wss://a/", "https://p/", true)
	must(t, "ws:", "wss://a/", "https://p/", true)
	must(t, "https:", "wss://a/", "https://p/", false)
	must(t, "wss:", "ws://a/", "ws://p/", false)
	must(t, "data:", "data:x", "http://p/", true)
	must(t, "Data:", "data:x", "http://p/", true)
	must(t, "data:", "blob:x", "data:p", false)
	must(t, "a:", "a:", "http://p/", true)
	must(t, "a+b-c.d9:", "A+B-C.D9:x", "http://p/", true)
	for _, s := range []string{"http", "http::", "http: ", " http:", "http:/", "http://", "http:///", "http:x", "http:*", "1a:", "+a:", "-a:", ".a:", "h_p:", "h%74tp:", "htt\u00fep:", ":", "::", "http:\x00", "http:'", "'http':"} {
		must(t, s, "http://h/x", "http://h/x", false)
	}
	must(t, "1a:", "http://1a/", "http://p/", false) // the host is 1a, its port is empty
	must(t, "a:", "http://a/", "http://p/", false)
	must(t, "a:80", "http://a/", "http://p/", true) // no scheme, but a host
}

// TestSchemeEachByte: which bytes may be in a scheme, and which may begin it.
func TestSchemeEachByte(t *testing.T) {
	const letters = "ABCDEFGHIJKLMNOPQRSTUVWXYZabcdefghijklmnopqrstuvwxyz"
	for c := range 256 {
		b := oneByte(c)
		first := strings.Contains(letters, b)
		inside := first || strings.Contains("0123456789+-.", b)
		for _, form := range []string{"", "//h"} {
			u := api.URL{Scheme: strings.ToLower(b), Host: "h", HasHost: true, Port: -1}
			if got := source.One(b+":"+form, u, at(t, "http://p/"), 0); got != first {
				t.Errorf("One(%q): %v", b+":"+form, got)
			}
			u.Scheme = "x" + strings.ToLower(b) + "y"
			if got := source.One("x"+b+"Y:"+form, u, at(t, "http://p/"), 0); got != inside {
				t.Errorf("One(%q): %v", "x"+b+"Y:"+form, got)
			}
		}
	}
}

// TestSchemeAhead: with a scheme ahead of its host a source goes by it, else by the page's.
func TestSchemeAhead(t *testing.T) {
	for _, want := range []string{"http", "https", "ws", "wss", "ftp", "a"} {
		for _, has := range []string{"http", "https", "ws", "wss", "ftp", "a"} {
			holds := source.Scheme(want, has)
			for _, page := range []string{"http://p/", "https://p/", "ftp://p/", "data:p", "a://p"} {
				must(t, want+"://h", has+"://h/", page, holds)
				must(t, strings.ToUpper(want)+"://H", has+"://h/", page, holds)
				must(t, want+"://*", has+"://h/", page, holds)
				must(t, want+"://h:*/x", has+"://h:9/x", page, holds)
			}
			must(t, "h", has+"://h/", want+"://p/", holds)
			must(t, "*:*", has+"://h/", want+"://p/", holds)
			must(t, "h:*/x", has+"://h:9/x", want+"://p/", holds)
		}
	}
	for _, s := range []string{"http:h", "http:/h", "http//h", "//h", "://h", "/h", "http:// h", "http://http://h", "http:///h", "1http://h", "*://h", "'http'://h", "http:\\\\h"} {
		must(t, s, "http://h/", "http://h/", false)
		must(t, s, "http://http/h", "http://http/h", false)
	}
	must(t, "a+B.c-1://h", "a+b.c-1://h", "http://p/", true)
}

func TestHost(t *testing.T) {
	for _, c := range []struct {
		s, u string
		want bool
	}{
		{"b.com", "http://b.com/", true},
		{"B.Com", "http://b.com/", true},
		{"b.com", "http://B.COM/", true},
		{"b.com", "http://a.b.com/", false},
		{"a.b.com", "http://b.com/", false},
		{"b.co", "http://b.com/", false},
		{"b.com.", "http://b.com/", false},
		{"b.com", "http://b.com./", false},
		{"b.com.", "http://b.com./", true},
		{" b.com", "http://b.com/", false},
		{"u@b.com", "http://u@b.com/", false},
		{"b.com?q", "http://b.com/?q", false},
		{"b.com#f", "http://b.com/#f", false},
		{"%62.com", "http://b.com/", false}, // a host is not Unpercented
		{"127.0.0.1", "http://127.0.0.1/", true},
		{"127.1", "http://127.1/", false}, // nor read as four bytes
		{"[::1]", "http://[::1]/", false}, // it ends at its first `:`
		{"[", "http://[::1]/", false},

		{"*", "http://h/", true},
		{"http://*", "http://a.b.c/", true},
		{"http://*", "http://[::1]/", true},
		{"http://*", "http://*/", true},
		{"http://**", "http://h/", false},
		{"http://h*", "http://h/", false},

		{"*.b.com", "http://a.b.com/", true},
		{"*.b.com", "http://x.a.b.com/", true},
		{"*.B.COM", "http://A.b.com/", true},
		{"*.b.com", "http://*.b.com/", true},
		{"*.b.com", "http://..b.com/", true},
		{"*.b.com", "http://b.com/", false},  // just the rest
		{"*.b.com", "http://.b.com/", false}, // just the rest and its `.`
		{"*.b.com", "http://ab.com/", false},
		{"*.b.com", "http://a.b.com./", false},
		{"*.b.com", "http://a.b.com.au/", false},
		{"*.b.com", "http://com/", false},
		{"*.com", "http://b.com/", true},
		{"*b.com", "http://ab.com/", false},
		{"*b.com", "http://*b.com/", true},
		{"a.*.com", "http://a.b.com/", false},
		{"a.*.com", "http://a.*.com/", true},
		{"a.*", "http://a.b/", false},
		{"*.*.com", "http://a.b.com/", false},
		{"*.*", "http://a.b/", false},
		{"*.*", "http://a.*/", true},

		{"*.", "http://b./", false}, // nothing more: a host like others
		{"*.", "http://*./", true},
		{"*..", "http://b../", true},
		{"*..", "http://b./", false},
		{"*..", "http://../", false},
		{"*.1", "http://0.0.0.1/", true},

		{"", "http://h/", false}, // the empty one
		{"http://", "http://h/", false},
		{"/", "http://h/", false},
		{"/x", "http://h/x", false},
		{":80", "http://h/", false},
		{":*", "http://h/", false},
		{"http://:80/", "http://h/", false},
	} {
		must(t, c.s, c.u, "http://p/", c.want)
		mustBehind(t, c.s, c.u, "http://p/", 2, c.want)
	}
}

// TestNoHost: an address without a Host that is not empty is meant by no source with one, not by `*` either.
func TestNoHost(t *testing.T) {
	for _, u := range []string{"a:", "a:x", "a:h", "a:/h", "a:///", "a:///h", "a:.h"} {
		for _, s := range []string{"", "h", "x", "*.h", "*:*", "*/", "*/h", "/h", "///h", ":*", "a://", "a://*", "a://*:*", "a:///h", "a://h", "a:*", "*.", "http://*:*"} {
			for _, hops := range []int{0, 1} {
				mustBehind(t, s, u, "a:p", hops, false)
			}
		}
		must(t, "*", u, "a:p", true)
		must(t, "a:", u, "a:p", true)
	}
	must(t, "a://*", "a://h", "a:p", true)
}

// TestHostOfOthers: a Host counts as it is; Lower is asked of the source alone.
func TestHostOfOthers(t *testing.T) {
	must(t, "a://H", "a://h", "http://p/", true)
	must(t, "a://h", "a://H", "http://p/", false)
	must(t, "a://H", "a://H", "http://p/", false)
	must(t, "a://*.B", "a://A.b", "http://p/", true)
	must(t, "a://*.b", "a://A.B", "http://p/", false)
	must(t, "a://%ff", "a://\xff", "http://p/", false)
	must(t, "a://*", "a://H", "http://p/", true)
}

func TestPort(t *testing.T) {
	for _, c := range []struct {
		s, u string
		want bool
	}{
		{"h", "http://h/", true}, // none
		{"h", "http://h:80/", true},
		{"h", "http://h:81/", false},
		{"h", "http://h:443/", false},
		{"h", "http://h:0/", false},
		{"h", "https://h:80/", false},
		{"h", "https://h:443/", true},
		{"*", "http://h:81/", true}, // a word, and no host
		{"http://*", "http://h:81/", false},

		{"h:*", "http://h/", true}, // any
		{"h:*", "http://h:0/", true},
		{"h:*", "http://h:65535/", true},
		{"h:*", "http://g/", false},
		{"h:**", "http://h/", false},
		{"h:*0", "http://h/", false},
		{"h:8*", "http://h/", false},

		{"h:80", "http://h/", true}, // digits
		{"h:80", "http://h:80/", true},
		{"h:80", "http://h:81/", false},
		{"h:81", "http://h:81/", true},
		{"h:81", "http://h/", false},
		{"h:0", "http://h:0/", true},
		{"h:0", "http://h/", false},
		{"h:0", "http://h:1/", false},
		{"h:65535", "http://h:65535/", true},
		{"h:65616", "http://h/", false}, // 80 and 2^16
		{"h:4294967376", "http://h/", false},
		{"h:18446744073709551696", "http://h/", false},
		{"h:" + strings.Repeat("9", 100), "http://h/", false},
		{"h:" + strings.Repeat("0", 100) + "81", "http://h:81/", true},
		{"h:0080", "http://h/", true},
		{"ws://h:80", "ws://h/", true},
		{"https://h:443", "https://h/", true},
		{"wss://h:443", "wss://h/", true},
		{"ftp://h:21", "ftp://h/", true},
		{"ftp://h:80", "ftp://h/", false},

		{"h:80", "https://h/", true}, // 80 where it is 443 and safe
		{"h:80", "https://h:443/", true},
		{"h:0080", "https://h/", true},
		{"http://h:80", "https://h/", true},
		{"http://h:80", "wss://h/", true},
		{"ws://h:80", "wss://h/", true},
		{"wss://h:80", "wss://h/", true},
		{"https://h:80", "https://h/", true},
		{"h:80", "https://h:80/", true},
		{"h:80", "https://h:444/", false},
		{"h:80", "https://h:81/", false},
		{"h:80", "http://h:443/", false},
		{"h:80", "ws://h:443/", false},
		{"ftp://h:80", "ftp://h:443/", false},
		{"a://h:80", "a://h:443/", false},
		{"h:443", "http://h/", false},
		{"h:443", "https://h:80/", false},
		{"h:81", "https://h/", false},
		{"h:8", "https://h/", false},

		{"a://h", "a://h/", true}, // a scheme without an Own port
		{"a://h:1", "a://h/", false},
		{"a://h:0", "a://h/", false},
		{"a://h:1", "a://h:1/", true},
		{"a://h", "a://h:80/", false},
		{"a://h:80", "a://h:80/", true},
		{"a://h:*", "a://h/", true},
		{"a://h:18446744073709551615", "a://h/", false},
		{"a://h:9223372036854775807", "a://h/", false},
		{"a://h:-1", "a://h/", false},

		{"h:", "http://h/", false}, // none of these is digits
		{"h:/", "http://h/", false},
		{"h::", "http://h/", false},
		{"h::80", "http://h/", false},
		{"h:80:", "http://h/", false},
		{"h:80:80", "http://h/", false},
		{"h:x", "http://h/", false},
		{"h:+80", "http://h/", false},
		{"h:-80", "http://h/", false},
		{"h: 80", "http://h/", false},
		{"h:80 ", "http://h/", false},
		{"h:8_0", "http://h/", false},
		{"h:0x50", "http://h/", false},
		{"h:80.0", "http://h/", false},
		{"h:80?", "http://h/", false},
		{"h:%38%30", "http://h/", false},
		{"h:\u0668\u0660", "http://h/", false},
	} {
		must(t, c.s, c.u, "http://p:7/", c.want)
		must(t, c.s+"/", c.u, "http://p:7/", c.want && c.s != "*")
		mustBehind(t, c.s+"/x/y", c.u, "http://p:7/", 1, c.want && c.s != "*")
	}
}

func TestPath(t *testing.T) {
	for _, c := range []struct {
		path, u string
		want    bool
	}{
		{"", "/x/y", true}, // no path, and one that is `/`
		{"/", "/", true},
		{"/", "/x/y", true},

		{"/x", "/x", true}, // the same
		{"/x", "/", false},
		{"/x", "/y", false},
		{"/x", "/X", false},
		{"/x", "/xy", false},
		{"/xy", "/x", false},
		{"/x", "/x/", false},
		{"/x", "/x/y", false},
		{"/x/y", "/x/y", true},
		{"/x/y", "/x", false},
		{"/x/y", "/x/", false},
		{"/x/y", "/x/y/z", false},
		{"/x/y", "/y/x", false},
		{"/x/y", "/y", false},
		{"//x", "//x", true},
		{"//x", "/x", false},
		{"/x", "//x", false},
		{"/x//y", "/x//y", true},
		{"/x//y", "/x/y", false},
		{"/x:80", "/x:80", true},
		{"/*", "/*", true},
		{"/*", "/x", false},

		{"/x/", "/x/", true}, // what begins with it
		{"/x/", "/x/y", true},
		{"/x/", "/x/y/z", true},
		{"/x/", "/x//", true},
		{"/x/", "/x", false},
		{"/x/", "/", false},
		{"/x/", "/xy", false},
		{"/x/", "/xy/", false},
		{"/x/", "/y/x/", false},
		{"/x/", "/X/", false},
		{"/x/y/", "/x/y/", true},
		{"/x/y/", "/x/y/z", true},
		{"/x/y/", "/x/y", false},
		{"/x/y/", "/x/", false},
		{"/x/y/", "/x/z/y", false},
		{"//", "//", true},
		{"//", "//x", true},
		{"//", "/", false},
		{"//", "/x", false},
		{"//", "/x/", false},
		{"/x//", "/x//", true},
		{"/x//", "/x//y", true},
		{"/x//", "/x/", false},
		{"/x//", "/x/y/", false},
		{"///", "///", true},
		{"///", "//", false},

		{"/%78", "/x", true}, // Unpercented
		{"/x", "/%78", true},
		{"/%78%2Fy", "/x%2fy", true},
		{"/%78", "/%2578", false},
		{"/%2578", "/%2578", true},
		{"/%25", "/%", true},
		{"/%zz%4", "/%zz%4", true},
		{"/a b", "/a%20b", true},
		{"/a%20b", "/a b", true},
		{"/\xff", "/%FF", true},
		{"/%ff", "/\xff", true},
		{"/\u00e9", "/%c3%a9", true},
		{"/%00", "/%00", true},
		{"/\x00", "/%00", true},
		{"/%78/", "/x/y", true},
		{"/x/", "/%78/%79", true},

		{"/x%2Fy", "/x/y", false}, // a `/` that is escaped parts nothing, and ends nothing
		{"/x/y", "/x%2Fy", false},
		{"/x%2Fy", "/x%2Fy", true},
		{"/x%2F", "/x%2F", true},
		{"/x%2F", "/x/", false},
		{"/x%2F", "/x/y", false},
		{"/x/", "/x%2F", false},
		{"/%2F", "/%2F", true},
		{"/%2F", "/", false},
		{"/%2F", "/x", false},

		{"/x?q", "/x?q", false}, // u's query and fragment are no part of its path
		{"/x", "/x?q", true},
		{"/x", "/x#f", true},
		{"/x#f", "/x#f", false},
		{"/x?q", "/x%3Fq", true},
		{"/x/?q", "/x/?q", false},

		{"/./x", "/./x", false}, // a source's path has no dots taken out
		{"/y/../x", "/y/../x", false},
		{"/x/..", "/x/..", false},
		{"/x/.", "/x/", false},
		{"/%2e", "/", false},
		{"/\\x", "/\\x", false},
		{"/'self'", "/'self'", true},
		{"/ ", "/%20", true},
	} {
		for _, ahead := range []string{"h", "http://H", "h:80", "h:*", "*:*", "http://*"} {
			must(t, ahead+c.path, "http://h"+c.u, "http://p/x", c.want)
			must(t, ahead+c.path, "https://h"+c.u, "http://p/x", c.want)
			for _, hops := range []int{1, 2, 20, -1, math.MaxInt, math.MinInt} {
				mustBehind(t, ahead+c.path, "http://h"+c.u, "http://p/x", hops, true)
			}
			must(t, "g"+c.path, "http://h"+c.u, "http://p/x", false)
			mustBehind(t, "g"+c.path, "http://h"+c.u, "http://p/x", 1, false)
		}
	}
	must(t, "*/x", "http://h/x", "http://p/", true) // a host, and no word
	must(t, "*/x", "http://h/y", "http://p/", false)
	must(t, "*/x", "http://h:81/x", "http://p/", false)
	must(t, "*/", "https://h/x", "http://p/", true)
	must(t, "*/", "http://h/x", "https://p/", false)
	must(t, "*.h/x/", "http://a.h/x/y", "http://p/", true)
	must(t, "*.h/x/", "http://a.h/y", "http://p/", false)
}

// TestPathOfOthers: of a scheme that is not Special a path may have no parts at all.
func TestPathOfOthers(t *testing.T) {
	must(t, "a://h", "a://h", "http://p/", true)
	must(t, "a://h/", "a://h", "http://p/", true)
	must(t, "a://h/x", "a://h", "http://p/", false)
	must(t, "a://h//", "a://h", "http://p/", false)
	must(t, "a://h//", "a://h/", "http://p/", false)
	must(t, "a://h//", "a://h//", "http://p/", true)
	must(t, "a://h/x/", "a://h/x/y", "http://p/", true)
	must(t, "a://h/x%5Cy", "a://h/x\\y", "http://p/", true)
}

// TestRedirect: all but the path counts behind a redirect as ahead of it.
func TestRedirect(t *testing.T) {
	for _, hops := range []int{1, 2, 19, 20, 21, -1, math.MaxInt, math.MinInt} {
		mustBehind(t, "https://h:444/x", "https://h:444/y/z", "http://p/", hops, true)
		mustBehind(t, "https://h:444/x/", "https://h:444/", "http://p/", hops, true)
		mustBehind(t, "https://h:444/x", "https://h:445/x", "http://p/", hops, false)
		mustBehind(t, "https://h:444/x", "http://h:444/x", "http://p/", hops, false)
		mustBehind(t, "https://h:444/x", "https://g:444/x", "http://p/", hops, false)
		mustBehind(t, "*", "https://g:444/x", "http://p/", hops, true)
		mustBehind(t, "'self'", "https://p/x", "http://p/", hops, true)
		mustBehind(t, "'none'", "https://p/x", "http://p/", hops, false)
		mustBehind(t, "https:", "https://p/x", "http://p/", hops, true)
		mustBehind(t, "h:/x", "http://h/x", "http://p/", hops, false)
		mustBehind(t, "/x", "http://h/x", "http://p/", hops, false)
	}
}
