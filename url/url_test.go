package url_test

import (
	"math/rand"
	"reflect"
	"regexp"
	"slices"
	"strconv"
	"strings"
	"testing"

	"ostiary/api"
	"ostiary/host"
	"ostiary/url"
)

func parsed(t *testing.T, s string) api.URL {
	t.Helper()
	u, why := url.Parse(s)
	if why != api.OK {
		t.Fatalf("Parse(%q): %v", s, why)
	}
	return u
}

// same: whether two addresses are one; nil and empty lists are.
func same(a, b api.URL) bool {
	ok := slices.Equal(a.Path, b.Path)
	a.Path, b.Path = nil, nil
	return ok && reflect.DeepEqual(a, b)
}

func wantURL(t *testing.T, s string, want api.URL) {
	t.Helper()
	if u, why := url.Parse(s); why != api.OK || !same(u, want) {
		t.Errorf("Parse(%q): %+v, %v, not %+v", s, u, why, want)
	}
}

func wantText(t *testing.T, s, want string) {
	t.Helper()
	if u, why := url.Parse(s); why != api.OK || url.Text(u) != want {
		t.Errorf("Parse(%q): %q, %v, not %q", s, url.Text(u), why, want)
	}
}

func wantNone(t *testing.T, s string, want api.Errno) {
	t.Helper()
	if u, why := url.Parse(s); why != want || !reflect.DeepEqual(u, api.URL{}) {
		t.Errorf("Parse(%.60q): %+v, %v, not %v", s, u, why, want)
	}
}

func wantJoin(t *testing.T, s, base, want string) {
	t.Helper()
	if u, why := url.Join(s, parsed(t, base)); why != api.OK || url.Text(u) != want {
		t.Errorf("Join(%q, %q): %q, %v, not %q", s, base, url.Text(u), why, want)
	}
}

func wantNoJoin(t *testing.T, s, base string, want api.Errno) {
	t.Helper()
	if u, why := url.Join(s, parsed(t, base)); why != want || !reflect.DeepEqual(u, api.URL{}) {
		t.Errorf("Join(%.60q, %q): %+v, %v, not %v", s, base, u, why, want)
	}
}

// oneByte: a text of just that byte (string(rune(c)) would be two bytes above 127).
func oneByte(c int) string { return string([]byte{byte(c)}) }

// escaped: a byte as `%` and two digits, if it is below 32, above 126 or one of more.
func escaped(c int, more string) string {
	if c >= 32 && c <= 126 && !strings.Contains(more, oneByte(c)) {
		return oneByte(c)
	}
	const digits = "0123456789ABCDEF"
	return "%" + string(digits[c>>4]) + string(digits[c&15])
}

// The chapter's sets, written out once more: what they have beside Control.
const (
	ofFragment     = " \"<>`"
	ofQuery        = " \"#<>"
	ofSpecialQuery = " \"#<>'"
	ofPath         = " \"#<>?^`{}"
	ofUserinfo     = " \"#<>?^`{}/:;=@[\\]|"
)

// someText: made of what the calls look for, with any byte between at times.
func someText(r *rand.Rand, most int) string {
	often := []string{
		"http:", "HTTP://", "https:", "ws://", "a:", "a:/", "A://", "//", "/", "/", "\\", "?", "#", "@", ":", ":", ".", "..", "/..", "/./", "%2e", "%2E", ".%2e",
		"h", "h", "EX.com", "[", "]", "[::1]", "[1:2", "80", ":443", ":21", ":0", ":65535", ":65536", ":x", "u:p@", " ", "\t", "\n", "'", "\"", "{", "`", "é", "x", "xn--a", "0x7f.1", "%41", "%", "+", "-", "1",
	}
	var b strings.Builder
	for range r.Intn(most + 1) {
		if r.Intn(12) == 0 {
			b.WriteByte(byte(r.Intn(256)))
		} else {
			b.WriteString(often[r.Intn(len(often))])
		}
	}
	return b.String()
}

// P3.1

func TestSpecialAndOwn(t *testing.T) {
	for s, want := range map[string]int{"http": 80, "https": 443, "ws": 80, "wss": 443, "ftp": 21} {
		if !url.Special(s) || url.Own(s) != want {
			t.Errorf("%q: %v, %d", s, url.Special(s), url.Own(s))
		}
	}
	for _, s := range []string{"", "HTTP", "Http", "http:", "file", "data", "blob", "about", "httpss", "htt", "w", "ftps", " http", "http\x00", "a"} {
		if url.Special(s) || url.Own(s) != -1 {
			t.Errorf("%q: %v, %d", s, url.Special(s), url.Own(s))
		}
	}
}

func TestParseRunsAndExamples(t *testing.T) {
	wantText(t, "HTTP://u:p@EX.com:80/a/../b c?q'#f", "http://u:p@ex.com/b%20c?q%27#f")
	wantText(t, "https:ex.com", "https://ex.com/")
	wantText(t, "data:a b?c", "data:a b?c")
	wantNone(t, "/a", api.ErrBase)
	wantNone(t, "http://h:99999", api.ErrPort)
	wantNone(t, "http://", api.ErrHost)
	wantText(t, "http://@h", "http://h/")
	wantURL(t, "a:", api.URL{Scheme: "a", Port: -1, Opaque: true, Path: []string{""}})
	wantURL(t, "https://h:80", api.URL{Scheme: "https", Host: "h", HasHost: true, Port: 80, Path: []string{""}})
}

func TestParseFields(t *testing.T) {
	wantURL(t, "HTTP://U:P@EX.com:81/A/b?Q#F", api.URL{Scheme: "http", User: "U", Pass: "P", Host: "ex.com", HasHost: true, Port: 81, Path: []string{"A", "b"}, Query: "Q", HasQuery: true, Fragment: "F", HasFragment: true})
	wantURL(t, "http://h:80", api.URL{Scheme: "http", Host: "h", HasHost: true, Port: -1, Path: []string{""}})
	wantURL(t, "http://h?#", api.URL{Scheme: "http", Host: "h", HasHost: true, Port: -1, Path: []string{""}, HasQuery: true, HasFragment: true})
	wantURL(t, "a://h", api.URL{Scheme: "a", Host: "h", HasHost: true, Port: -1})
	wantURL(t, "a://h?q", api.URL{Scheme: "a", Host: "h", HasHost: true, Port: -1, Query: "q", HasQuery: true})
	wantURL(t, "a://", api.URL{Scheme: "a", HasHost: true, Port: -1})
	wantURL(t, "a://h/", api.URL{Scheme: "a", Host: "h", HasHost: true, Port: -1, Path: []string{""}})
	wantURL(t, "a:/", api.URL{Scheme: "a", Port: -1, Path: []string{""}})
	wantURL(t, "a:/x/y?q#f", api.URL{Scheme: "a", Port: -1, Path: []string{"x", "y"}, Query: "q", HasQuery: true, Fragment: "f", HasFragment: true})
	wantURL(t, "a:x/y?q#f", api.URL{Scheme: "a", Port: -1, Opaque: true, Path: []string{"x/y"}, Query: "q", HasQuery: true, Fragment: "f", HasFragment: true})
	wantURL(t, "a:?", api.URL{Scheme: "a", Port: -1, Opaque: true, Path: []string{""}, HasQuery: true})
	wantURL(t, "a:#", api.URL{Scheme: "a", Port: -1, Opaque: true, Path: []string{""}, HasFragment: true})
}

func TestParseLength(t *testing.T) {
	long := strings.Repeat("x", api.MaxText-2)
	wantURL(t, "a:"+long, api.URL{Scheme: "a", Port: -1, Opaque: true, Path: []string{long}})
	wantNone(t, "a:x"+long, api.ErrLong)
	wantNone(t, "xxx"+long, api.ErrLong) // ahead of ErrBase
	wantNone(t, "http://h:x/"+long, api.ErrLong)
	wantNone(t, strings.Repeat(" ", api.MaxText)+"a:", api.ErrLong) // what is left out counts
	wantNone(t, "a:"+strings.Repeat("\n", api.MaxText), api.ErrLong)
	wantText(t, strings.Repeat(" ", api.MaxText-2)+"a:", "a:")
}

func TestParseLeavesOut(t *testing.T) {
	for c := range 256 {
		b := oneByte(c)
		// At the ends: bytes of 32 and below.
		ends, want := "a:x"+b, "a:x"+escaped(c, "")
		switch {
		case c <= 32:
			want = "a:x"
		case b == "#", b == "?":
			want = "a:x" + b
		}
		wantText(t, ends, want)
		if c <= 32 {
			wantText(t, b+b+"a:x", "a:x")
			wantText(t, b+"a:x"+b+b, "a:x")
		} else if !regexp.MustCompile(`^[A-Za-z]$`).MatchString(b) {
			wantNone(t, b+"a:x", api.ErrBase)
		}
		// Within: 9, 10, 13 alone.
		want = "a:x" + escaped(c, "") + "y"
		switch {
		case c == 9 || c == 10 || c == 13:
			want = "a:xy"
		case b == "#", b == "?":
			want = "a:x" + b + "y"
		}
		wantText(t, "a:x"+b+"y", want)
	}
	wantText(t, "h\tt\nt\rp\t:\n/\r/\th\n:\r8\t1\n/.\r./%\t2\ne/?\tq\n#\rf", "http://h:81/?q#f")
	wantText(t, " \t a:x y \r\n", "a:x y")
	wantText(t, "a: ", "a:")
	wantText(t, "a: #", "a: #")
	wantNone(t, "", api.ErrBase)
	wantNone(t, " \t\n", api.ErrBase)
}

func TestParseFragment(t *testing.T) {
	for _, base := range []string{"http://h/", "a:x", "a:/x", "a://h"} {
		for c := range 256 {
			if c == 9 || c == 10 || c == 13 {
				continue
			}
			wantText(t, base+"#a"+oneByte(c)+"b", base+"#a"+escaped(c, ofFragment)+"b")
		}
		wantText(t, base+"#", base+"#")
		wantText(t, base+"##", base+"##")
		wantText(t, base+"#a?b#c/../d", base+"#a?b#c/../d")
	}
	wantText(t, "http://u#@h/", "http://u/#@h/")
}

func TestParseScheme(t *testing.T) {
	for c := range 256 {
		b := oneByte(c)
		first := regexp.MustCompile(`^[A-Za-z]$`).MatchString(b)
		later := regexp.MustCompile(`^[A-Za-z0-9+.-]$`).MatchString(b)
		switch {
		case first:
			wantText(t, b+":x", strings.ToLower(b)+":x")
		case b != ":" && c > 32:
			wantNone(t, b+":x", api.ErrBase)
		}
		switch {
		case later:
			wantText(t, "Z"+b+":x", "z"+strings.ToLower(b)+":x")
			wantText(t, "Z"+b+"z:x", "z"+strings.ToLower(b)+"z:x")
		case b == ":":
			wantText(t, "Z::x", "z::x")
		case c == 9 || c == 10 || c == 13:
			wantText(t, "Z"+b+"z:x", "zz:x")
		default:
			wantNone(t, "Z"+b+":x", api.ErrBase)
			wantNone(t, "Z"+b+"z:x", api.ErrBase)
		}
	}
	for _, s := range []string{":", "::", ":a", "/a:b", "?a:b", "#a:b", "a", "a/b:c", "a?b:c", "a#b:c", "1:", "+a:", "-a:", ".a:", "http", "http//h/", "//h/", "\\\\h", "a b:c", " :x"} {
		wantNone(t, s, api.ErrBase)
	}
}

func TestParseSlashes(t *testing.T) {
	for s, want := range map[string]string{
		"http:h":            "http://h/",
		"http:/h":           "http://h/",
		"http://h":          "http://h/",
		"http://///h":       "http://h/",
		"http:\\h":          "http://h/",
		"http:\\/\\/h":      "http://h/",
		"http:h\\a\\..\\b":  "http://h/b",
		"http://u\\p@h":     "http://u/p@h",
		"http://h/a\\?\\b":  "http://h/a/?\\b",
		"http://h?a\\?\\b":  "http://h/?a\\?\\b",
		"http://h/#\\":      "http://h/#\\",
		"ftp:\\\\h\\a":      "ftp://h/a",
		"wss:////h//a//":    "wss://h//a//",
		"a:\\\\h":           "a:\\\\h",
		"a:/\\h":            "a:/\\h",
		"a:/b\\..\\c":       "a:/b\\..\\c",
		"a://h/b\\c?\\":     "a://h/b\\c?\\",
		"a:///h":            "a:///h",
		"a:////h":           "a:////h",
		"a:x//y":            "a:x//y",
		"a:x\\..\\y":        "a:x\\..\\y",
		"blob:https://a/1":  "blob:https://a/1",
		"data:,a/../b":      "data:,a/../b",
		"about:blank":       "about:blank",
		"javascript:a?b//c": "javascript:a?b//c",
		"file:///a":         "file:///a",
	} {
		wantText(t, s, want)
	}
	wantNone(t, "a://h\\b", api.ErrHost)
	for _, s := range []string{"http:", "http:/", "http:\\", "http:?h", "http:#h", "http:///?h", "https://", "ws:\\\\\\", "ftp:////"} {
		wantNone(t, s, api.ErrHost)
	}
}

func TestParseOpaque(t *testing.T) {
	for c := range 256 {
		b := oneByte(c)
		if c == 9 || c == 10 || c == 13 || b == "#" || b == "?" {
			continue
		}
		wantURL(t, "a:x"+b+"y", api.URL{Scheme: "a", Port: -1, Opaque: true, Path: []string{"x" + escaped(c, "") + "y"}})
		if b != "/" {
			wantURL(t, "a:"+b+"y", api.URL{Scheme: "a", Port: -1, Opaque: true, Path: []string{escaped(c, "") + "y"}})
		}
	}
	wantURL(t, "a:.", api.URL{Scheme: "a", Port: -1, Opaque: true, Path: []string{"."}})
	wantURL(t, "a:x/../y/.", api.URL{Scheme: "a", Port: -1, Opaque: true, Path: []string{"x/../y/."}})
	wantURL(t, "a:u@h:99999", api.URL{Scheme: "a", Port: -1, Opaque: true, Path: []string{"u@h:99999"}})
}

// P3.2

func TestUserinfo(t *testing.T) {
	for _, scheme := range []string{"http", "a"} {
		for c := range 256 {
			b := oneByte(c)
			if c == 9 || c == 10 || c == 13 || strings.Contains("/?#", b) || b == "\\" && scheme == "http" {
				continue
			}
			form := escaped(c, ofUserinfo)
			if b != ":" {
				wantText(t, scheme+"://x"+b+"y@h/", scheme+"://x"+form+"y@h/")
			}
			wantText(t, scheme+"://u:x"+b+"y@h/", scheme+"://u:x"+form+"y@h/")
		}
		for s, want := range map[string]string{
			"@h/":             "h/",
			":@h/":            "h/",
			"u@h/":            "u@h/",
			"u:@h/":           "u@h/",
			":p@h/":           ":p@h/",
			"::@h/":           ":%3A@h/",
			"u:p:q@h/":        "u:p%3Aq@h/",
			"a@b@c/":          "a%40b@c/",
			"a:b@c:d@h:5/":    "a:b%40c%3Ad@h:5/",
			"@@h/":            "%40@h/",
			"u:80@h/":         "u:80@h/",
			"[::1]@h/":        "%5B:%3A1%5D@h/",
			"u%40:%3a@h/":     "u%40:%3a@h/",
			"h/@x/u:p@y":      "h/@x/u:p@y",
			"u@[::1]:81/":     "u@[::1]:81/",
			"u:p@1.2.3.4:81/": "u:p@1.2.3.4:81/",
		} {
			wantText(t, scheme+"://"+s, scheme+"://"+want)
		}
	}
	wantURL(t, "a://u:p@h", api.URL{Scheme: "a", User: "u", Pass: "p", Host: "h", HasHost: true, Port: -1})
	wantURL(t, "a://:p@h", api.URL{Scheme: "a", Pass: "p", Host: "h", HasHost: true, Port: -1})
}

func TestAuthorityEnds(t *testing.T) {
	wantURL(t, "a://h?u@g/x", api.URL{Scheme: "a", Host: "h", HasHost: true, Port: -1, Query: "u@g/x", HasQuery: true})
	wantURL(t, "a://h/?u@g", api.URL{Scheme: "a", Host: "h", HasHost: true, Port: -1, Path: []string{""}, Query: "u@g", HasQuery: true})
	wantURL(t, "a://h/u@g:x", api.URL{Scheme: "a", Host: "h", HasHost: true, Port: -1, Path: []string{"u@g:x"}})
	wantURL(t, "http://h:81?u@g/x", api.URL{Scheme: "http", Host: "h", HasHost: true, Port: 81, Path: []string{""}, Query: "u@g/x", HasQuery: true})
	wantURL(t, "a:/u@g:x", api.URL{Scheme: "a", Port: -1, Path: []string{"u@g:x"}})
}

func TestPorts(t *testing.T) {
	own := map[string]int{"http": 80, "https": 443, "ws": 80, "wss": 443, "ftp": 21, "a": -1}
	for scheme, mine := range own {
		for _, n := range []int{0, 1, 20, 21, 22, 79, 80, 81, 443, 444, 8080, 65534, 65535} {
			want := n
			if n == mine {
				want = -1
			}
			for _, digits := range []string{strconv.Itoa(n), "0" + strconv.Itoa(n), strings.Repeat("0", 50) + strconv.Itoa(n)} {
				if u := parsed(t, scheme+"://h:"+digits+"/"); u.Port != want || u.Host != "h" {
					t.Errorf("%s, port %s: %+v", scheme, digits, u)
				}
			}
		}
		if u := parsed(t, scheme+"://h:"); u.Port != -1 || u.Host != "h" {
			t.Errorf("%s, no port: %+v", scheme, u)
		}
		for _, s := range []string{"65536", "65537", "99999", "131152", "4294967376", "18446744073709551696", "9223372036854775807", "99999999999999999999999", "x", "8x", "x8", " 80", "8 0", "+80", "-1", "-", "0x50", "8.0", "%38", "é", "[", "]"} {
			wantNone(t, scheme+"://h:"+s+"/", api.ErrPort)
			wantNone(t, scheme+"://h:"+s, api.ErrPort)
			wantNone(t, scheme+"://u:p@[::1]:"+s+"?", api.ErrPort)
		}
	}
	for c := range 256 {
		b := oneByte(c)
		if c == 9 || c == 10 || c == 13 || strings.Contains("/?#@:\\", b) || c >= '0' && c <= '9' {
			continue
		}
		wantNone(t, "http://h:1"+b+"2/", api.ErrPort)
	}
}

func TestPortAndBrackets(t *testing.T) {
	for s, want := range map[string]string{
		"a://[::1]":                "a://[::1]",
		"a://[::1]:":               "a://[::1]",
		"a://[::1]:81":             "a://[::1]:81",
		"a://[1:2:3:4::]:0/x":      "a://[1:2:3:4::]:0/x",
		"http://[::1]:80":          "http://[::1]/",
		"http://u@[::1.2.3.4]:81/": "http://u@[::102:304]:81/",
	} {
		wantText(t, s, want)
	}
	for s, want := range map[string]api.Errno{
		"a://[::1":       api.ErrHost,
		"a://[::x":       api.ErrHost,
		"a://[":          api.ErrHost,
		"a://[:":         api.ErrHost,
		"a://[]":         api.ErrHost,
		"a://[]:x":       api.ErrPort,
		"a://[::1]x:80":  api.ErrHost,
		"a://[::1]x:x":   api.ErrPort,
		"a://[::1]:80:":  api.ErrHost,
		"a://[::1]:[:x":  api.ErrPort,
		"a://[::1]:[:8":  api.ErrPort,
		"a://]:x":        api.ErrPort,
		"a://]:8":        api.ErrHost,
		"a://x[:y]":      api.ErrHost,
		"a://x[:y]:z":    api.ErrPort,
		"a://[a]:[b]:8":  api.ErrHost,
		"a://[a]:[b]":    api.ErrPort,
		"http://a:b:80":  api.ErrHost,
		"http://a:80:":   api.ErrHost,
		"http://a:80:x":  api.ErrPort,
		"a://a::":        api.ErrHost,
		"a://a::8":       api.ErrHost,
		"http://[::1":    api.ErrHost,
		"http://[::1]]":  api.ErrHost,
		"http://[:81]:x": api.ErrPort,
	} {
		wantNone(t, s, want)
	}
}

func TestHosts(t *testing.T) {
	for s, want := range map[string]string{
		"http://EX%41mple.COM":  "http://example.com/",
		"http://0x7f.1":         "http://127.0.0.1/",
		"http://1.2.3.4.":       "http://1.2.3.4/",
		"http://h.":             "http://h./",
		"a://EX%41mple":         "a://EX%41mple",
		"a://0x7f.1":            "a://0x7f.1",
		"a://é\x01x":            "a://%C3%A9%01x",
		"a://xn--a":             "a://xn--a",
		"a://[0:0:0:0:0:0:0:A]": "a://[::a]",
	} {
		wantText(t, s, want)
	}
	for _, s := range []string{"http://a b/", "http://a%20b/", "http://xn--a/", "http://a.xn--b/", "http://1.2.3.4.5/", "http://09/", "http://é/", "http://a%/", "http://a<b/", "a://a b/", "a://a<b/", "a://a|b", "a://a^b", "a://[1]", "http://%2f/", "http://%3a80/", "https://a..1"} {
		wantNone(t, s, api.ErrHost)
	}
}

func TestEmptyHosts(t *testing.T) {
	for s, want := range map[string]string{"a://": "a://", "a:///": "a:///", "a:///x": "a:///x", "a://?q": "a://?q", "a://#f": "a://#f", "a://:": "a://", "a://:/x": "a:///x", "a://@": "a://", "a://:@": "a://", "a://:@:/x": "a:///x"} {
		wantText(t, s, want)
		if u := parsed(t, s); !u.HasHost || u.Host != "" || u.Port != -1 {
			t.Errorf("%q: %+v", s, u)
		}
	}
	for _, s := range []string{"a://u@", "a://u@/", "a://:p@", "a://u:p@?", "a://:80", "a://:0/", "a://@:1", "a://u@:", "a://%@", "a://:00080", "http://u@/", "http://:80", "http://:81", "http://:", "http://@", "http://u:p@:8/x"} {
		wantNone(t, s, api.ErrHost)
	}
}

func TestPortAheadOfHost(t *testing.T) {
	for _, s := range []string{"http://:x", "a://:x", "http://a b:x/", "http://xn--a:65536", "a://u@:x", "http://u:p@:99999/", "http://[x]:x", "a://a^b:-"} {
		wantNone(t, s, api.ErrPort)
	}
}

// P3.3

func TestPaths(t *testing.T) {
	for _, start := range []string{"http://h", "a://h", "a:", "a://"} {
		for s, want := range map[string]string{
			"/":             "/",
			"/x":            "/x",
			"/x/":           "/x/",
			"/x/y":          "/x/y",
			"/.":            "/",
			"/./":           "/",
			"/..":           "/",
			"/../":          "/",
			"/../..":        "/",
			"/./..":         "/",
			"/x/.":          "/x/",
			"/x/./":         "/x/",
			"/x/..":         "/",
			"/x/../":        "/",
			"/x/../..":      "/",
			"/x/../../y":    "/y",
			"/x/y/..":       "/x/",
			"/x/y/../z":     "/x/z",
			"/x/y/../../z":  "/z",
			"/x/./y/./z":    "/x/y/z",
			"/x//..":        "/x/",
			"/x//../y":      "/x/y",
			"/x//y/../../z": "/x/z",
			"/x//../../z":   "/z",
			"/...":          "/...",
			"/.../..":       "/",
			"/.x":           "/.x",
			"/..x":          "/..x",
			"/x.":           "/x.",
			"/x..":          "/x..",
			"/%2e":          "/",
			"/%2E":          "/",
			"/x/%2e%2e":     "/",
			"/x/%2E%2e/y":   "/y",
			"/x/.%2e":       "/",
			"/x/.%2E/y":     "/y",
			"/x/%2e.":       "/",
			"/x/%2E./y":     "/y",
			"/x/%2e/y":      "/x/y",
			"/x/%2e":        "/x/",
			"/%2e%2e%2e":    "/%2e%2e%2e",
			"/%2e..":        "/%2e..",
			"/%2ex":         "/%2ex",
			"/%252e":        "/%252e",
			"/%2":           "/%2",
			"/%2f..":        "/%2f..",
			"/x%2f../y":     "/x%2f../y",
			"/. ./y":        "/.%20./y",
			"/x;y=1,2":      "/x;y=1,2",
			"/x:y@z":        "/x:y@z",
			"/x?":           "/x?",
			"/x??":          "/x??",
			"/x?y/../z":     "/x?y/../z",
			"/x/..?y":       "/?y",
			"/x/.?":         "/x/?",
			"/x/?/":         "/x/?/",
			"/é":            "/%C3%A9",
			"/\xff":         "/%FF",
			"/x/../y/../..": "/",
		} {
			wantText(t, start+s, start+want)
		}
	}
	for s, want := range map[string][]string{
		"http://h": {""}, "http://h?": {""}, "http://h#": {""}, "http://h/": {""}, "http://h//": {"", ""}, "http://h///": {"", "", ""}, "http://h//x": {"", "x"}, "http://h/.//x": {"", "x"}, "http://h/..//x": {"", "x"},
		"a://h": nil, "a://h?": nil, "a://h#": nil, "a://h/": {""}, "a://h//": {"", ""}, "a://": nil, "a:///": {""}, "a://///": {"", "", ""},
		"a:/": {""}, "a:/.//": {"", ""}, "a:/..//x": {"", "x"}, "a:/x/..//y": {"", "y"}, "a:/x//../": {"x", ""}, "a:/x//": {"x", "", ""},
	} {
		if u := parsed(t, s); !slices.Equal(u.Path, want) || u.Opaque {
			t.Errorf("%q: %q, not %q", s, u.Path, want)
		}
	}
}

func TestPathBytes(t *testing.T) {
	for _, start := range []string{"http://h/", "a://h/", "a:/"} {
		for c := range 256 {
			b := oneByte(c)
			if c == 9 || c == 10 || c == 13 || strings.Contains("/?#", b) || b == "\\" && start == "http://h/" {
				continue
			}
			wantText(t, start+"x"+b+"y", start+"x"+escaped(c, ofPath)+"y")
			wantText(t, start+b+"/y", start+strings.TrimPrefix(escaped(c, ofPath)+"/", "./")+"y")
		}
	}
}

func TestQueries(t *testing.T) {
	for start, set := range map[string]string{"http://h/": ofSpecialQuery, "wss://h/": ofSpecialQuery, "a://h": ofQuery, "a:/": ofQuery, "a:x": ofQuery, "data:": ofQuery} {
		for c := range 256 {
			b := oneByte(c)
			if c == 9 || c == 10 || c == 13 || b == "#" {
				continue
			}
			wantText(t, start+"?x"+b+"y", start+"?x"+escaped(c, set)+"y")
		}
		for _, s := range []string{"", "?", "??", "?a?b", "?/../", "?a=b&c", "?%zz%", "?:@"} {
			wantText(t, start+s, start+s)
			if u := parsed(t, start+s); u.HasQuery != (s != "") || u.Query != strings.TrimPrefix(s, "?") {
				t.Errorf("%q: %+v", start+s, u)
			}
		}
		if u := parsed(t, start+"#?q"); u.HasQuery || u.Query != "" || u.Fragment != "?q" {
			t.Errorf("%q: %+v", start+"#?q", u)
		}
	}
}

// P3.4

func TestJoinRunsAndExamples(t *testing.T) {
	const base = "http://h/a/b/c"
	wantJoin(t, "../x", base, "http://h/a/x")
	wantJoin(t, "//g", base, "http://g/")
	wantJoin(t, "?q", base, "http://h/a/b/c?q")
	wantJoin(t, "", base, "http://h/a/b/c")
	wantJoin(t, "#f", "a:b", "a:b#f")
	wantJoin(t, "#f", "a:b c?d#e", "a:b c?d#f")
}

func TestJoinOfASchemeIsParse(t *testing.T) {
	bases := []string{"http://u:p@h:81/a/b?q#f", "https://h/", "a://h/b", "a:/b", "a:b", "ftp://h"}
	for _, base := range bases {
		for _, s := range []string{"b:x", "b:/x", "b://h:81/x/../y?q#f", "b:", "a:x", "a:/x", "a://g", "A:", "a:?q", "a:#f", "ws:x", "ws:/x", "ws://x", "WSS:\\x", "http://g", "HTTP:\\\\g", "http:/\\g", "http:\\/g", "https://g/x", "https:////g", "ftp://u@g:22", "http:///g?q", "blob:http://h/x", "ws:", "http://", "b://h:x", "b://u@", "ftp://a b/"} {
			want, whyWant := url.Parse(s)
			u, why := url.Join(s, parsed(t, base))
			if why != whyWant || !reflect.DeepEqual(u, want) {
				t.Errorf("Join(%q, %q): %+v, %v, not %+v, %v", s, base, u, why, want, whyWant)
			}
		}
	}
	wantJoin(t, "https:x", "http://h/a", "https://x/")
	wantJoin(t, "https:/x", "http://h/a", "https://x/")
	wantJoin(t, "http:x", "a:b", "http://x/")
	wantJoin(t, "http:x", "a://h/b", "http://x/")
}

func TestJoinOfItsSpecialScheme(t *testing.T) {
	for _, scheme := range []string{"http", "https", "ws", "wss", "ftp"} {
		base := scheme + "://u:p@h:81/a/b?q#f"
		for s, want := range map[string]string{
			"":            "/a/b?q",
			"x":           "/a/x",
			"/x":          "/x",
			"\\x":         "/x",
			"/x/\\y":      "/x//y",
			"?r":          "/a/b?r",
			"#g":          "/a/b?q#g",
			"?r#g":        "/a/b?r#g",
			"..":          "/",
			"../x":        "/x",
			"x/y":         "/a/x/y",
			"/":           "/",
			"\\":          "/",
			":x":          "/a/:x",
			"?//g":        "/a/b?//g",
			"#//g":        "/a/b?q#//g",
			"/#/g":        "/#/g",
			scheme + ":x": "/a/" + scheme + ":x",
		} {
			wantJoin(t, scheme+":"+s, base, scheme+"://u:p@h:81"+want)
			wantJoin(t, strings.ToUpper(scheme)+":"+s, base, scheme+"://u:p@h:81"+want)
		}
		for _, s := range []string{"//g", "\\\\g", "/\\g", "\\/g", "///g", "//\\g"} {
			wantJoin(t, scheme+":"+s, base, scheme+"://g/")
			wantJoin(t, s, base, scheme+"://g/")
		}
		wantNoJoin(t, scheme+"://", base, api.ErrHost)
	}
}

func TestJoinRelative(t *testing.T) {
	for _, c := range [][3]string{
		{"", "http://u:p@h:81/a/b?q#f", "http://u:p@h:81/a/b?q"},
		{"#", "http://u:p@h:81/a/b?q#f", "http://u:p@h:81/a/b?q#"},
		{"#g h", "http://u:p@h:81/a/b?q#f", "http://u:p@h:81/a/b?q#g%20h"},
		{"?", "http://u:p@h:81/a/b?q#f", "http://u:p@h:81/a/b?"},
		{"?r'#g", "http://u:p@h:81/a/b?q#f", "http://u:p@h:81/a/b?r%27#g"},
		{"?r'", "a://h/b", "a://h/b?r'"},
		{"/", "http://u:p@h:81/a/b?q#f", "http://u:p@h:81/"},
		{"/x?r", "http://u:p@h:81/a/b?q#f", "http://u:p@h:81/x?r"},
		{"/x/../y", "http://h/a/b", "http://h/y"},
		{"/..", "http://h/a/b", "http://h/"},
		{"x", "http://u:p@h:81/a/b?q#f", "http://u:p@h:81/a/x"},
		{"x?r#g", "http://h/a/b?q#f", "http://h/a/x?r#g"},
		{"x/y/", "http://h/a/b", "http://h/a/x/y/"},
		{"x", "http://h", "http://h/x"},
		{"x", "http://h/a/", "http://h/a/x"},
		{"x", "http://h//", "http://h//x"},
		{".", "http://h/a/b", "http://h/a/"},
		{"./", "http://h/a/b", "http://h/a/"},
		{"./x", "http://h/a/b", "http://h/a/x"},
		{"..", "http://h/a/b/c", "http://h/a/"},
		{"../", "http://h/a/b/c", "http://h/a/"},
		{"../..", "http://h/a/b/c", "http://h/"},
		{"../../../x", "http://h/a/b/c", "http://h/x"},
		{"%2E%2e/x", "http://h/a/b/c", "http://h/a/x"},
		{"x/..", "http://h/a/b", "http://h/a/"},
		{"x/../..", "http://h/a/b", "http://h/"},
		{"..", "http://h/", "http://h/"},
		{"x y{", "http://h/a", "http://h/x%20y%7B"},
		{" x\ty\n", "http://h/a", "http://h/xy"},
		{"./a:b", "http://h/", "http://h/a:b"},
		{"1:b", "http://h/", "http://h/1:b"},
		{"/a:b", "http://h/", "http://h/a:b"},
		{"?a:b", "http://h/", "http://h/?a:b"},
		{":80", "http://h/", "http://h/:80"},
		{"@g", "http://h/", "http://h/@g"},
		{"x", "a://h", "a://h/x"},
		{"..", "a://h", "a://h/"},
		{"?q", "a://h", "a://h?q"},
		{"", "a://h?q", "a://h?q"},
		{"#f", "a://h?q", "a://h?q#f"},
		{"/", "a://h", "a://h/"},
		{"x", "a://", "a:///x"},
		{"x", "a:/b/c?q", "a:/b/x"},
		{"/x", "a:/b/c?q", "a:/x"},
		{"?r", "a:/b/c?q", "a:/b/c?r"},
		{"", "a:/b/c?q", "a:/b/c?q"},
		{"..//x", "a:/b", "a:/.//x"},
		{"/.//x", "a:/b", "a:/.//x"},
		{".//x", "a:/b", "a:/.//x"},
		{"x", "a:/.//b", "a:/.//x"},
		{"", "a:b?c#d", "a:b?c"},
		{" \t", "a:b?c#d", "a:b?c"},
		{"#", "a:b", "a:b#"},
		{"#x?y/z", "data:,a", "data:,a#x?y/z"},
	} {
		wantJoin(t, c[0], c[1], c[2])
	}
}

func TestJoinAuthority(t *testing.T) {
	for _, c := range [][3]string{
		{"//g", "http://u:p@h:81/a/b?q#f", "http://g/"},
		{"//v:w@g:82/x/../y?r#g", "http://u:p@h:81/a/b?q#f", "http://v:w@g:82/y?r#g"},
		{"//g:443", "https://h/", "https://g/"},
		{"//g?r", "http://h/a", "http://g/?r"},
		{"////g", "http://h/a", "http://g/"},
		{"\\\\g\\x?\\", "http://h/a", "http://g/x?\\"},
		{"/\\g", "http://h/a", "http://g/"},
		{"\\/g", "http://h/a", "http://g/"},
		{"//g", "a://u@h:81/b?q#f", "a://g"},
		{"//g/", "a:/b", "a://g/"},
		{"//", "a://h/b", "a://"},
		{"///g", "a://h/b", "a:///g"},
		{"////g", "a://h/b", "a:////g"},
		{"//?q", "a:/b", "a://?q"},
		{"/\\g", "a://h/b", "a://h/\\g"},
		{"\\\\g", "a://h/b/c", "a://h/b/\\\\g"},
		{"\\..\\x", "a://h/b/c", "a://h/b/\\..\\x"},
		{"x\\..\\y", "http://h/b/c", "http://h/b/y"},
		{"x?\\y", "http://h/b/c", "http://h/b/x?\\y"},
		{"?\\y\\..", "http://h/b/c", "http://h/b/c?\\y\\.."},
		{"#\\y", "http://h/b/c", "http://h/b/c#\\y"},
	} {
		wantJoin(t, c[0], c[1], c[2])
	}
}

func TestJoinRefusals(t *testing.T) {
	for _, base := range []string{"a:b", "a:", "data:,x?q#f", "blob:http://h/x", "about:blank"} {
		for _, s := range []string{"x", "/", "/x", "//g", "?", "?q", "?q#f", ".", "..", "\\", ":", "x#f", "//h:x"} {
			wantNoJoin(t, s, base, api.ErrBase)
		}
		wantNoJoin(t, strings.Repeat("x", api.MaxText+1), base, api.ErrLong)
	}
	for s, want := range map[string]api.Errno{
		"//": api.ErrHost, "//u@": api.ErrHost, "//:80": api.ErrHost, "// /": api.ErrHost, "///": api.ErrHost, "//?q": api.ErrHost, "//#f": api.ErrHost, "//xn--a": api.ErrHost, "//[::1": api.ErrHost,
		"//g:x": api.ErrPort, "//:x": api.ErrPort, "//g:65536": api.ErrPort, "http://g:x": api.ErrPort, "https:": api.ErrHost, "b://u@": api.ErrHost,
		strings.Repeat("x", api.MaxText+1): api.ErrLong, "#" + strings.Repeat(" ", api.MaxText): api.ErrLong, "b:" + strings.Repeat("x", api.MaxText-1): api.ErrLong,
	} {
		wantNoJoin(t, s, "http://h/", want)
	}
	for s, want := range map[string]api.Errno{"//u@": api.ErrHost, "//:80": api.ErrHost, "//g:x": api.ErrPort, "//a b": api.ErrHost, "//g\\x": api.ErrHost} {
		wantNoJoin(t, s, "a://h/b", want)
		wantNoJoin(t, s, "a:/b", want)
	}
	long := strings.Repeat("x", api.MaxText)
	wantJoin(t, long, "http://h/a", "http://h/"+long) // the limit is that of s, not of the answer
}

// P3.5

func TestTextAndBare(t *testing.T) {
	for _, c := range []struct {
		u    api.URL
		want string
	}{
		{api.URL{Scheme: "a", Port: -1, Opaque: true, Path: []string{""}}, "a:"},
		{api.URL{Scheme: "a", Port: -1, Opaque: true, Path: []string{"x/y"}}, "a:x/y"},
		{api.URL{Scheme: "a", Port: -1, Opaque: true, Path: []string{"x"}, HasQuery: true}, "a:x?"},
		{api.URL{Scheme: "a", Port: -1, Opaque: true, Path: []string{"x"}, Query: "q", HasQuery: true}, "a:x?q"},
		{api.URL{Scheme: "a", Port: -1, Path: []string{""}}, "a:/"},
		{api.URL{Scheme: "a", Port: -1, Path: []string{"x"}}, "a:/x"},
		{api.URL{Scheme: "a", Port: -1, Path: []string{"", ""}}, "a:/.//"},
		{api.URL{Scheme: "a", Port: -1, Path: []string{"", "x"}}, "a:/.//x"},
		{api.URL{Scheme: "a", Port: -1, Path: []string{"", "", "x"}}, "a:/.///x"},
		{api.URL{Scheme: "a", Port: -1, Path: []string{"x", ""}}, "a:/x/"},
		{api.URL{Scheme: "a", Port: -1, HasHost: true}, "a://"},
		{api.URL{Scheme: "a", Port: -1, HasHost: true, Path: []string{"", "x"}}, "a:////x"},
		{api.URL{Scheme: "a", Port: -1, HasHost: true, Host: "h"}, "a://h"},
		{api.URL{Scheme: "a", Port: -1, HasHost: true, Host: "h", Path: []string{"", "x"}}, "a://h//x"},
		{api.URL{Scheme: "a", Port: 0, HasHost: true, Host: "h"}, "a://h:0"},
		{api.URL{Scheme: "a", Port: 65535, HasHost: true, Host: "h", Path: []string{""}}, "a://h:65535/"},
		{api.URL{Scheme: "http", Port: -1, User: "u", HasHost: true, Host: "h", Path: []string{""}}, "http://u@h/"},
		{api.URL{Scheme: "http", Port: -1, Pass: "p", HasHost: true, Host: "h", Path: []string{""}}, "http://:p@h/"},
		{api.URL{Scheme: "http", Port: 8, User: "u", Pass: "p", HasHost: true, Host: "[::1]", Path: []string{"x", "y"}, Query: "q", HasQuery: true}, "http://u:p@[::1]:8/x/y?q"},
		{api.URL{Scheme: "https", Port: -1, HasHost: true, Host: "h", Path: []string{"a", "", "b"}, HasQuery: true}, "https://h/a//b?"},
	} {
		for _, more := range []struct {
			fragment string
			has      bool
			want     string
		}{{"", false, ""}, {"", true, "#"}, {"f#?/", true, "#f#?/"}} {
			u := c.u
			u.Fragment, u.HasFragment = more.fragment, more.has
			if got := url.Text(u); got != c.want+more.want {
				t.Errorf("Text(%+v): %q, not %q", u, got, c.want+more.want)
			}
			if got := url.Bare(u); got != c.want {
				t.Errorf("Bare(%+v): %q, not %q", u, got, c.want)
			}
		}
	}
}

// P3.6

// wantItself: what was parsed is written, and parsed again the same.
func wantItself(t *testing.T, s string) bool {
	t.Helper()
	u, why := url.Parse(s)
	text := url.Text(u)
	if why != api.OK || len(text) > api.MaxText {
		return false
	}
	if again, why := url.Parse(text); why != api.OK || !reflect.DeepEqual(again, u) {
		t.Fatalf("%q: %q: %+v, then %+v, %v", s, text, u, again, why)
	}
	u.Fragment, u.HasFragment = "", false
	if again, why := url.Parse(url.Bare(u)); !strings.HasSuffix(url.Bare(u), " ") && (why != api.OK || !reflect.DeepEqual(again, u)) {
		t.Fatalf("%q: Bare %q: %+v, then %+v, %v", s, url.Bare(u), u, again, why)
	}
	return true
}

func TestWrittenIsParsed(t *testing.T) {
	for _, s := range []string{
		"HTTP://u:p@EX.com:80/a/../b c?q'#f", "https:ex.com", "data:a b?c", "http://@h", "a:", "a: #", "a: ?", "a:b ?c d#e f", "a:/.//b", "a:/..//", "a://", "a:///", "a:////", "a://:", "a://h?", "a://h#", "a:?#", "http://h:00081", "http://[::1.2.3.4]:80", "http://0X7F.1", "a://é", "a://u:p:q@h", "a://%:%@%", "http://h/%2e%2", "a:%01\x01", "a:\\\\h", "a:/\\", "a::", "a:?:", "a:x:/y",
		"a:" + strings.Repeat("x", api.MaxText-2), "http://h/" + strings.Repeat("../x", 1000),
	} {
		if !wantItself(t, s) {
			t.Errorf("%.60q is no address", s)
		}
	}
	for c := range 256 {
		for d := range 256 {
			b := oneByte(c) + oneByte(d)
			for _, s := range []string{"http://h/" + b, "a:" + b, "a:/" + b + "/x", "a://" + b, "a://h" + b, "http://" + b + "h", "a:x" + b + "y"} {
				wantItself(t, s)
			}
		}
	}
}

// Against another reading

// sieved: each byte that the set has escaped.
func sieved(s, set string) string {
	var b strings.Builder
	for _, c := range []byte(s) {
		b.WriteString(escaped(int(c), set))
	}
	return b.String()
}

var (
	ends      = regexp.MustCompile(`^[\x00-\x20]*((?s:.*?))[\x00-\x20]*$`)
	whole     = regexp.MustCompile(`^(?s:(?:([A-Za-z][A-Za-z0-9+.-]*):)?([^?]*)(\?.*)?)$`)
	placed    = regexp.MustCompile(`^(?s:(?://([^/]*))?(.*))$`)
	oneDot    = regexp.MustCompile(`^(\.|%2[eE])$`)
	twoDots   = regexp.MustCompile(`^(\.|%2[eE]){2}$`)
	bracketed = regexp.MustCompile(`\[[^\]]*(\]|$)`)
	portForm  = regexp.MustCompile(`^0*([0-9]{0,5})$`)
)

// latin: each byte as the rune of its number, so that a pattern sees bytes; bytesOf: back.
func latin(s string) string {
	out := make([]rune, 0, len(s))
	for _, c := range []byte(s) {
		out = append(out, rune(c))
	}
	return string(out)
}

func bytesOf(s string) string {
	out := make([]byte, 0, len(s))
	for _, r := range s {
		out = append(out, byte(r))
	}
	return string(out)
}

// model reads s from base (or nil) by patterns, in other steps than the program: query and scheme at once, the port by blanking what is within brackets.
func model(s string, base *api.URL) (api.URL, api.Errno) {
	if len(s) > api.MaxText {
		return api.URL{}, api.ErrLong
	}
	text := ends.FindStringSubmatch(latin(s))[1]
	text = strings.NewReplacer("\t", "", "\n", "", "\r", "").Replace(text)
	u := api.URL{Port: -1}
	if i := strings.Index(text, "#"); i >= 0 {
		u.Fragment, u.HasFragment = sieved(bytesOf(text[i+1:]), ofFragment), true
		text = text[:i]
	}
	m := whole.FindStringSubmatch(text)
	u.Scheme = strings.ToLower(m[1])
	rest, query := bytesOf(m[2]), bytesOf(m[3])
	own, special := map[string]int{"http": 80, "https": 443, "ws": 80, "wss": 443, "ftp": 21}[u.Scheme]
	relative := u.Scheme == ""
	if base != nil && special && u.Scheme == base.Scheme && !regexp.MustCompile(`^[/\\]{2}`).MatchString(rest) {
		relative = true
	}
	if relative {
		if base == nil || base.Opaque && rest+query != "" {
			return api.URL{}, api.ErrBase
		}
		u.Scheme = base.Scheme
		own, special = map[string]int{"http": 80, "https": 443, "ws": 80, "wss": 443, "ftp": 21}[u.Scheme]
	}
	if !special {
		own = -1
	}
	if special {
		rest = strings.ReplaceAll(rest, `\`, "/")
		if !relative || strings.HasPrefix(rest, "//") {
			rest = "//" + strings.TrimLeft(rest, "/")
		}
	}
	if query != "" {
		u.HasQuery = true
		u.Query = sieved(query[1:], map[bool]string{true: ofSpecialQuery, false: ofQuery}[special])
	}
	if relative && !strings.HasPrefix(rest, "//") {
		u.User, u.Pass, u.Host, u.HasHost, u.Port = base.User, base.Pass, base.Host, base.HasHost, base.Port
		switch {
		case rest == "":
			u.Path, u.Opaque = slices.Clone(base.Path), base.Opaque
			if !u.HasQuery {
				u.Query, u.HasQuery = base.Query, base.HasQuery
			}
			return u, api.OK
		case rest[0] != '/':
			before := ""
			for _, part := range base.Path[:max(0, len(base.Path)-1)] {
				before += "/" + part
			}
			rest = before + "/" + rest
		}
		u.Path = modelPath(rest)
		return u, api.OK
	}
	if !strings.HasPrefix(rest, "/") {
		u.Opaque, u.Path = true, []string{sieved(rest, "")}
		return u, api.OK
	}
	p := placed.FindStringSubmatch(latin(rest))
	if strings.HasPrefix(rest, "//") {
		if why := modelAuthority(&u, bytesOf(p[1]), own, special); why != api.OK {
			return api.URL{}, why
		}
	}
	path := bytesOf(p[2])
	if path == "" && special {
		path = "/"
	}
	u.Path = modelPath(path)
	return u, api.OK
}

func modelAuthority(u *api.URL, s string, own int, special bool) api.Errno {
	if parts := strings.Split(s, "@"); len(parts) > 1 {
		who := strings.SplitN(strings.Join(parts[:len(parts)-1], "@"), ":", 2)
		u.User = sieved(who[0], ofUserinfo)
		if len(who) == 2 {
			u.Pass = sieved(who[1], ofUserinfo)
		}
		s = parts[len(parts)-1]
	}
	blanked := bracketed.ReplaceAllStringFunc(latin(s), func(b string) string { return strings.Repeat("x", len([]rune(b))) })
	digits := ""
	if i := strings.LastIndex(bytesOf(blanked), ":"); i >= 0 {
		s, digits = s[:i], s[i+1:]
	}
	if digits != "" {
		m := portForm.FindStringSubmatch(digits)
		if m == nil {
			return api.ErrPort
		}
		n, _ := strconv.Atoi("0" + m[1])
		if n > 65535 {
			return api.ErrPort
		}
		if n != own {
			u.Port = n
		}
	}
	name, why := host.Parse(s, special)
	if why != api.OK || s == "" && u.User+u.Pass+digits != "" {
		return api.ErrHost
	}
	u.Host, u.HasHost = name, true
	return api.OK
}

// modelPath works the dots out of the end: each `..` leaves out the next part ahead of it that is not left out already.
func modelPath(s string) []string {
	if s == "" {
		return nil
	}
	parts := strings.Split(s, "/")[1:]
	var back []string
	skip := 0
	for i := len(parts) - 1; i >= 0; i-- {
		last := i == len(parts)-1
		one, two := oneDot.MatchString(parts[i]), twoDots.MatchString(parts[i])
		if last && (one || two) {
			back = append(back, "")
		}
		switch {
		case two:
			skip++
		case one:
		case skip > 0:
			skip--
		default:
			back = append(back, sieved(parts[i], ofPath))
		}
	}
	slices.Reverse(back)
	return back
}

// someBases: of every kind.
var someBases = []string{"http://u:p@h:81/a/b?q#f", "https://h", "a://h/b/c?q", "a://h", "a:/b/c", "a:/.//b", "a:b c?q#f", "a://", "ftp://[::1]/x/", "data:,x"}

func TestAgainstModel(t *testing.T) {
	r := rand.New(rand.NewSource(3))
	var bases []api.URL
	for _, s := range someBases {
		bases = append(bases, parsed(t, s))
	}
	told := map[api.Errno]int{}
	itself := 0
	for range 120000 {
		s := someText(r, 8)
		switch r.Intn(4) {
		case 0:
			s = "http://" + s
		case 1:
			s = "a:" + s
		}
		u, why := url.Parse(s)
		if want, whyWant := model(s, nil); why != whyWant || !same(u, want) {
			t.Fatalf("Parse(%q): %+v, %v, not %+v, %v", s, u, why, want, whyWant)
		}
		if wantItself(t, s) {
			itself++
		}
		told[why]++
		base := bases[r.Intn(len(bases))]
		u, why = url.Join(s, base)
		if want, whyWant := model(s, &base); why != whyWant || !same(u, want) {
			t.Fatalf("Join(%q, %q): %+v, %v, not %+v, %v", s, url.Text(base), u, why, want, whyWant)
		}
		told[why]++
	}
	for _, why := range []api.Errno{api.OK, api.ErrBase, api.ErrHost, api.ErrPort} {
		if told[why] < 2000 {
			t.Errorf("%v: only %d", why, told[why])
		}
	}
	if itself < 20000 {
		t.Errorf("parsed again: only %d", itself)
	}
}

// The rules that hold everywhere

// TestArgumentsAndAnswers: R2, R4: what is handed in stays, its spare room too; answers are new memory, the same each time.
func TestArgumentsAndAnswers(t *testing.T) {
	for _, s := range []string{"", "#f", "?q", "x", "x/y/z", "..", "../x", "../../..", ".", "/x", "//g/x", "http:x", "b:x", "//:x"} {
		for _, from := range []string{"http://h/a/b/c", "a:/b/c", "a://h"} {
			base := parsed(t, from)
			room := append(slices.Clone(base.Path), "spare", "room", "behind", "it")
			was := slices.Clone(room)
			base.Path = room[:len(base.Path)]
			u, why := url.Join(s, base)
			if !slices.Equal(room, was) {
				t.Fatalf("Join(%q, %q): base became %q", s, from, room)
			}
			all := u.Path[:cap(u.Path)]
			for i := range all {
				all[i] = "written"
			}
			if !slices.Equal(room, was) {
				t.Fatalf("Join(%q, %q): the answer shares base's list", s, from)
			}
			v, whyAgain := url.Join(s, base)
			w, _ := url.Join(s, parsed(t, from))
			if why != whyAgain || !same(v, w) || slices.Contains(v.Path, "written") {
				t.Fatalf("Join(%q, %q) twice: %+v, %+v", s, from, v, w)
			}
		}
	}
	a, b := parsed(t, "http://h/a/b"), parsed(t, "http://h/a/b")
	a.Path[0] = "written"
	if b.Path[0] != "a" || parsed(t, "http://h/a/b").Path[0] != "a" || parsed(t, "http://h").Path[0] != "" {
		t.Error("two answers share a list")
	}
	a = parsed(t, "http://h")
	a.Path[0] = "written"
	if parsed(t, "http://h").Path[0] != "" {
		t.Error("two answers share the empty path")
	}
}

// TestAnyAddress: R1, R5: of addresses that no call answered, the calls end.
func TestAnyAddress(t *testing.T) {
	r := rand.New(rand.NewSource(4))
	any := func() api.URL {
		u := api.URL{Scheme: []string{"", "http", "a", someText(r, 2)}[r.Intn(4)], User: someText(r, 1), Pass: someText(r, 1), Host: someText(r, 1), HasHost: r.Intn(2) == 0, Port: r.Intn(5) - 3, Opaque: r.Intn(2) == 0, Query: someText(r, 1), HasQuery: r.Intn(2) == 0, Fragment: someText(r, 1), HasFragment: r.Intn(2) == 0}
		for range r.Intn(4) {
			u.Path = append(u.Path, someText(r, 2))
		}
		return u
	}
	for range 50000 {
		u := any()
		url.Text(u)
		url.Bare(u)
		s := someText(r, 4)
		if v, why := url.Join(s, u); why != api.OK && !reflect.DeepEqual(v, api.URL{}) {
			t.Fatalf("Join(%q, %+v): %+v beside %v", s, u, v, why)
		}
	}
	url.Text(api.URL{})
	url.Bare(api.URL{Opaque: true})
	url.Join("..", api.URL{})
	url.Join("", api.URL{Opaque: true})
	url.Join("x", api.URL{Path: []string{}})
}

// TestLongTexts: R1: the calls end, and soon.
func TestLongTexts(t *testing.T) {
	base := parsed(t, "http://h/"+strings.Repeat("a/", 2000))
	for _, part := range []string{"/", "../", "./", "%2e/", ":", "@", "[", "]", "[]", "?", "#", "\\", "\t", " ", "a", "%", "\xff", ".", "//"} {
		for _, start := range []string{"", "http://", "a:", "a://", "a:/", "/", "?", "#"} {
			long := start + strings.Repeat(part, (api.MaxText-len(start))/len(part))
			wantItself(t, long)
			url.Join(long, base)
			wantNone(t, long+strings.Repeat(part, 1<<20), api.ErrLong)
		}
	}
	for range 100 {
		base, _ = url.Join(strings.Repeat("x/", 2000), base)
	}
	if len(base.Path) != 202001 || len(url.Text(base)) < 400000 {
		t.Errorf("%d parts, %d bytes", len(base.Path), len(url.Text(base)))
	}
}
