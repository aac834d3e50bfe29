package origin_test

import (
	"bytes"
	"fmt"
	"math/rand"
	neturl "net/url"
	"regexp"
	"slices"
	"strings"
	"testing"
	"unicode/utf8"

	"ostiary/api"
	"ostiary/origin"
	"ostiary/url"
)

func parsed(t *testing.T, s string) api.URL {
	t.Helper()
	u, why := url.Parse(s)
	if why != api.OK {
		t.Fatalf("Parse(%q): %v", s, why)
	}
	return u
}

func of(t *testing.T, s string) api.Origin {
	t.Helper()
	return origin.Of(parsed(t, s))
}

// at: an origin that has that host.
func at(host string) api.Origin { return api.Origin{Scheme: "http", Host: host, Port: 80} }

var none = api.Origin{Opaque: true}

// oneByte: a text of just that byte (string(rune(c)) would be two bytes above 127).
func oneByte(c int) string { return string([]byte{byte(c)}) }

func some(r *rand.Rand, of []string) string { return of[r.Intn(len(of))] }

// P4.1

func TestOf(t *testing.T) {
	for s, want := range map[string]api.Origin{
		"http://h:81/":               {Scheme: "http", Host: "h", Port: 81},
		"http://h/":                  {Scheme: "http", Host: "h", Port: 80},
		"http://h:80":                {Scheme: "http", Host: "h", Port: 80},
		"https://h/":                 {Scheme: "https", Host: "h", Port: 443},
		"https://h:80/":              {Scheme: "https", Host: "h", Port: 80},
		"ws://h":                     {Scheme: "ws", Host: "h", Port: 80},
		"wss://h":                    {Scheme: "wss", Host: "h", Port: 443},
		"wss://h:0":                  {Scheme: "wss", Host: "h"},
		"ftp://h":                    {Scheme: "ftp", Host: "h", Port: 21},
		"ftp://h:65535":              {Scheme: "ftp", Host: "h", Port: 65535},
		"HTTP://u:p@EX.com/a/b?q#f":  {Scheme: "http", Host: "ex.com", Port: 80},
		"http://[0:0::1]:1":          {Scheme: "http", Host: "[::1]", Port: 1},
		"http://0x7f.1":              {Scheme: "http", Host: "127.0.0.1", Port: 80},
		"data:a":                     none,
		"data:":                      none,
		"about:blank":                none,
		"a:x":                        none,
		"a:/x":                       none,
		"a://h":                      none,
		"a://h:81/x":                 none,
		"file:///x":                  none,
		"https+a://h":                none,
		"data:http://h/":             none,
		"about:http://h/":            none,
		"blobs:http://h/":            none,
		"blob:http://h/":             {Scheme: "http", Host: "h", Port: 80},
		"BLOB:HTTPS://u:p@H/x?q#f":   {Scheme: "https", Host: "h", Port: 443},
		"blob:https://h:81/x-1":      {Scheme: "https", Host: "h", Port: 81},
		"blob:https://h:443":         {Scheme: "https", Host: "h", Port: 443},
		"blob:http:h":                {Scheme: "http", Host: "h", Port: 80},
		"blob:http:\\\\h\\x":         {Scheme: "http", Host: "h", Port: 80},
		"blob: http://h/":            {Scheme: "http", Host: "h", Port: 80}, // as Parse reads it
		"blob:http://h?x":            {Scheme: "http", Host: "h", Port: 80},
		"blob:http://%48/":           {Scheme: "http", Host: "h", Port: 80},
		"blob:":                      none,
		"blob:x":                     none,
		"blob:/x":                    none,
		"blob:http:":                 none, // no host
		"blob:http:?//h":             none, // its text ends ahead of the `?`
		"blob:?http://h":             none,
		"blob:#http://h":             none,
		"blob:http://h:x/":           none,
		"blob:http://h:99999/":       none,
		"blob:http://a b/":           none,
		"blob:http://é/":             none,
		"blob:%68ttp://h/":           none,
		"blob:ws://h/":               none,
		"blob:wss://h/":              none,
		"blob:ftp://h/":              none,
		"blob:data:x":                none,
		"blob:about:blank":           none,
		"blob:a://h/":                none,
		"blob:blob:http://h/":        none,
		"blob:blob:https://h/":       none,
		"blob:/http://h/":            none,
		"blob://http://h/":           none,
		"blob://h/http://h/":         none,
		"blob:/http:h":               none, // a path, and no one text
		"blob:null/x":                none,
		"blob:http://[::1]:8080/a:b": {Scheme: "http", Host: "[::1]", Port: 8080},
	} {
		if got := of(t, s); got != want {
			t.Errorf("Of(%q): %+v, not %+v", s, got, want)
		}
	}
}

func TestOfEachPort(t *testing.T) {
	own := map[string]int{"http": 80, "https": 443, "ws": 80, "wss": 443, "ftp": 21}
	for scheme, port := range own {
		for _, n := range []int{0, 1, 20, 21, 22, 79, 80, 81, 442, 443, 444, 8080, 65534, 65535} {
			s := fmt.Sprintf("%s://h:%d", scheme, n)
			o := of(t, s)
			if o != (api.Origin{Scheme: scheme, Host: "h", Port: n}) {
				t.Errorf("Of(%q): %+v", s, o)
			}
			want := s
			if n == port {
				want = scheme + "://h"
			}
			if got := origin.Text(o); got != want {
				t.Errorf("Text of %q: %q, not %q", s, got, want)
			}
			if got := origin.Same(o, of(t, scheme+"://h")); got != (n == port) {
				t.Errorf("%q: Same as without its port: %v", s, got)
			}
		}
	}
}

// TestOfLongBlob: a text that is longer once it is escaped is no address any more.
func TestOfLongBlob(t *testing.T) {
	const head = "blob:http://h/"
	for n, want := range map[int]api.Origin{
		1360: {Scheme: "http", Host: "h", Port: 80}, // 9 + 3 * 1360 bytes
		1362: {Scheme: "http", Host: "h", Port: 80}, // 4095
		1363: none,                                  // 4098
	} {
		if got := of(t, head+strings.Repeat("\xff", n)); got != want {
			t.Errorf("%d: %+v", n, got)
		}
	}
}

func TestText(t *testing.T) {
	for s, want := range map[string]string{
		"http://h:81/":            "http://h:81",
		"https://h/":              "https://h",
		"data:a":                  "null",
		"https://u:p@h:443/a?q#f": "https://h",
		"http://h:443":            "http://h:443",
		"ws://h":                  "ws://h",
		"wss://EX.com:80":         "wss://ex.com:80",
		"ftp://h:21":              "ftp://h",
		"ftp://h:0":               "ftp://h:0",
		"http://[1:0::]:1/":       "http://[1::]:1",
		"http://1/":               "http://0.0.0.1",
		"a://h:1/":                "null",
		"blob:https://a:1/x":      "https://a:1",
		"blob:x":                  "null",
	} {
		if got := origin.Text(of(t, s)); got != want {
			t.Errorf("Text of %q: %q, not %q", s, got, want)
		}
	}
	for want, o := range map[string]api.Origin{
		"null":            {Scheme: "http", Host: "h", Port: 80, Opaque: true},
		"a://h":           {Scheme: "a", Host: "h", Port: -1}, // Own of others is -1
		"a://h:80":        {Scheme: "a", Host: "h", Port: 80},
		"http://h:-1":     {Scheme: "http", Host: "h", Port: -1},
		"://:0":           {},
		"http://\xff\x00": at("\xff\x00"),
	} {
		if got := origin.Text(o); got != want {
			t.Errorf("Text(%+v): %q, not %q", o, got, want)
		}
	}
	if origin.Text(none) != "null" {
		t.Error("Text of an Opaque one")
	}
}

// TestTextIsAnAddress: what Text tells of an origin has that origin.
func TestTextIsAnAddress(t *testing.T) {
	r := rand.New(rand.NewSource(41))
	for range 5000 {
		s := some(r, []string{"http", "https", "ws", "wss", "ftp"}) + "://" + some(r, []string{"h", "EX.com", "[::1]", "7", "a.b."}) + some(r, []string{"", ":", ":80", ":443", ":21", ":0", ":9"}) + "/x"
		o := of(t, s)
		if again := of(t, origin.Text(o)); again != o || !origin.Same(again, o) {
			t.Fatalf("%q: %+v, %+v", s, o, again)
		}
	}
}

func TestSame(t *testing.T) {
	a := api.Origin{Scheme: "http", Host: "h", Port: 80}
	if !origin.Same(a, a) || !origin.Same(a, of(t, "http://H:80/x?y#z")) {
		t.Error("one origin")
	}
	for _, b := range []api.Origin{
		{Scheme: "https", Host: "h", Port: 80},
		{Scheme: "http", Host: "g", Port: 80},
		{Scheme: "http", Host: "H", Port: 80},
		{Scheme: "http", Host: "h.", Port: 80},
		{Scheme: "http", Host: "h", Port: 81},
		{Scheme: "http", Host: "h", Port: 80, Opaque: true},
		none,
		{},
	} {
		if origin.Same(a, b) || origin.Same(b, a) {
			t.Errorf("Same(%+v, %+v)", a, b)
		}
	}
	whole := api.Origin{Scheme: "http", Host: "h", Port: 80, Opaque: true}
	if origin.Same(none, none) || origin.Same(whole, whole) || origin.Same(none, whole) {
		t.Error("Same of Opaque ones")
	}
	if origin.Same(of(t, "data:x"), of(t, "data:x")) || origin.Same(of(t, "a://h"), of(t, "a://h")) {
		t.Error("Same of addresses without an origin")
	}
	if !origin.Same(of(t, "blob:https://h/1"), of(t, "https://h:443/")) {
		t.Error("Same of a blob and its page")
	}
}

// P4.2

func TestSite(t *testing.T) {
	for host, want := range map[string]string{
		"a.b.co.uk":        "b.co.uk",
		"b.com":            "b.com",
		"1.2.3.4":          "1.2.3.4",
		"localhost":        "localhost",
		"co.uk":            "co.uk",
		"com.au":           "com.au",
		"github.io":        "github.io",
		"a.co.uk":          "a.co.uk",
		"a.com.au":         "a.com.au",
		"b.a.com.au":       "a.com.au",
		"a.github.io":      "a.github.io",
		"c.b.a.github.io":  "a.github.io",
		"a.b.com":          "b.com",
		"a.b.c.d.com":      "d.com",
		"a.uk":             "a.uk",
		"b.a.uk":           "a.uk",
		"b.a.io":           "a.io",
		"b.a.au":           "a.au",
		"uk":               "uk",
		"co.uk.com":        "uk.com",
		"a.co.uk.com":      "uk.com",
		"co.uk.co.uk":      "uk.co.uk",
		"a.xco.uk":         "xco.uk", // two labels, not the end of a text
		"xco.uk":           "xco.uk",
		"b.notgithub.io":   "notgithub.io",
		"b.a.co.uk.uk":     "uk.uk",
		"a.b.co.ukx":       "co.ukx",
		"a.b.co":           "b.co",
		"a.b.org.uk":       "org.uk", // the rules are three
		"a.b.com.uk":       "com.uk",
		"a.b.co.au":        "co.au",
		"a.b.github.com":   "github.com",
		"a.b.CO.UK":        "CO.UK", // bytes, as they are
		"":                 "",
		".":                ".",
		"...":              "...",
		"12":               "12",
		"1.2.3.4.5":        "1.2.3.4.5",
		"1.2.3.":           "1.2.3.",
		"1.2.3.a":          "3.a",
		"1.2.a.4":          "a.4",
		"a.2.3.4":          "3.4",
		"1.2.3.-4":         "3.-4",
		"1.2.3/4":          "2.3/4",
		"1.2.3:4":          "2.3:4",
		"[::1]":            "[::1]",
		"[1:2::3]":         "[1:2::3]",
		"[a.b.c.d":         "[a.b.c.d",
		"[":                "[",
		"a.b.[c":           "b.[c",
		".com":             ".com",
		"..com":            ".com",
		".co.uk":           ".co.uk",
		"a..co.uk":         ".co.uk",
		"a.b.com.":         "com.", // the last label is the empty one
		"a.b.co.uk.":       "uk.",
		"co.uk.":           "uk.",
		"a.":               "a.",
		"\xff.\xfe.\x00.x": "\x00.x",
		"é.ü.com":          "ü.com",
	} {
		if got := origin.Site(at(host)); got != want {
			t.Errorf("Site of %q: %q, not %q", host, got, want)
		}
	}
	if origin.Site(none) != "" || origin.Site(api.Origin{Scheme: "http", Host: "a.b.com", Port: 80, Opaque: true}) != "" {
		t.Error("Site of an Opaque one")
	}
	if origin.Site(api.Origin{}) != "" {
		t.Error("Site of the zero one")
	}
}

// sitePattern: the chapter's words as one pattern over bytes.
var sitePattern = regexp.MustCompile(`(?s)^(?:\[.*|[0-9.]*|[^.]*)$|(?:^|[^.]*\.)(?:co\.uk|com\.au|github\.io)$|[^.]*\.[^.]*$`)

func TestSiteAgainstPattern(t *testing.T) {
	r := rand.New(rand.NewSource(42))
	parts := []string{"a", "b", "com", "co", "uk", "co.uk", "com.au", "github.io", "github", "io", "au", "1", "22", "", "[", "x"}
	for range 100000 {
		labels := make([]string, r.Intn(6))
		for i := range labels {
			labels[i] = some(r, parts)
		}
		host := strings.Join(labels, ".")
		want := sitePattern.FindString(host)
		if got := origin.Site(at(host)); got != want {
			t.Fatalf("Site of %q: %q, not %q", host, got, want)
		}
	}
}

func TestSameSite(t *testing.T) {
	for _, l := range [][2]string{
		{"http://a.b.com:1/", "http://c.b.com/"},
		{"http://b.com", "http://a.b.com"},
		{"https://b.com:80", "https://b.com"},
		{"http://a.b.co.uk", "http://c.b.co.uk"},
		{"http://[::1]:1", "http://[::1]:2"},
		{"http://1.2.3.4:1", "http://1.2.3.4"},
		{"http://localhost:1", "http://localhost:2"},
		{"ws://a.b.com", "ws://b.com"},
		{"blob:http://a.b.com/x", "http://c.b.com"},
	} {
		a, b := of(t, l[0]), of(t, l[1])
		if !origin.SameSite(a, b) || !origin.SameSite(b, a) {
			t.Errorf("not SameSite: %q", l)
		}
	}
	for _, l := range [][2]string{
		{"http://a.b.com", "https://a.b.com"},
		{"http://a.b.com", "ws://a.b.com"},
		{"http://b.com", "http://c.com"},
		{"http://a.co.uk", "http://b.co.uk"},
		{"http://a.com.au", "http://b.com.au"},
		{"http://a.github.io", "http://b.github.io"},
		{"http://co.uk", "http://a.co.uk"},
		{"http://1.2.3.4", "http://2.2.3.4"},
		{"http://[::1]", "http://[::2]"},
		{"http://localhost", "http://a.localhost"},
		{"http://b.com", "http://b.com."},
		{"http://b.com", "data:x"},
		{"data:x", "data:x"},
		{"a://b.com", "a://b.com"},
		{"blob:x", "blob:x"},
	} {
		a, b := of(t, l[0]), of(t, l[1])
		if origin.SameSite(a, b) || origin.SameSite(b, a) {
			t.Errorf("SameSite: %q", l)
		}
	}
	whole := api.Origin{Scheme: "http", Host: "b.com", Port: 80, Opaque: true}
	if origin.SameSite(whole, whole) || origin.SameSite(whole, at("b.com")) || origin.SameSite(at("b.com"), whole) {
		t.Error("SameSite of Opaque ones")
	}
	// An Opaque one's Site is empty, as that of an empty host is.
	if origin.SameSite(none, api.Origin{}) || origin.SameSite(api.Origin{}, none) || !origin.SameSite(api.Origin{}, api.Origin{}) {
		t.Error("SameSite of empty hosts")
	}
}

// P4.3

func TestTrusted(t *testing.T) {
	for s, want := range map[string]bool{
		"http://localhost/":        true,
		"https://h/":               true,
		"HTTPS://h:80":             true,
		"wss://h/":                 true,
		"data:x":                   true,
		"data:":                    true,
		"data:/x":                  true,
		"data://h/x":               true,
		"about:blank":              true,
		"about:":                   true,
		"http://h/":                false,
		"ws://h/":                  false,
		"ftp://h/":                 false,
		"a:x":                      false,
		"a:localhost":              false,
		"a:/localhost":             false,
		"a://h/":                   false,
		"file:///x":                false,
		"httpss://h":               false,
		"datas:x":                  false,
		"http://LOCALHOST:81":      true,
		"ws://localhost":           true,
		"ftp://localhost/":         true,
		"a://localhost/":           true,
		"a://LOCALHOST/":           false, // a host of such a scheme is not Lowered
		"http://a.localhost/":      true,
		"http://a.b.localhost/":    true,
		"http://.localhost/":       true,
		"http://localhost./":       false,
		"http://notlocalhost/":     false,
		"http://localhost.com/":    false,
		"http://localhosts/":       false,
		"http://localhost.a/":      false,
		"http://u@h/":              false,
		"http://localhost@h/":      false,
		"http://h/localhost":       false,
		"http://h?localhost":       false,
		"http://h#localhost":       false,
		"http://127.0.0.1/":        true,
		"http://127.0.0.9:1/":      true,
		"http://127.255.255.255":   true,
		"http://127.1/":            true,
		"http://0x7f000001/":       true,
		"ws://127.0.0.1/":          true,
		"a://127.0.0.1/":           true,
		"a://127./":                true,
		"a://127.1.2.3.4.5..":      true,
		"a://127":                  false,
		"a://1270.0.0.1":           false,
		"http://127.a/":            false,
		"http://127.0.0.1.a/":      false,
		"http://127.0.0.1.com/":    false,
		"a://127.0.0.1a/":          false,
		"a://127.0.0.-1/":          false,
		"a://.127.0.0.1/":          false,
		"http://1.127.0.0/":        false,
		"http://128.0.0.1/":        false,
		"http://12.7.0.1/":         false,
		"http://0.0.0.0/":          false,
		"http://[::1]/":            true,
		"http://[0:0:0::0:1]:8080": true,
		"a://[::1]":                true,
		"http://[::2]/":            false,
		"http://[1::]/":            false,
		"http://[::]/":             false,
		"http://[::1:1]/":          false,
		"http://[::7f00:1]/":       false,
		"http://[::127.0.0.1]/":    false,
		"blob:https://h/1":         true,
		"BLOB:HTTPS:h":             true,
		"blob:wss://h/1":           true,
		"blob:data:x":              true,
		"blob:about:blank":         true,
		"blob:http://localhost/1":  true,
		"blob:http://127.0.0.1/1":  true,
		"blob:http://[::1]/1":      true,
		"blob:ftp://localhost/":    true,
		"blob:a://localhost/":      true,
		"blob:http://h/1":          false,
		"blob:http://h/https://g":  false,
		"blob:a:x":                 false,
		"blob:x":                   false,
		"blob:":                    false,
		"blob:https:":              false,
		"blob:https://h:x/":        false,
		"blob:?https://h":          false,
		"blob:#https://h":          false,
		"blob:localhost":           false,
		"blob://localhost/":        false, // of blob, what is in it counts, and there is nothing
		"blob://[::1]/https://h":   false,
		"blob:/https://h":          false,
		"blob:/data:x":             false,
		"blob:blob:https://h/1":    true,
		"blob:blob:http://h/1":     false,
		"blob:blob:blob:data:x":    true,
		"blob:blob:x":              false,
		"blob:blob:":               false,
	} {
		if got := origin.Trusted(parsed(t, s)); got != want {
			t.Errorf("Trusted(%q): %v", s, got)
		}
	}
}

func TestTrustedEachByteOfAnAddress(t *testing.T) {
	for c := range 256 {
		b := oneByte(c)
		digit := c >= '0' && c <= '9' || c == '.'
		for _, host := range []string{"127." + b, "127.0" + b + "0.1", "127.0.0.1" + b} {
			u := api.URL{Scheme: "a", Host: host, HasHost: true, Port: -1}
			if origin.Trusted(u) != digit {
				t.Errorf("%q: %v", host, !digit)
			}
		}
		host := "1" + b + ".2.3"
		if got := origin.Site(at(host)); (got == host) != digit && c != '.' {
			t.Errorf("Site of %q: %q", host, got)
		}
	}
}

// TestTrustedDeep: blobs in blobs, as many as an address holds.
func TestTrustedDeep(t *testing.T) {
	n := (api.MaxText - len("data:")) / len("blob:")
	blobs := strings.Repeat("blob:", n)
	if !origin.Trusted(parsed(t, blobs+"data:")) || origin.Trusted(parsed(t, blobs+"dat:")) || origin.Trusted(parsed(t, blobs)) {
		t.Error("blobs in blobs")
	}
	if of(t, blobs+"data:") != none || of(t, strings.Repeat("blob:", n-2)+"https://h") != none {
		t.Error("Of blobs in blobs")
	}
}

// P4.4

func TestQuery(t *testing.T) {
	for s, want := range map[string][]origin.Pair{
		"a=1&b+c&&=%41":              {{Name: "a", Value: "1"}, {Name: "b c"}, {Value: "A"}},
		"":                           nil,
		"&":                          nil,
		"&&&":                        nil,
		"=":                          {{}},
		"&=&":                        {{}},
		"=&=":                        {{}, {}},
		"a":                          {{Name: "a"}},
		"a=":                         {{Name: "a"}},
		"=a":                         {{Value: "a"}},
		"a=b=c":                      {{Name: "a", Value: "b=c"}},
		"a==":                        {{Name: "a", Value: "="}},
		"==a":                        {{Value: "=a"}},
		"&a&":                        {{Name: "a"}},
		"a&a&a=1":                    {{Name: "a"}, {Name: "a"}, {Name: "a", Value: "1"}},
		"b&a":                        {{Name: "b"}, {Name: "a"}},
		"+=+":                        {{Name: " ", Value: " "}},
		"++a+":                       {{Name: "  a "}},
		" ":                          {{Name: " "}},
		" a = b ":                    {{Name: " a ", Value: " b "}},
		"%2B=%2b":                    {{Name: "+", Value: "+"}}, // no blank: it is unfolded behind
		"%26=%3D":                    {{Name: "&", Value: "="}},
		"%3d":                        {{Name: "="}},
		"a%26b%3Dc":                  {{Name: "a&b=c"}},
		"%2541":                      {{Name: "%41"}}, // once
		"%252B=%2520":                {{Name: "%2B", Value: "%20"}},
		"%+1":                        {{Name: "% 1"}},
		"%4+1":                       {{Name: "%4 1"}},
		"%zz=%4":                     {{Name: "%zz", Value: "%4"}},
		"%":                          {{Name: "%"}},
		"a;b":                        {{Name: "a;b"}}, // a `;` parts nothing
		"?a=1":                       {{Name: "?a", Value: "1"}},
		"a=1#b":                      {{Name: "a", Value: "1#b"}},
		"%ff=\xff":                   {{Name: "\ufffd", Value: "\ufffd"}},
		"%C3%A9=\xc3\xa9":            {{Name: "é", Value: "é"}},
		"\xc3%A9=%c3\xa9":            {{Name: "é", Value: "é"}},
		"%C3=%A9":                    {{Name: "\ufffd", Value: "\ufffd"}}, // no rune reaches over the `=`
		"%C3&%A9":                    {{Name: "\ufffd"}, {Name: "\ufffd"}},
		"%ef%bb%bfx=%EF%BB%BFy":      {{Name: "x", Value: "y"}},
		"%ef%bb%bf":                  {{}},
		"\ufeff=\ufeff\ufeff":        {{Value: "\ufeff"}},
		"x%ef%bb%bf":                 {{Name: "x\ufeff"}},
		"+%ef%bb%bf":                 {{Name: " \ufeff"}},
		"%00=\x00":                   {{Name: "\x00", Value: "\x00"}},
		"%ed%a0%80":                  {{Name: "\ufffd\ufffd\ufffd"}},
		"a\n=\tb":                    {{Name: "a\n", Value: "\tb"}},
		"name=O'Neil&q=1%2C2&x=%7E~": {{Name: "name", Value: "O'Neil"}, {Name: "q", Value: "1,2"}, {Name: "x", Value: "~~"}},
	} {
		if got := origin.Query(s); !slices.Equal(got, want) {
			t.Errorf("Query(%q): %q, not %q", s, got, want)
		}
	}
}

func TestQueryEachByte(t *testing.T) {
	for c := range 256 {
		b := oneByte(c)
		want := []origin.Pair{{Name: "x" + b + "y", Value: "z"}}
		switch {
		case b == "&":
			want = []origin.Pair{{Name: "x"}, {Name: "y", Value: "z"}}
		case b == "=":
			want = []origin.Pair{{Name: "x", Value: "y=z"}}
		case b == "+":
			want = []origin.Pair{{Name: "x y", Value: "z"}}
		case c >= 128:
			want[0].Name = "x\ufffdy"
		}
		if got := origin.Query("x" + b + "y=z"); !slices.Equal(got, want) {
			t.Errorf("byte %d: %q", c, got)
		}
		text := b
		if c >= 128 {
			text = "\ufffd"
		}
		for _, form := range []string{"%%%02x=%%%02X", "%%%02X=%%%02x"} {
			s := fmt.Sprintf(form, c, c)
			if got := origin.Query(s); !slices.Equal(got, []origin.Pair{{Name: text, Value: text}}) {
				t.Errorf("Query(%q): %q", s, got)
			}
		}
	}
}

func TestWrite(t *testing.T) {
	for want, l := range map[string][]origin.Pair{
		"":                          nil,
		"=":                         {{}},
		"=&=":                       {{}, {}},
		"a=1":                       {{Name: "a", Value: "1"}},
		"a=":                        {{Name: "a"}},
		"=1":                        {{Value: "1"}},
		"b=2&a=1&b=1":               {{Name: "b", Value: "2"}, {Name: "a", Value: "1"}, {Name: "b", Value: "1"}},
		"a+b=%C3%A9*-._%7E&=%26%3D": {{Name: "a b", Value: "é*-._~"}, {Value: "&="}},
		"%2B+%25=%2541":             {{Name: "+ %", Value: "%41"}},
		"+++=+":                     {{Name: "   ", Value: " "}},
		"%09%0A%0C%0D=%00%0B%C2%A0": {{Name: "\t\n\f\r", Value: "\x00\x0b\u00a0"}}, // blanks that are not 32
		"%FF=%80%EF%BB%BF":          {{Name: "\xff", Value: "\x80\ufeff"}},
		"AZaz09=%40%5B%60%7B%2F%3A": {{Name: "AZaz09", Value: "@[`{/:"}},
		"%21%27%28%29%2C%3B=%23%3F": {{Name: "!'(),;", Value: "#?"}},
	} {
		if got := origin.Write(l); got != want {
			t.Errorf("Write(%q): %q, not %q", l, got, want)
		}
	}
	if origin.Write([]origin.Pair{}) != "" {
		t.Error("Write of no pairs")
	}
}

func TestWriteEachByte(t *testing.T) {
	const asTheyAre = "ABCDEFGHIJKLMNOPQRSTUVWXYZabcdefghijklmnopqrstuvwxyz0123456789*-._"
	for c := range 256 {
		b := oneByte(c)
		want := fmt.Sprintf("%%%02X", c)
		switch {
		case strings.Contains(asTheyAre, b):
			want = b
		case c == 32:
			want = "+"
		}
		if got := origin.Write([]origin.Pair{{Name: b, Value: "x" + b + b}}); got != want+"=x"+want+want {
			t.Errorf("byte %d: %q", c, got)
		}
	}
}

// someQuery: made of what Query looks for, with any byte between at times.
func someQuery(r *rand.Rand) string {
	often := []string{"&", "&", "=", "=", "+", "%", "%2B", "%26", "%3d", "%41", "%4", "%zz", "%C3%A9", "%c3", "é", "%EF%BB%BF", "\ufeff", "%ff", "\xff", " ", "a", "b", "1", ";"}
	var b strings.Builder
	for range r.Intn(9) {
		if r.Intn(8) == 0 {
			b.WriteByte(byte(r.Intn(256)))
		} else {
			b.WriteString(some(r, often))
		}
	}
	return b.String()
}

var (
	pieces  = regexp.MustCompile(`[^&]+`)
	escapes = regexp.MustCompile(`\+|%[0-9A-Fa-f]{2}`)
)

// modelText reads by a pattern, each place once, and lays the runes anew.
func modelText(s []byte) string {
	s = escapes.ReplaceAllFunc(s, func(m []byte) []byte {
		if m[0] == '+' {
			return []byte(" ")
		}
		var n byte
		fmt.Sscanf(string(m[1:]), "%x", &n)
		return []byte{n}
	})
	return string([]rune(string(bytes.TrimPrefix(s, []byte("\xef\xbb\xbf")))))
}

func modelQuery(s string) []origin.Pair {
	var out []origin.Pair
	for _, piece := range pieces.FindAll([]byte(s), -1) {
		halves := append(bytes.SplitN(piece, []byte("="), 2), nil)
		out = append(out, origin.Pair{Name: modelText(halves[0]), Value: modelText(halves[1])})
	}
	return out
}

func TestQueryAgainstModel(t *testing.T) {
	r := rand.New(rand.NewSource(44))
	for range 50000 {
		s := someQuery(r)
		got := origin.Query(s)
		if want := modelQuery(s); !slices.Equal(got, want) {
			t.Fatalf("Query(%q): %q, not %q", s, got, want)
		}
		for _, p := range got {
			if !utf8.ValidString(p.Name + p.Value) {
				t.Fatalf("Query(%q): %q", s, got)
			}
		}
	}
}

// P4.5

func TestSameIsSameSite(t *testing.T) {
	r := rand.New(rand.NewSource(45))
	one := func() api.Origin {
		return api.Origin{Scheme: some(r, []string{"", "http", "https", "a"}), Host: some(r, []string{"", "h", "a.b.com", "b.com", "co.uk", "[::1]", "1.2", "a."}), Port: r.Intn(3) - 1, Opaque: r.Intn(4) == 0}
	}
	same, site := 0, 0
	for range 50000 {
		a, b := one(), one()
		want := !a.Opaque && !b.Opaque && a.Scheme == b.Scheme && a.Host == b.Host && a.Port == b.Port
		if origin.Same(a, b) != want || origin.Same(b, a) != want {
			t.Fatalf("Same(%+v, %+v): %v", a, b, !want)
		}
		if want && !origin.SameSite(a, b) {
			t.Fatalf("%+v, %+v: Same, and not SameSite", a, b)
		}
		if origin.SameSite(a, b) != origin.SameSite(b, a) {
			t.Fatalf("SameSite(%+v, %+v) from both sides", a, b)
		}
		if want {
			same++
		}
		if origin.SameSite(a, b) {
			site++
		}
	}
	if same < 100 || site <= same {
		t.Errorf("%d Same, %d SameSite", same, site)
	}
}

func someText(r *rand.Rand) string {
	var b strings.Builder
	for range r.Intn(5) {
		switch r.Intn(4) {
		case 0:
			b.WriteString(some(r, []string{"&", "=", "+", "%", " ", "%41", "%2B", "\x00", "\x7f", "\u0080", "\ufffd", "\U0010ffff", "\ufeff"}))
		case 1:
			b.WriteRune(rune(r.Intn(0xd800)))
		default:
			b.WriteRune(rune(r.Intn(128)))
		}
	}
	return strings.TrimLeft(b.String(), "\ufeff")
}

func TestQueryOfWrite(t *testing.T) {
	r := rand.New(rand.NewSource(46))
	for range 30000 {
		l := make([]origin.Pair, r.Intn(4))
		for i := range l {
			l[i] = origin.Pair{Name: someText(r), Value: someText(r)}
		}
		s := origin.Write(l)
		if got := origin.Query(s); !slices.Equal(got, l) {
			t.Fatalf("Query(%q): %q, not %q", s, got, l)
		}
		if strings.Trim(s, "ABCDEFGHIJKLMNOPQRSTUVWXYZabcdefghijklmnopqrstuvwxyz0123456789*-._+%&=") != "" {
			t.Fatalf("Write(%q): %q", l, s)
		}
		var want []string
		for _, p := range l {
			want = append(want, neturl.QueryEscape(p.Name)+"="+neturl.QueryEscape(p.Value))
		}
		// Two bytes are told otherwise there.
		whole := strings.NewReplacer("~", "%7E", "%2A", "*").Replace(strings.Join(want, "&"))
		if s != whole {
			t.Fatalf("Write(%q): %q, not %q", l, s, whole)
		}
	}
}

// TestQueryOfWriteBeyond: texts that P4.5 leaves out come back as Decode tells them.
func TestQueryOfWriteBeyond(t *testing.T) {
	for text, want := range map[string]string{
		"\xff":           "\ufffd",
		"\ufeffa":        "a",
		"\ufeff":         "",
		"\ufeff\ufeff":   "\ufeff",
		"a\ufeff":        "a\ufeff",
		"\xed\xa0\x80\n": "\ufffd\ufffd\ufffd\n",
	} {
		if got := origin.Query(origin.Write([]origin.Pair{{Name: text, Value: text}})); !slices.Equal(got, []origin.Pair{{Name: want, Value: want}}) {
			t.Errorf("%q: %q", text, got)
		}
	}
}

// The rules that hold everywhere

// TestArgumentsAndAnswers: R2, R4: what is handed in stays, its spare room too; answers are new memory, the same each time.
func TestArgumentsAndAnswers(t *testing.T) {
	room := []origin.Pair{{Name: "a b", Value: "1"}, {Name: "+", Value: "&"}, {Name: "spare"}, {Name: "room"}}
	was := slices.Clone(room)
	first := origin.Write(room[:2])
	if !slices.Equal(room, was) || origin.Write(room[:2]) != first {
		t.Errorf("Write changed its list: %q", room)
	}
	a := origin.Query("a=1&b=2&c=3")
	b := origin.Query("a=1&b=2&c=3")
	all := a[:cap(a)]
	for i := range all {
		all[i] = origin.Pair{Name: "written"}
	}
	if want := []origin.Pair{{Name: "a", Value: "1"}, {Name: "b", Value: "2"}, {Name: "c", Value: "3"}}; !slices.Equal(b, want) || !slices.Equal(origin.Query("a=1&b=2&c=3"), want) {
		t.Errorf("answers of Query share memory: %q", b)
	}
	for _, s := range []string{"http://h/a/b", "blob:https://h/x", "blob:blob:data:x"} {
		u := parsed(t, s)
		path := append(slices.Clone(u.Path), "spare", "room")
		kept := slices.Clone(path)
		u.Path = path[:len(u.Path)]
		o, trusted := origin.Of(u), origin.Trusted(u)
		if !slices.Equal(path, kept) || origin.Of(u) != o || origin.Trusted(u) != trusted {
			t.Errorf("%q: its path became %q", s, path)
		}
		if o != of(t, s) || trusted != origin.Trusted(parsed(t, s)) {
			t.Errorf("%q: the room behind its path counts", s)
		}
	}
}

// TestZeroFields: R3: of an Opaque origin the other fields are zero.
func TestZeroFields(t *testing.T) {
	for _, s := range []string{"a://h:81/", "blob:ftp://h:81/", "blob:data:x", "blob://h:81/x", "data:x", "blob:http://h:x/"} {
		if o := of(t, s); o != none {
			t.Errorf("Of(%q): %+v", s, o)
		}
	}
}

// TestAnyAddress: R1, R5: of addresses that no call answered, the calls end.
func TestAnyAddress(t *testing.T) {
	r := rand.New(rand.NewSource(47))
	texts := []string{"", "http", "https", "blob", "data", "a", "blob:", "http://h", "https://h/", "localhost", "127.", "[::1]", "\xff", "?", "#", " "}
	for range 50000 {
		u := api.URL{Scheme: some(r, texts), User: some(r, texts), Pass: some(r, texts), Host: some(r, texts), HasHost: r.Intn(2) == 0, Port: r.Intn(5) - 3, Opaque: r.Intn(2) == 0, Query: some(r, texts)}
		for range r.Intn(4) {
			u.Path = append(u.Path, some(r, texts))
		}
		o := origin.Of(u)
		if o.Opaque && o != none {
			t.Fatalf("Of(%+v): %+v", u, o)
		}
		origin.Text(o)
		origin.Site(o)
		origin.Trusted(u)
	}
	for _, u := range []api.URL{{}, {Scheme: "blob"}, {Scheme: "blob", Opaque: true}, {Scheme: "blob", Opaque: true, Path: []string{}}} {
		if origin.Of(u) != none || origin.Trusted(u) {
			t.Errorf("%+v", u)
		}
	}
}

// TestAnyText: R1, R5: of any bytes the calls end.
func TestAnyText(t *testing.T) {
	r := rand.New(rand.NewSource(48))
	for range 20000 {
		b := make([]byte, r.Intn(20))
		r.Read(b)
		s := string(b)
		origin.Query(s)
		origin.Write([]origin.Pair{{Name: s, Value: s}})
		origin.Site(at(s))
		origin.Text(at(s))
		if !origin.Same(at(s), at(s)) || !origin.SameSite(at(s), at(s)) {
			t.Fatalf("%q: not itself", s)
		}
	}
}

// TestLongTexts: R1: the calls end, and soon; no limit of theirs is named.
func TestLongTexts(t *testing.T) {
	const n = 1 << 20
	for part, want := range map[string]int{"&": 0, "=": 1, "a&": n, "a=b&": n, "+": 1, "%": 1, "%41": 1, "\xff": 1, "=&": n} {
		l := origin.Query(strings.Repeat(part, n))
		if len(l) != want {
			t.Errorf("%q: %d pairs", part, len(l))
		}
		if got := origin.Query(origin.Write(l)); !slices.Equal(got, l) {
			t.Errorf("%q: not the same again", part)
		}
	}
	long := strings.Repeat("a.", n)
	if origin.Site(at(long+"co.uk")) != "a.co.uk" || origin.Site(at(long)) != "a." || origin.Site(at(strings.Repeat("1.", n))) != strings.Repeat("1.", n) {
		t.Error("Site of a long host")
	}
	u := api.URL{Scheme: "blob", Opaque: true, Port: -1, Path: []string{strings.Repeat("blob:", n)}}
	if origin.Of(u) != none || origin.Trusted(u) {
		t.Error("a long blob")
	}
}
