package mixed_test

import (
	"slices"
	"strconv"
	"strings"
	"testing"

	"ostiary/api"
	"ostiary/mixed"
	"ostiary/url"
)

func at(t *testing.T, s string) api.URL {
	t.Helper()
	u, why := url.Parse(s)
	if why != api.OK {
		t.Fatalf("Parse(%.60q): %v", s, why)
	}
	return u
}

// bad: the ports of the chapter, a run of them by its first and its last one.
var bad = [][2]int{{0, 1}, {7, 7}, {9, 9}, {11, 11}, {13, 13}, {15, 15}, {17, 17}, {19, 23}, {25, 25}, {37, 37}, {42, 43}, {53, 53}, {69, 69}, {77, 77}, {79, 79}, {87, 87}, {95, 95}, {101, 104}, {109, 111}, {113, 113}, {115, 115}, {117, 117}, {119, 119}, {123, 123}, {135, 135}, {137, 137}, {139, 139}, {143, 143}, {161, 161}, {179, 179}, {389, 389}, {427, 427}, {465, 465}, {512, 515}, {526, 526}, {530, 532}, {540, 540}, {548, 548}, {554, 554}, {556, 556}, {563, 563}, {587, 587}, {601, 601}, {636, 636}, {989, 990}, {993, 993}, {995, 995}, {1719, 1720}, {1723, 1723}, {2049, 2049}, {3659, 3659}, {4045, 4045}, {4190, 4190}, {5060, 5061}, {6000, 6000}, {6566, 6566}, {6665, 6669}, {6679, 6679}, {6697, 6697}, {10080, 10080}}

var (
	special = []string{"http", "https", "ws", "wss", "ftp"}
	others  = []string{"a", "file", "data", "about", "blob", "javascript", "httpss", "htt", "http+s", "ftps", "sftp", "wsss", "w", "gopher", "irc", "h2"}
	dests   = []int{api.Plain, api.Script, api.Style, api.Image, api.Font, api.Frame}
)

// P14.1

func mustBeBad(t *testing.T, s string, want bool) {
	t.Helper()
	if got := mixed.Bad(at(t, s)); got != want {
		t.Errorf("Bad(%s): %v", s, got)
	}
}

// TestBadEdges: every port that is bad, and those just below and above it.
func TestBadEdges(t *testing.T) {
	for _, run := range bad {
		for _, scheme := range special {
			ahead := scheme + "://h:"
			for port := run[0]; port <= run[1]; port++ {
				if port != url.Own(scheme) {
					mustBeBad(t, ahead+strconv.Itoa(port)+"/", true)
				}
			}
			if run[0] > 0 {
				mustBeBad(t, ahead+strconv.Itoa(run[0]-1), false)
			}
			mustBeBad(t, ahead+strconv.Itoa(run[1]+1), false)
		}
	}
}

// TestBadAll: every port that there is, by every Special scheme, and by others.
func TestBadAll(t *testing.T) {
	count := 0
	for port := range 1 << 16 {
		_, found := slices.BinarySearchFunc(bad, port, func(run [2]int, port int) int {
			switch {
			case port < run[0]:
				return 1
			case port > run[1]:
				return -1
			}
			return 0
		})
		if found {
			count++
		}
		text := ":" + strconv.Itoa(port)
		for _, scheme := range special {
			own := port == url.Own(scheme)
			if u := at(t, scheme+"://h"+text+"/"); mixed.Bad(u) != (found && !own) {
				t.Fatalf("Bad(%s): %v", url.Text(u), mixed.Bad(u))
			}
		}
		if u := at(t, "a://h"+text+"/"); mixed.Bad(u) {
			t.Fatalf("Bad(%s): true", url.Text(u))
		}
	}
	if count != 83 {
		t.Errorf("%d ports are bad", count)
	}
}

// TestBadOwn: a scheme's own port, whether it is told or not.
func TestBadOwn(t *testing.T) {
	for _, s := range []string{"http://h", "http://h/", "http://h:/", "http://h:80/", "http://h:080/", "https://h/", "https://h:443/", "ws://h/", "ws://h:80/", "wss://h/", "wss://h:443/", "ftp://h/", "ftp://h:/", "ftp://h:21/", "ftp://h:0021/"} {
		mustBeBad(t, s, false)
	}
	for _, s := range []string{"http://h:21/", "https://h:21/", "ws://h:21/", "wss://h:21/", "ftp://h:20/", "ftp://h:22/", "ftp://h:990/"} {
		mustBeBad(t, s, true) // what is ftp's own is bad for others
	}
	for _, s := range []string{"http://h:443/", "https://h:80/", "ftp://h:80/", "ftp://h:443/", "http://h:8080/", "http://h:65535/"} {
		mustBeBad(t, s, false)
	}
}

func TestBadOthers(t *testing.T) {
	for _, scheme := range others {
		for _, rest := range []string{"x", "", "/x", "//h/", "//h:25/", "//h:0/", "//h:21/", "//h:6667/x?q#f", "//[::1]:22", "//", "25", ":25", "http://h:25/"} {
			mustBeBad(t, scheme+":"+rest, false)
		}
	}
}

// TestBadElsewhere: of an address the port alone is asked.
func TestBadElsewhere(t *testing.T) {
	for s, want := range map[string]bool{
		"http://h:6667/":              true, // the chapter's runs and its first example
		"http://h/":                   false,
		"data:x":                      false,
		"HTTP://U:P@H:6667/X?Q#F":     true,
		"http:h:25":                   true,
		"http:\\\\h:25\\x":            true,
		"http://h:0025/":              true,
		"http://h:00/":                true,
		"http://localhost:25/":        true,
		"https://127.0.0.1:25/":       true,
		"https://[::25]:22/":          true,
		"https://[::25]/":             false,
		"https://[::1:25]/":           false,
		"http://25/":                  false,
		"http://u:25@h/":              false,
		"http://u:25@h:81/":           false,
		"http://u:81@h:25/":           true,
		"http://h/:25":                false,
		"http://h/?:25":               false,
		"http://h/#:25":               false,
		"http://h.25.a/":              false,
		"http://h:256/":               false,
		"http://h:125/":               false,
		"http://h:6670/":              false,
		"http://h:6664/":              false,
		"http://h:1008/":              false,
		"http://h:10081/":             false,
		"blob:http://h:25/1":          false,
		"filesystem:http://h:25/t/":   false,
		"about:http://h:25/":          false,
		"data:text/html,http://h:25/": false,
	} {
		mustBeBad(t, s, want)
	}
	base := at(t, "http://u:p@h:25/x?q")
	for s, want := range map[string]bool{"": true, "/y": true, "?r": true, "#f": true, "//g": false, "//g:80": false, "//g:22/": true, "https://h/": false, "http:y": true, "data:x": false} {
		if u, why := url.Join(s, base); why != api.OK || mixed.Bad(u) != want {
			t.Errorf("Bad of %q, seen from %s: %v", s, url.Text(base), mixed.Bad(u))
		}
	}
}

// P14.2

// mustJudge: what becomes of an image, and of each other destination.
func mustJudge(t *testing.T, page, u string, image, rest int) {
	t.Helper()
	from, to := at(t, page), at(t, u)
	for _, dest := range append(slices.Clone(dests), 0, -1, 7, 100, -1<<63, 1<<62) {
		want := rest
		if dest == api.Image {
			want = image
		}
		if got := mixed.Judge(from, to, dest); got != want {
			t.Errorf("Judge(%s, %s, %d): %d, not %d", page, u, dest, got, want)
		}
	}
}

func TestNumbers(t *testing.T) {
	if mixed.Fine != 1 || mixed.Upgrade != 2 || mixed.Block != 3 {
		t.Error("the numbers are others")
	}
}

// TestRuns: the chapter's, and its second example.
func TestRuns(t *testing.T) {
	a, b := at(t, "https://a/"), at(t, "http://b/")
	if got := mixed.Judge(a, b, api.Script); got != mixed.Block {
		t.Errorf("a script: %d", got)
	}
	if got := mixed.Judge(a, b, api.Image); got != mixed.Upgrade {
		t.Errorf("an image: %d", got)
	}
	for _, dest := range dests {
		if got := mixed.Judge(at(t, "http://a/"), b, dest); got != mixed.Fine {
			t.Errorf("by a page that is not https, %d: %d", dest, got)
		}
		if got := mixed.Judge(a, at(t, "http://localhost/"), dest); got != mixed.Fine {
			t.Errorf("localhost, %d: %d", dest, got)
		}
	}
}

// TestJudgePages: no page but one that is https is asked anything.
func TestJudgePages(t *testing.T) {
	unsafe := []string{"http://b/", "ws://b/", "http://1.2.3.4/", "http://[::2]/", "ws://1.2.3.4/"}
	for _, page := range []string{"http://a/", "http://localhost/", "http://127.0.0.1/", "http://b/", "ws://a/", "wss://a/", "ftp://a/", "data:x", "about:blank", "about:srcdoc", "blob:https://a/1", "file:///x", "a:x", "a://a/", "httpss://a/", "h:x"} {
		for _, u := range unsafe {
			mustJudge(t, page, u, mixed.Fine, mixed.Fine)
		}
	}
	for _, page := range []string{"https://a/", "HTTPS://u:p@a:81/x?q#f", "https:localhost", "https://[::1]/", "https://b/", "https://1.2.3.4/"} {
		mustJudge(t, page, "http://b/", mixed.Upgrade, mixed.Block)
		for _, u := range unsafe[1:] {
			mustJudge(t, page, u, mixed.Block, mixed.Block)
		}
	}
}

// TestJudgePlaces: by a page that is https.
func TestJudgePlaces(t *testing.T) {
	for _, u := range []string{"https://b/", "https://a/", "https://1.2.3.4/", "https://[::2]:25/", "wss://b/", "wss://1.2.3.4/", "data:x", "data:http://b/", "about:blank", "ftp://b/", "ftp://1.2.3.4/", "file:///x", "a:x", "a://b/", "a:/x", "http+s://b/", "htt://b/", "httpss://b/", "w:s", "javascript:x",
		"blob:https://a/1", "blob:http://b/1", "blob:http://1.2.3.4/1", "blob:ws://b/", "blob:x", "blob:", "blob:blob:http://b/",
		"http://localhost/", "http://LOCALHOST:81/x", "http://b.localhost/", "http://b.c.localhost:8/", "http://127.0.0.1/", "http://127.255.9.8:8/", "http://0x7f.1/", "http://127.1/", "http://2130706433/", "http://127../", "http://[::1]/", "http://[0:0::1]:8/", "http://.localhost/",
		"ws://localhost/", "ws://b.localhost/", "ws://127.0.0.1/", "ws://[::1]/", "ws://0177.1/"} {
		mustJudge(t, "https://a/", u, mixed.Fine, mixed.Fine)
	}
	for _, u := range []string{"http://b/", "http://a/", "HTTP://B.C:81/x?q#f", "http:b", "http:\\\\b", "http://u:p@b/", "http://b:443/", "http://b:80/", "http://b:25/", "http://1a/", "http://a1/", "http://1.a/", "http://1.2.3.4a/", "http://1.2.3.a4/", "http://127.0.0.1.b/", "http://128.a/", "http://1-1/", "http://-/", "http://1_/", "http://0y1/", "http://~/", "http://1.2.3.4.x./", "http://b./", "http://b../", "http://.b/", "http://xlocalhost/", "http://localhost./", "http://localhost.b/", "http://localhostb/", "http://127.b/", "http://https/", "http://localhost:p@b/", "http://b/localhost", "http://b/?[::1]", "http://b/#@localhost", "http://1.2.3.4@b/", "http://%62/", "http://1%2E2.3.%62/"} {
		mustJudge(t, "https://a/", u, mixed.Upgrade, mixed.Block)
	}
	for _, u := range []string{"http://1.2.3.4/", "http://1.2.3.4:443/", "http://0/", "http://0.0.0.0/", "http://255.255.255.255/", "http://126.255.255.255/", "http://128.0.0.1/", "http://1/", "http://0x10/", "http://0x/", "http://1.2.3.4./", "http://010.1/", "http://%31.2/", "http://u:b@1.2.3.4/b", "http://./", "http://../", "http://1../", "http://.1../", "http://1..2../", "http://12../",
		"http://[::2]/", "http://[::]/", "http://[1::1]:81/", "http://[::127.0.0.1]/", "http://[::ffff:1.2.3.4]/", "http://[a::b]/", "http://[::1:1]/"} {
		mustJudge(t, "https://a/", u, mixed.Block, mixed.Block)
	}
	for _, u := range []string{"ws://b/", "WS://B:81/x", "ws://a/", "ws://b:443/", "ws://1a/", "ws://1.2.3.4/", "ws://[::2]/", "ws://localhost.b/", "ws://128.0.0.1/"} {
		mustJudge(t, "https://a/", u, mixed.Block, mixed.Block)
	}
}

// P14.3

func mustRaise(t *testing.T, s, want string) {
	t.Helper()
	u := at(t, s)
	before := url.Text(u)
	if got := url.Text(mixed.Raise(u)); got != want {
		t.Errorf("Raise(%s): %s, not %s", s, got, want)
	}
	if url.Text(u) != before {
		t.Errorf("%s became %s", before, url.Text(u))
	}
}

func TestRaisePorts(t *testing.T) {
	for scheme, next := range map[string]string{"http": "https", "ws": "wss"} {
		for port, want := range map[string]string{"": "", ":": "", ":443": "", ":0443": "", ":80": "", ":080": "", ":81": ":81", ":79": ":79", ":442": ":442", ":444": ":444", ":0": ":0", ":65535": ":65535", ":8080": ":8080", ":8443": ":8443", ":4430": ":4430", ":21": ":21"} {
			for rest, parts := range map[string]string{"": "/", "/": "/", "/x/../y": "/y", "?q": "/?q", "/x?q#f": "/x?q#f", "/?#": "/?#", "//": "//", "/443:443": "/443:443"} {
				mustRaise(t, scheme+"://h"+port+rest, next+"://h"+want+parts)
				mustRaise(t, scheme+"://u:p@h"+port+rest, next+"://u:p@h"+want+parts)
				mustRaise(t, scheme+"://[::2]"+port+rest, next+"://[::2]"+want+parts)
			}
		}
	}
	mustRaise(t, "http://h/", "https://h/") // the chapter's third example
	if u := mixed.Raise(at(t, "http://h:443/")); u.Port != -1 {
		t.Errorf("443 became %d", u.Port)
	}
	if u := mixed.Raise(at(t, "http://h:80/")); u.Port != -1 {
		t.Errorf("none became %d", u.Port)
	}
}

// TestRaisePort80: a number that stands in an address is not the new scheme's own, and stays.
func TestRaisePort80(t *testing.T) {
	for scheme, next := range map[string]string{"http": "https", "ws": "wss"} {
		u := at(t, scheme+"://h/")
		u.Port = 80
		if got := mixed.Raise(u); got.Scheme != next || got.Port != 80 {
			t.Errorf("%s, 80: %s, %d", scheme, got.Scheme, got.Port)
		}
	}
}

// TestRaiseOthers: as they are.
func TestRaiseOthers(t *testing.T) {
	for _, s := range []string{"https://h/", "https://h:80/", "https://u:p@h:81/x?q#f", "wss://h/", "wss://h:80/", "ftp://h/", "ftp://h:443/", "ftp://h:80/x", "data:x", "data:http://h/", "about:blank", "blob:http://h/1", "blob:ws://h:443/1?q#f", "file:///x", "a:", "a:x", "a:/x", "a://h:443/", "a://h:80/x?q#f", "a:/.//x", "httpss://h:443/", "htt://h:443/", "w:s", "http+s://h:443/x", "wsss://h:443/"} {
		mustRaise(t, s, s)
		if u := at(t, s); !alike(u, mixed.Raise(u)) {
			t.Errorf("%s: %+v", s, mixed.Raise(u))
		}
	}
	mustRaise(t, "https://h:443/", "https://h/")
	mustRaise(t, "ftp://h:21/", "ftp://h/")
}

// alike: field by field.
func alike(a, b api.URL) bool {
	return a.Scheme == b.Scheme && a.User == b.User && a.Pass == b.Pass && a.Host == b.Host && a.HasHost == b.HasHost && a.Port == b.Port && a.Opaque == b.Opaque && slices.Equal(a.Path, b.Path) && a.Query == b.Query && a.Fragment == b.Fragment && a.HasQuery == b.HasQuery && a.HasFragment == b.HasFragment
}

// TestRaiseParses: what is raised is the address that its text is.
func TestRaiseParses(t *testing.T) {
	for _, s := range []string{"http://h/", "http://h:443/x", "http://u:p@h:81/x/?q'#f`", "ws://h:443", "ws:[::1]:80/x?", "http://1.2.3.4/#", "https://h:80/", "a://h:443/", "data:x", "ftp://h"} {
		u := mixed.Raise(at(t, s))
		if again := at(t, url.Text(u)); !alike(u, again) {
			t.Errorf("Raise(%s): %+v, not %+v", s, u, again)
		}
		if !alike(u, mixed.Raise(u)) {
			t.Errorf("Raise(%s), raised again: %+v", s, mixed.Raise(u))
		}
	}
}

// TestRaiseLong: an address may grow by a byte past what is parsed.
func TestRaiseLong(t *testing.T) {
	rest := "://h/" + strings.Repeat("x", 4096-9)
	mustRaise(t, "http"+rest, "https"+rest)
	rest += "xx"
	mustRaise(t, "ws"+rest, "wss"+rest)
}

// P14.4

func TestRaisedIsFine(t *testing.T) {
	for _, page := range []string{"https://a/", "https://b:81/", "http://a/", "data:x", "wss://a/"} {
		from := at(t, page)
		for _, s := range []string{"http://b/", "http://a/", "http://b:443/", "http://b:25/", "http://1.2.3.4/", "http://[::2]/", "http://localhost/", "ws://b/", "ws://1.2.3.4:81/", "ws://[::2]:443", "https://b/", "wss://b/", "ftp://b/", "data:x", "blob:http://b/1", "blob:x", "a:x", "file:///x", "http://./"} {
			for _, dest := range append(slices.Clone(dests), 0, -1, 99) {
				if got := mixed.Judge(from, mixed.Raise(at(t, s)), dest); got != mixed.Fine {
					t.Errorf("Judge(%s, Raise(%s), %d): %d", page, s, dest, got)
				}
			}
		}
	}
}
