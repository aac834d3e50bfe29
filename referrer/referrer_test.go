package referrer_test

import (
	"maps"
	"slices"
	"strings"
	"testing"

	"ostiary/api"
	"ostiary/referrer"
	"ostiary/url"
)

func at(t *testing.T, s string) api.URL {
	t.Helper()
	u, why := url.Parse(s)
	if why != api.OK {
		t.Fatalf("Parse(%.60q): %v", s, why)
	}
	return u
}

// known: each policy, with what it tells where the origin is the same, where it is another one, and where that is less safe: all (a), the origin only (o), nothing (-).
var known = map[string]string{
	"no-referrer":                     "---",
	"no-referrer-when-downgrade":      "aa-",
	"same-origin":                     "a--",
	"origin":                          "ooo",
	"strict-origin":                   "oo-",
	"origin-when-cross-origin":        "aoo",
	"strict-origin-when-cross-origin": "ao-",
	"unsafe-url":                      "aaa",
}

// names: those of the policies, in order.
var names = slices.Sorted(maps.Keys(known))

// unknown: texts that are nearly the name of a policy, or not at all.
var unknown = nearly()

func nearly() []string {
	out := []string{"", " ", "-", ",", "x", "old", "never", "always", "default", "none", "no", "referrer", "no-referer", "strict", "strict-same-origin", "cross-origin", "origin-when-crossorigin", "origin-when-cross", "when-downgrade", "origin,origin", "origin, no-referrer", "origin;", "\"origin\"", "'origin'", "unsafe_url", "unsafeurl", "null", "\x00", "\xff", "ſame-origin", "orıgin", "same‐origin"}
	for _, name := range names {
		out = append(out, " "+name, name+" ", "\t"+name, name+"\n", name+"\x00", name+"-", "-"+name, name[1:], name[:len(name)-1], name+name, name+"\xff", strings.ToUpper(name), strings.ToUpper(name[:1])+name[1:], name[:len(name)-1]+strings.ToUpper(name[len(name)-1:]), strings.ReplaceAll(name, "-", "_"), strings.ReplaceAll(name, "-", " "))
	}
	return slices.DeleteFunc(out, func(s string) bool { return known[s] != "" })
}

// P13.1: Known

func TestKnown(t *testing.T) {
	if len(known) != 8 {
		t.Fatal("there are eight")
	}
	for name := range known {
		if !referrer.Known(name) {
			t.Errorf("Known(%q): false", name)
		}
	}
	for _, s := range unknown {
		if referrer.Known(s) {
			t.Errorf("Known(%q): true", s)
		}
	}
	if referrer.Known("Origin") { // the chapter's second example
		t.Error("Known(Origin): true")
	}
}

// P13.1: Strip

func mustStrip(t *testing.T, u api.URL, all, only string) {
	t.Helper()
	if got := referrer.Strip(u, false); got != all {
		t.Errorf("Strip(%.60q, false): %.60q of %d bytes, not %.60q of %d", url.Text(u), got, len(got), all, len(all))
	}
	if got := referrer.Strip(u, true); got != only {
		t.Errorf("Strip(%.60q, true): %.60q, not %.60q", url.Text(u), got, only)
	}
}

func TestStrip(t *testing.T) {
	for _, c := range []struct{ u, all, only string }{
		{"https://a/x", "https://a/x", "https://a/"},
		{"http://a/x", "http://a/x", "http://a/"},
		{"HTTPS://A.B/x", "https://a.b/x", "https://a.b/"},
		{"https://a", "https://a/", "https://a/"},
		{"https://a/x/y/../z//", "https://a/x/z//", "https://a/"},
		{"https://a//x", "https://a//x", "https://a/"},

		{"https://a/x?q", "https://a/x?q", "https://a/"}, // a query is told, an empty one too
		{"https://a/x?", "https://a/x?", "https://a/"},
		{"https://a?q", "https://a/?q", "https://a/"},
		{"https://a/x?q'r s", "https://a/x?q%27r%20s", "https://a/"},

		{"https://a/x#y", "https://a/x", "https://a/"}, // a fragment is not, nor its mark
		{"https://a/x#", "https://a/x", "https://a/"},
		{"https://a/x?q#y", "https://a/x?q", "https://a/"},
		{"https://a#?q", "https://a/", "https://a/"},

		{"https://u:p@a/x", "https://a/x", "https://a/"}, // nor a name or a password, nor their marks
		{"https://u@a/x", "https://a/x", "https://a/"},
		{"https://:p@a/x", "https://a/x", "https://a/"},
		{"https://@a/x", "https://a/x", "https://a/"},
		{"https://u:@a/x", "https://a/x", "https://a/"},
		{"https://a@b:c@h/x", "https://h/x", "https://h/"},
		{"http://u:p@h:81/x?q#y", "http://h:81/x?q", "http://h:81/"},
		{"https://a/u:p@b/#y", "https://a/u:p@b/", "https://a/"}, // what stands elsewhere is no name
		{"https://a/?u:p@b", "https://a/?u:p@b", "https://a/"},

		{"https://a:443/x", "https://a/x", "https://a/"}, // ports
		{"http://a:80/x", "http://a/x", "http://a/"},
		{"https://a:80/x", "https://a:80/x", "https://a:80/"},
		{"http://a:443/x", "http://a:443/x", "http://a:443/"},
		{"http://a:0/x", "http://a:0/x", "http://a:0/"},
		{"http://a:65535/x", "http://a:65535/x", "http://a:65535/"},
		{"https://a:/x", "https://a/x", "https://a/"},

		{"http://0x7f.1/x", "http://127.0.0.1/x", "http://127.0.0.1/"}, // hosts
		{"http://[0::1]:8/x", "http://[::1]:8/x", "http://[::1]:8/"},

		{"data:x", "", ""}, // the chapter's first example, and other schemes
		{"data:text/html,https://a/x", "", ""},
		{"about:blank", "", ""},
		{"about:srcdoc", "", ""},
		{"blob:https://a/1", "", ""},
		{"blob:http://u:p@a/1", "", ""},
		{"ftp://a/x", "", ""},
		{"ws://a/x", "", ""},
		{"wss://a/x", "", ""},
		{"file:///x", "", ""},
		{"a:x", "", ""},
		{"a:/x", "", ""},
		{"a://u:p@h:81/x?q#y", "", ""},
		{"httpss://a/x", "", ""},
		{"htt://a/x", "", ""},
		{"http+s://a/x", "", ""},
		{"h:x", "", ""},
	} {
		mustStrip(t, at(t, c.u), c.all, c.only)
	}
}

// TestStripJoined: of addresses that Join answered.
func TestStripJoined(t *testing.T) {
	base := at(t, "https://u:p@a:81/x/y?q#f")
	for s, want := range map[string][2]string{
		"":          {"https://a:81/x/y?q", "https://a:81/"},
		"#g":        {"https://a:81/x/y?q", "https://a:81/"},
		"../z?r#g":  {"https://a:81/z?r", "https://a:81/"},
		"//b":       {"https://b/", "https://b/"},
		"//v:w@b/c": {"https://b/c", "https://b/"},
		"http:c":    {"http://c/", "http://c/"},
		"data:x":    {},
		"wss://a/x": {},
	} {
		u, why := url.Join(s, base)
		if why != api.OK {
			t.Fatalf("Join(%q): %v", s, why)
		}
		mustStrip(t, u, want[0], want[1])
	}
}

// TestStripLong: what is longer than MaxText bytes is told as its origin; what is not told does not count.
func TestStripLong(t *testing.T) {
	for _, c := range []struct {
		ahead, part, behind string
		times, length       int // of Bare without User and Pass
	}{
		{"https://a/", "b", "", 4085, 4095},
		{"https://a/", "b", "", 4086, 4096},
		{"https:a/", "b", "", 4086, 4096}, // it is written with two bytes more than it was read with
		{"https:a/", "b", "", 4087, 4097},
		{"https:a/", "b", "", 4088, 4098},
		{"https:a", "/", "", 4087, 4096},
		{"https:a", "/", "", 4088, 4097},
		{"https:a?", "b", "", 4085, 4096}, // with a `/` more yet
		{"https:a?", "b", "", 4086, 4097},
		{"https:a:8/", "b", "", 4084, 4096},
		{"https:a:8/", "b", "", 4085, 4097},
		{"https://a/", "é", "", 681, 4096}, // six bytes are told for two
		{"https://a/", "é", "b", 681, 4097},
		{"https://a/?", "'", "", 1361, 4094},
		{"https://a/?", "'", "bb", 1361, 4096},
		{"https://a/?", "'", "bbb", 1361, 4097},
		{"https:u:p@a/", "b", "", 4084, 4094},
		{"https:u:p@a/", "é", "", 681, 4096},
		{"https:u:p@a/", "é", "b", 681, 4097},
		{"https:u:p@a/", "é", "#", 681, 4096},
		{"https:u:p@a/", "é", "#" + strings.Repeat("é", 1000), 681, 4096},
		{"https:u:p@a/", "é", "b#", 681, 4097},
		{"https://" + strings.Repeat("@", 1400) + "a/", "b", "", 2600, 2610}, // a name that is longer than all of it may be
		{"https://:" + strings.Repeat("@", 1400) + "a/", "b", "", 2600, 2610},
		{"https://a/", "b", "#" + strings.Repeat(" ", 3000) + "c", 1000, 1010},
	} {
		u := at(t, c.ahead+strings.Repeat(c.part, c.times)+c.behind)
		only := "https://a/"
		if u.Port != -1 {
			only = "https://a:8/"
		}
		bare := u
		bare.User, bare.Pass = "", ""
		all := url.Bare(bare)
		if len(all) != c.length {
			t.Fatalf("%.20q %d times: %d bytes", c.ahead, c.times, len(all))
		}
		if c.length > 4096 {
			all = only
		}
		mustStrip(t, u, all, only)
		for policy, tells := range known {
			want := map[byte]string{'a': all, 'o': only}[tells[0]]
			if got := referrer.Of(policy, u, u); got != want {
				t.Errorf("%s of %.20q, %d bytes: %.60q", policy, c.ahead, c.length, got)
			}
		}
	}
}

// TestStripLongOrigin: the origin is told, however long it is.
func TestStripLongOrigin(t *testing.T) {
	host := strings.Repeat("a", 4090)
	mustStrip(t, at(t, "https:"+host), "https://"+host+"/", "https://"+host+"/")
	mustStrip(t, at(t, "http:"+host+"/"), "http://"+host+"/", "http://"+host+"/")
	host = host[:4080]
	mustStrip(t, at(t, "https:"+host+"/?b"), "https://"+host+"/?b", "https://"+host+"/")
	mustStrip(t, at(t, "https:"+host+"/?bcdefg"), "https://"+host+"/?bcdefg", "https://"+host+"/")
	mustStrip(t, at(t, "https:"+host+"/?bcdefgh"), "https://"+host+"/", "https://"+host+"/")
}

// P13.2

// mustTell: what each policy tells of page to what stands at to; how is 0 for the same origin, 1 for another one, 2 for a less safe one.
func mustTell(t *testing.T, page, to string, how int) {
	t.Helper()
	from, there := at(t, page), at(t, to)
	told := map[byte]string{'a': referrer.Strip(from, false), 'o': referrer.Strip(from, true)}
	for policy, tells := range known {
		if got, want := referrer.Of(policy, from, there), told[tells[how]]; got != want {
			t.Errorf("Of(%s, %s, %s): %q, not %q", policy, page, to, got, want)
		}
	}
	want := told[known["strict-origin-when-cross-origin"][how]]
	for _, policy := range unknown {
		if got := referrer.Of(policy, from, there); got != want {
			t.Errorf("Of(%q, %s, %s): %q, not %q", policy, page, to, got, want)
		}
	}
}

// TestRuns: the chapter's.
func TestRuns(t *testing.T) {
	page := at(t, "https://a/x#y")
	for to, want := range map[string]string{"https://a/z": "https://a/x", "https://b/": "https://a/", "http://b/": ""} {
		if got := referrer.Of("", page, at(t, to)); got != want {
			t.Errorf("Of(``, https://a/x#y, %s): %q, not %q", to, got, want)
		}
	}
	if got := referrer.From([]api.Header{{Name: "referrer-policy", Value: "origin, x"}}, "y"); got != "origin" {
		t.Errorf("From: %q", got)
	}
}

// TestUnsafe: the chapter's third example.
func TestUnsafe(t *testing.T) {
	page := at(t, "https://a/x?q#y")
	for _, to := range []string{"https://a/z", "https://b/", "http://b/", "data:x", "a:x"} {
		if got := referrer.Of("unsafe-url", page, at(t, to)); got != "https://a/x?q" {
			t.Errorf("to %s: %q", to, got)
		}
	}
}

// TestEachPolicy: written out, so that it hangs on no other call.
func TestEachPolicy(t *testing.T) {
	const all, only = "https://a:8/x?q", "https://a:8/"
	page := at(t, "https://u:p@a:8/x?q#y")
	for policy, want := range map[string][3]string{
		"no-referrer":                     {"", "", ""},
		"no-referrer-when-downgrade":      {all, all, ""},
		"same-origin":                     {all, "", ""},
		"origin":                          {only, only, only},
		"strict-origin":                   {only, only, ""},
		"origin-when-cross-origin":        {all, only, only},
		"strict-origin-when-cross-origin": {all, only, ""},
		"unsafe-url":                      {all, all, all},
		"":                                {all, only, ""},
		"Origin":                          {all, only, ""},
		"NO-REFERRER":                     {all, only, ""},
		"Unsafe-Url":                      {all, only, ""},
		" no-referrer":                    {all, only, ""},
		"x":                               {all, only, ""},
	} {
		for i, to := range []string{"https://a:8/z", "https://a/z", "http://a:8/z"} {
			if got := referrer.Of(policy, page, at(t, to)); got != want[i] {
				t.Errorf("Of(%q, .., %s): %q, not %q", policy, to, got, want[i])
			}
		}
	}
}

func TestOfSafe(t *testing.T) {
	for to, how := range map[string]int{
		"https://a/x":            0,
		"https://a/z?r#g":        0,
		"https://A:443":          0,
		"https://v:w@a/":         0,
		"blob:https://a/1":       0, // a blob has the origin of who made it
		"blob:https://v:w@a/1?r": 0,

		"https://b/x?q":         1,
		"https://a.b/":          1,
		"https://b.a/":          1,
		"https://a:444/x":       1,
		"https://a:80/x":        1,
		"wss://a/x":             1,
		"wss://b/":              1,
		"data:x":                1,
		"about:blank":           1,
		"http://localhost/":     1,
		"http://localhost:81/":  1,
		"http://b.localhost/":   1,
		"http://127.0.0.1/":     1,
		"http://127.255.0.9:8/": 1,
		"http://0x7f.1/":        1,
		"http://[::1]/":         1,
		"http://[0::1]:8/":      1,
		"ws://localhost/":       1,
		"ftp://127.1/":          1,
		"a://localhost/":        1,
		"blob:https://b/1":      1,
		"blob:wss://a/1":        1,
		"blob:http://localhost": 1,
		"blob:data:x":           1,

		"http://a/x?q":            2, // the same host is another place, if what comes from there may have been changed
		"http://a:443/":           2,
		"http://b/":               2,
		"http://https/":           2,
		"ws://a/x":                2,
		"ws://b/":                 2,
		"ftp://a/":                2,
		"file:///x":               2,
		"file:x":                  2,
		"a:x":                     2,
		"a://a/x":                 2,
		"javascript:x":            2,
		"http://localhost.b/":     2,
		"http://xlocalhost/":      2,
		"http://128.0.0.1/":       2,
		"http://127.0.0.1.b/":     2,
		"http://[::2]/":           2,
		"http://localhost:p@b/":   2,
		"http://b/?@localhost/":   2,
		"blob:http://a/1":         2,
		"blob:ws://b/":            2,
		"blob:x":                  2,
		"blob:":                   2,
		"blob://a/":               2,
		"blob:/a":                 2,
		"blob:blob:http://b/1":    2,
		"filesystem:https://a/t/": 2,
	} {
		mustTell(t, "https://a/x?q", to, how)
		mustTell(t, "https://u:p@a:443/x?q#y", to, how)
	}
}

// TestOfUnsafe: nothing is less safe than a page that is not https.
func TestOfUnsafe(t *testing.T) {
	for to, how := range map[string]int{
		"http://a/x":          0,
		"http://a/z?r#g":      0,
		"http://A:80":         0,
		"http://v:w@a/":       0,
		"blob:http://a/1":     0,
		"http://b/":           1,
		"http://a:81/":        1,
		"http://a:443/":       1,
		"https://a/x":         1,
		"https://a:80/":       1,
		"https://b/":          1,
		"ws://a/":             1,
		"wss://a/":            1,
		"ftp://a/":            1,
		"data:x":              1,
		"a:x":                 1,
		"file:///x":           1,
		"http://localhost/":   1,
		"http://127.0.0.1/":   1,
		"blob:https://a/1":    1,
		"blob:x":              1,
		"blob:http://a:81/1":  1,
		"http://a.b/x":        1,
		"http://u:p@b.a:81/x": 1,
	} {
		mustTell(t, "http://a/x?q", to, how)
		mustTell(t, "http://u:p@a:80/x?q#y", to, how)
	}
	mustTell(t, "http://localhost/x", "http://b/", 1) // that it is near does not make it https
	mustTell(t, "http://127.0.0.1/x", "http://b/", 1)
	mustTell(t, "https://localhost/x", "http://b/", 2)
	mustTell(t, "https://localhost/x", "http://localhost/", 1)
	mustTell(t, "https://127.0.0.1/x", "https://127.1/", 0)
	mustTell(t, "http://[::1]:8/x", "http://[0::1]:8/y", 0)
}

// TestOfOthers: of a page that is neither http nor https nothing is told, not even to itself.
func TestOfOthers(t *testing.T) {
	pages := []string{"data:x", "about:blank", "blob:https://a/1", "blob:http://a/1", "ftp://a/x", "ws://a/x", "wss://a/x", "file:///x", "a:x", "a://u:p@a/x"}
	for _, page := range pages {
		for _, to := range append(pages, "https://a/x", "http://a/x", "https://b/", "http://localhost/") {
			for _, policy := range slices.Concat(unknown, names) {
				if got := referrer.Of(policy, at(t, page), at(t, to)); got != "" {
					t.Errorf("Of(%q, %s, %s): %q", policy, page, to, got)
				}
			}
		}
	}
}

// P13.3

// list: headers of names and values by turns.
func list(words ...string) []api.Header {
	var out []api.Header
	for i := 0; i+1 < len(words); i += 2 {
		out = append(out, api.Header{Name: words[i], Value: words[i+1]})
	}
	return out
}

const header = "Referrer-Policy"

func mustName(t *testing.T, l []api.Header, want string) {
	t.Helper()
	for _, old := range []string{"", "old", "origin", "same-origin", "Origin", "x, y", "\xff\x00"} {
		wanted := want
		if want == "" {
			wanted = old
		}
		if got := referrer.From(l, old); got != wanted {
			t.Errorf("From(%q, %q): %q, not %q", l, old, got, wanted)
		}
	}
}

func TestFromEach(t *testing.T) {
	for name := range known {
		mustName(t, list(header, name), name)
		mustName(t, list(header, strings.ToUpper(name)), name)
		mustName(t, list(header, strings.ToUpper(name[:1])+name[1:]), name)
		mustName(t, list(header, "x, "+name), name)
		mustName(t, list(header, name+", x"), name)
		mustName(t, list(header, "\t "+name+" \t"), name)
		mustName(t, list(header, name+","), name)
		mustName(t, list(header, ","+name), name)
		mustName(t, list(header, name+" x"), "")
		mustName(t, list(header, name+";"), "")
		mustName(t, list(header, `"`+name+`"`), "")
		mustName(t, list(header, "'"+name+"'"), "")
		mustName(t, list(header, name+"\n"), "")
		mustName(t, list(header, "\r"+name), "")
		mustName(t, list(header, "\f"+name), "")
		mustName(t, list(header, name+"\x00"), "")
		mustName(t, list(header, name+"\u00a0"), "")
		for other := range known {
			mustName(t, list(header, name+","+other), other)
			mustName(t, list(header, name, header, strings.ToUpper(other)), other)
			mustName(t, list(header, name+", "+other+", x,", "y", name, header, "z"), other)
		}
	}
	for _, s := range unknown {
		if !referrer.Known(strings.ToLower(strings.Trim(s, "\t "))) && !strings.Contains(s, ",") {
			mustName(t, list(header, s), "")
			mustName(t, list(header, "origin, "+s), "origin")
		}
	}
}

func TestFrom(t *testing.T) {
	for _, c := range []struct {
		l    []api.Header
		want string // the empty one: the old one
	}{
		{nil, ""},
		{list(header, ""), ""},
		{list(header, ","), ""},
		{list(header, " , \t,,"), ""},
		{list(header, "x"), ""},
		{list(header, "x, y", header, "z"), ""},
		{list(header, "origin, x"), "origin"},
		{list(header, "origin, unsafe-url"), "unsafe-url"},
		{list(header, "unsafe-url, origin"), "origin"},
		{list(header, "origin,no-referrer,same-origin"), "same-origin"},
		{list(header, "origin,no-referrer,same-origin,x,,y"), "same-origin"},
		{list(header, "OriGin, NO-referrer"), "no-referrer"},
		{list(header, "no-referrer, origin unsafe-url"), "no-referrer"}, // what a blank parts is one piece

		{list(header, "origin", header, "unsafe-url"), "unsafe-url"}, // several headers
		{list(header, "unsafe-url", header, "origin"), "origin"},
		{list(header, "origin", header, "x"), "origin"},
		{list(header, "origin", header, ""), "origin"},
		{list(header, "x", header, "origin"), "origin"},
		{list(header, "", header, "origin"), "origin"},
		{list(header, "origin, same-origin", header, "strict-origin, x", header, "y"), "strict-origin"},
		{list(header, "no-", header, "referrer"), ""},
		{list(header, "origin", header, "-when-cross-origin"), "origin"},

		{list("referrer-policy", "origin", "REFERRER-POLICY", "unsafe-url"), "unsafe-url"}, // names
		{list("rEFERRER-pOLICY", "origin"), "origin"},
		{list("referrer", "origin"), ""},
		{list("referer-policy", "origin"), ""},
		{list("referrer-policys", "origin", "x-referrer-policy", "origin", "referrer_policy", "origin"), ""},
		{list(" referrer-policy", "origin", "referrer-policy ", "origin", "", "origin"), ""},
		{list("x", "unsafe-url", header, "origin", "Referer-Policy", "no-referrer"), "origin"},
		{list("origin", header), ""},

		{list(header, `origin, "x, same-origin`), "origin"}, // what stands in quotes is one piece
		{list(header, `origin, "x, same-origin", y`), "origin"},
		{list(header, `origin, "x, same-origin", no-referrer`), "no-referrer"},
		{list(header, `origin, "x\", same-origin", no-referrer`), "no-referrer"},
		{list(header, `"x\\", same-origin`), "same-origin"},
		{list(header, `"x\", same-origin`), ""},
		{list(header, `"origin"`), ""},
		{list(header, `origin "", x`), ""},
		{list(header, `origin, "x`, header, `same-origin`), "origin"},
		{list(header, `"x`, header, `y", no-referrer`), "no-referrer"},
		{list(header, `'x, same-origin'`), ""},
		{list(header, `'x, same-origin, y'`), "same-origin"},
	} {
		mustName(t, c.l, c.want)
	}
}

// TestFromToOf: what From answers goes on to Of, from a page's reply on to the next one's.
func TestFromToOf(t *testing.T) {
	page, to := at(t, "https://u:p@a/x?q#y"), at(t, "http://b/")
	policy := "not yet known"
	for _, c := range []struct{ value, want string }{
		{"x", ""},
		{"Origin", "https://a/"},
		{"x, origin-when-", "https://a/"},
		{"strict-origin, UNSAFE-URL", "https://a/x?q"},
		{"", "https://a/x?q"},
		{"unsafe-url, no-referrer-when-downgrade", ""},
	} {
		policy = referrer.From(list(header, c.value), policy)
		if got := referrer.Of(policy, page, to); got != c.want {
			t.Errorf("behind %q, by %q: %q, not %q", c.value, policy, got, c.want)
		}
	}
}
