package preflight_test

import (
	"math"
	"slices"
	"strconv"
	"strings"
	"testing"

	"ostiary/api"
	"ostiary/preflight"
)

const (
	allow   = "access-control-allow-origin"
	with    = "access-control-allow-credentials"
	methods = "access-control-allow-methods"
	names   = "access-control-allow-headers"
	most    = "access-control-max-age"
)

var self = api.Origin{Scheme: "https", Host: "a", Port: 443}

// list: headers of names and values in turn.
func list(words ...string) []api.Header {
	var l []api.Header
	for i := 0; i+1 < len(words); i += 2 {
		l = append(l, api.Header{Name: words[i], Value: words[i+1]})
	}
	return l
}

// reply: one that permits self, with credentials too, and says these headers.
func reply(words ...string) api.Reply {
	return api.Reply{Status: 204, Headers: list(append([]string{allow, "https://a", with, "true"}, words...)...)}
}

// sizes: a word in each choice of large and small letters.
func sizes(word string) []string {
	out := []string{""}
	for i := range len(word) {
		var longer []string
		for _, s := range out {
			longer = append(longer, s+strings.ToLower(word[i:i+1]), s+strings.ToUpper(word[i:i+1]))
		}
		out = longer
	}
	return out
}

// granted: a Grant as one text: methods, names, whether all names, age.
func granted(g preflight.Grant) string {
	return strings.Join(g.Methods, " ") + "|" + strings.Join(g.Names, " ") + "|" + strconv.FormatBool(g.All) + "|" + strconv.FormatInt(g.Age, 10)
}

func mustRead(t *testing.T, cred bool, method string, unsafe []string, r api.Reply, want string) {
	t.Helper()
	if g, ok := preflight.Read(self, cred, method, unsafe, r); granted(g) != want || !ok {
		t.Errorf("Read(.., %v, %q, %q, %+v): %q, %v, not %q", cred, method, unsafe, r, granted(g), ok, want)
	}
}

// mustNotRead: beside a false everything is zero.
func mustNotRead(t *testing.T, cred bool, method string, unsafe []string, r api.Reply) {
	t.Helper()
	if g, ok := preflight.Read(self, cred, method, unsafe, r); granted(g) != "||false|0" || ok {
		t.Errorf("Read(.., %v, %q, %q, %+v): %q, %v", cred, method, unsafe, r, granted(g), ok)
	}
}

// mustReadIf: granted without credentials, if without, and with them, if credit.
func mustReadIf(t *testing.T, method string, unsafe []string, r api.Reply, without, credit bool) {
	t.Helper()
	if _, ok := preflight.Read(self, false, method, unsafe, r); ok != without {
		t.Errorf("Read(.., false, %q, %q, %+v): %v", method, unsafe, r, ok)
	}
	if _, ok := preflight.Read(self, true, method, unsafe, r); ok != credit {
		t.Errorf("Read(.., true, %q, %q, %+v): %v", method, unsafe, r, ok)
	}
	if !without {
		mustNotRead(t, false, method, unsafe, r)
	}
	if !credit {
		mustNotRead(t, true, method, unsafe, r)
	}
}

// TestRuns: the chapter's.
func TestRuns(t *testing.T) {
	g, ok := preflight.Read(self, false, "PUT", nil, api.Reply{Status: 204, Headers: list(allow, "*", methods, "PUT")})
	if granted(g) != "PUT||false|5" || !ok {
		t.Errorf("Read: %+v, %v", g, ok)
	}
	for _, now := range []int64{0, 7, 1 << 40, math.MaxInt64 - 5} {
		table := preflight.New()
		table.Put("s", "u", false, g, now)
		if !table.Allows("s", "u", false, "PUT", nil, now+4) || table.Allows("s", "u", false, "PUT", nil, now+5) {
			t.Errorf("put at %d", now)
		}
	}
}

// TestExamples: the chapter's.
func TestExamples(t *testing.T) {
	r := reply(methods, "PUT", names, "a", most, "0")
	r.Status = 301
	mustNotRead(t, false, "PUT", nil, r)
	mustNotRead(t, false, "GET", nil, r)
	r.Status = 200
	mustRead(t, false, "PUT", nil, r, "PUT|a|false|0")
	g, _ := preflight.Read(self, false, "PUT", nil, r)
	table := preflight.New()
	table.Put("s", "u", false, g, 3)
	for _, now := range []int64{0, 2, 3, 4, math.MinInt64, math.MaxInt64} {
		if table.Len(now) != 0 || table.Allows("s", "u", false, "PUT", nil, now) || !table.Allows("s", "u", false, "GET", nil, now) {
			t.Errorf("Age 0 at %d", now)
		}
	}
}

// P19.1

func mustAsk(t *testing.T, who api.Origin, method string, unsafe []string, want ...string) {
	t.Helper()
	if got := preflight.Ask(who, method, unsafe); !slices.Equal(got, list(want...)) {
		t.Errorf("Ask(%+v, %q, %q): %q", who, method, unsafe, got)
	}
}

func TestAsk(t *testing.T) {
	const method, asked = "access-control-request-method", "access-control-request-headers"
	mustAsk(t, self, "GET", nil, "accept", "*/*", method, "GET", "origin", "https://a")
	mustAsk(t, self, "PUT", []string{}, "accept", "*/*", method, "PUT", "origin", "https://a")
	mustAsk(t, self, "PUT", []string{"a"}, "accept", "*/*", method, "PUT", asked, "a", "origin", "https://a")
	for _, unsafe := range [][]string{
		{"a", "b"}, {"b", "a", "x-y"}, {"a", "a"}, {"X", "x"}, {"*", "authorization"}, {""}, {"", ""}, {"a,b", "c"}, {"a b", "\x00", "\xff", "\r\n"},
	} {
		mustAsk(t, self, "PUT", unsafe, "accept", "*/*", method, "PUT", asked, strings.Join(unsafe, ","), "origin", "https://a")
	}
}

func TestAskMethod(t *testing.T) {
	for _, s := range []string{"", "put", "PUT", "pAtch", "*", "GET, PUT", " a ", "\x00\n", "\xff", "TRACE", strings.Repeat("M", 5000)} {
		mustAsk(t, self, s, nil, "accept", "*/*", "access-control-request-method", s, "origin", "https://a")
	}
}

func TestAskOrigin(t *testing.T) {
	for text, who := range map[string]api.Origin{
		"null":             {Opaque: true},
		"http://h":         {Scheme: "http", Host: "h", Port: 80},
		"http://h:443":     {Scheme: "http", Host: "h", Port: 443},
		"https://[::1]:81": {Scheme: "https", Host: "[::1]", Port: 81},
		"https://h:80":     {Scheme: "https", Host: "h", Port: 80},
	} {
		mustAsk(t, who, "GET", nil, "accept", "*/*", "access-control-request-method", "GET", "origin", text)
	}
}

// P19.2

func TestReadStatus(t *testing.T) {
	for status := -300; status < 1000; status++ {
		r := reply(methods, "PUT")
		r.Status = status
		ok := status >= 200 && status <= 299
		mustReadIf(t, "PUT", nil, r, ok, ok)
		mustReadIf(t, "GET", nil, r, ok, ok)
	}
	for _, status := range []int{math.MaxInt, math.MinInt, 200 + 1<<32, 20000} {
		r := reply()
		r.Status = status
		mustReadIf(t, "GET", nil, r, false, false)
	}
}

func TestReadCheck(t *testing.T) {
	rest := list(methods, "PUT, *", names, "a, *")
	for _, c := range []struct {
		l               []api.Header
		without, credit bool
	}{
		{nil, false, false},
		{list(with, "true"), false, false},
		{list(allow, "*"), true, false},
		{list(allow, "*", with, "true"), true, false},
		{list("Access-Control-Allow-Origin", "https://a"), true, false},
		{list(allow, "https://a", with, "true"), true, true},
		{list(allow, "https://a", with, "TRUE"), true, false},
		{list(allow, "https://b", with, "true"), false, false},
		{list(allow, "null", with, "true"), false, false},
		{list(allow, "https://a", allow, "https://a", with, "true"), false, false},
	} {
		r := api.Reply{Status: 200, Headers: append(c.l, rest...)}
		mustReadIf(t, "GET", nil, r, c.without, c.credit)
		mustReadIf(t, "PUT", []string{"a"}, r, c.without, c.credit)
	}
	r := api.Reply{Status: 200, Headers: list(allow, "null", with, "true")}
	if _, ok := preflight.Read(api.Origin{Opaque: true}, true, "GET", nil, r); !ok {
		t.Error("an Opaque one is told as null")
	}
	if _, ok := preflight.Read(api.Origin{Scheme: "https", Host: "b", Port: 443}, false, "GET", nil, reply()); ok {
		t.Error("another origin was permitted")
	}
}

func TestReadMethods(t *testing.T) {
	mustRead(t, true, "GET", nil, reply(), "||false|5")
	for s, want := range map[string]string{
		"PUT":                  "PUT",
		"":                     "",
		" , ,":                 "",
		"PUT, DELETE":          "DELETE PUT",
		"b, a b, A, b":         "A b",
		"put, PUT, Put":        "PUT Put put",
		"a,B,_,C,!":            "! B C _ a",
		"GET, get":             "GET get",
		"TRACE, connect":       "TRACE connect",
		"\tx\t, y ,z":          "x y z",
		"\"a\", b":             "b",
		"\"a, b\", c":          "c",
		"\"a, b":               "",
		"a\x00, b\n, c\x7f, d": "d",
		"é, \xff, \u212a, k":   "k",
		"a/b, a:b, a=b, (c)":   "",
		"*, a":                 "* a",
		"*, *, **":             "* **",
		"x-, x, x-a":           "x x- x-a",
	} {
		for _, name := range []string{methods, "Access-Control-Allow-Methods", strings.ToUpper(methods)} {
			mustRead(t, false, "GET", nil, reply(name, s), want+"||false|5")
			mustRead(t, true, "HEAD", nil, reply(name, s), want+"||false|5")
		}
	}
	mustRead(t, false, "POST", nil, reply(methods, "b", "x", "y", strings.ToUpper(methods), "a, b", methods, ""), "a b||false|5")
	mustRead(t, false, "POST", nil, reply(methods+"s", "b", "allow", "c", "access-control-allow-method", "d"), "||false|5")
}

func TestReadNames(t *testing.T) {
	for s, want := range map[string]string{
		"":                     "",
		"X":                    "x",
		"X, y z, x, W":         "w x",
		"b, A, c":              "a b c",
		"B, _, a, C":           "_ a b c", // in order of the small letters
		"x-B,X-A,x-b":          "x-a x-b",
		"a\x00, b\n, c\x7f, D": "d",
		"É, \xff, \u212a, K":   "k",
		"\"a\", \"b, c\", D":   "d",
		"Authorization":        "authorization",
		"set-cookie, Host":     "host set-cookie",
	} {
		for _, name := range []string{names, "Access-Control-Allow-Headers", strings.ToUpper(names)} {
			mustRead(t, false, "GET", nil, reply(name, s), "|"+want+"|false|5")
			mustRead(t, true, "HEAD", nil, reply(name, s), "|"+want+"|false|5")
		}
	}
	for s, want := range map[string]string{"*": "*", "b, *, A": "* a b", "*, *": "*", "\t* ,!": "! *"} {
		mustRead(t, false, "GET", nil, reply(names, s), "|"+want+"|true|5")
		mustRead(t, true, "GET", nil, reply(names, s), "|"+want+"|false|5")
	}
	for s, want := range map[string]string{"**": "**", "\"*\"": "", "* *": "", "x*": "x*"} {
		mustRead(t, false, "GET", nil, reply(names, s), "|"+want+"|false|5")
	}
	mustRead(t, false, "POST", nil, reply(names, "b", "x", "y", strings.ToUpper(names), "A, b", names, ""), "|a b|false|5")
	mustRead(t, false, "GET", nil, reply(methods, "b, *, A", names, "D, c"), "* A b|c d|false|5")
	mustRead(t, false, "GET", nil, reply("access-control-expose-headers", "b, *", "vary", "c", names+"s", "d"), "||false|5")
}

func TestReadMethodAsked(t *testing.T) {
	for _, simple := range []string{"GET", "HEAD", "POST"} {
		mustReadIf(t, simple, nil, reply(), true, true)
		mustReadIf(t, simple, nil, reply(methods, "PUT"), true, true)
		for _, s := range sizes(simple) {
			mustReadIf(t, s, nil, reply(methods, "PUT"), s == simple, s == simple)
			mustReadIf(t, s, nil, reply(methods, "x, "+s), true, true)
		}
	}
	for _, s := range sizes("put") {
		mustReadIf(t, s, nil, reply(methods, "PUT"), s == "PUT", s == "PUT")
		mustReadIf(t, s, nil, reply(methods, "a,put"), s == "put", s == "put")
		mustReadIf(t, s, nil, reply(), false, false)
		mustReadIf(t, s, nil, reply(names, "PUT, *"), false, false)
		mustReadIf(t, s, nil, reply(methods, "*"), true, false)
		mustReadIf(t, s, nil, reply(methods, "x, *"), true, false)
		mustReadIf(t, s, nil, reply(methods, "*, "+s), true, true)
		mustReadIf(t, s, nil, reply(methods, "x", methods, s), true, true)
	}
	for _, s := range []string{"", " ", "P UT", "PUT ", "PUT,", "é", "\x00"} {
		mustReadIf(t, s, nil, reply(methods, s), false, false)
		mustReadIf(t, s, nil, reply(methods, "PUT, "+s+", x"), false, false)
		mustReadIf(t, s, nil, reply(methods, "*"), true, false)
	}
	mustReadIf(t, "*", nil, reply(methods, "*"), true, true)
	mustReadIf(t, "*", nil, reply(methods, "a"), false, false)
	mustReadIf(t, "authorization", nil, reply(methods, "*"), true, false)
}

func TestReadNamesAsked(t *testing.T) {
	ask := func(s string) []string { return strings.Fields(s) }
	for _, method := range []string{"GET", "PUT"} {
		r := reply(methods, "PUT", names, "C, a, X-Y")
		for _, s := range []string{"", "a", "c", "x-y", "a c x-y", "x-y c a", "a a", "A", "C X-y", "a A"} {
			mustReadIf(t, method, ask(s), r, true, true)
			mustReadIf(t, "DELETE", ask(s), r, false, false)
		}
		for _, s := range []string{"b", "b a c", "a b c", "a c b", "x", "x-", "x-y-", "PUT", "*", "authorization", "a,c", "\xe1"} {
			mustReadIf(t, method, ask(s), r, false, false)
		}
		for _, s := range []string{"", " ", "a ", " a", "a\x00", "a,", "a, c"} {
			mustReadIf(t, method, []string{s}, r, false, false)
			mustReadIf(t, method, []string{"a", s}, r, false, false)
		}
	}
	mustReadIf(t, "GET", ask("a"), reply(), false, false)
	mustReadIf(t, "GET", ask("a"), reply(methods, "a, *"), false, false)
	mustReadIf(t, "GET", ask("a b"), reply(names, "a", names, "B"), true, true)
	mustReadIf(t, "GET", ask("a b"), reply(names, "\"a\", b"), false, false)
}

func TestReadNamesStar(t *testing.T) {
	for _, s := range []string{"*", "*, b", "a*, *", "x", "*"} {
		star := s != "x"
		r := reply(names, s)
		mustReadIf(t, "GET", []string{"a"}, r, star, false)
		mustReadIf(t, "GET", []string{"A", "q"}, r, star, false)
		mustReadIf(t, "GET", []string{"no token", "", "\xff"}, r, star, false)
		mustReadIf(t, "GET", []string{"*"}, r, star, star)
		mustReadIf(t, "GET", []string{"authorization"}, r, false, false)
		mustReadIf(t, "GET", []string{"a", "authorization"}, r, false, false)
		mustReadIf(t, "GET", []string{"authorization", "a"}, r, false, false)
		mustReadIf(t, "GET", []string{"authorizations", "authorizatio", "proxy-authorization"}, r, star, false)
		mustReadIf(t, "PUT", []string{"a"}, r, false, false)
	}
	for _, s := range sizes("authorization") {
		mustReadIf(t, "GET", []string{s}, reply(names, "*"), false, false)
		mustReadIf(t, "GET", []string{s}, reply(names, "*, Authorization"), true, true)
		mustReadIf(t, "GET", []string{"authorization"}, reply(names, s), true, true)
	}
	mustReadIf(t, "GET", []string{"a", "authorization"}, reply(names, "*, authorization"), true, false)
	mustReadIf(t, "PUT", []string{"a"}, reply(methods, "*", names, "*"), true, false)
	mustReadIf(t, "PUT", []string{"a"}, reply(methods, "*", names, "a"), true, false)
	mustReadIf(t, "PUT", []string{"a"}, reply(methods, "PUT", names, "*"), true, false)
}

func TestReadAge(t *testing.T) {
	for s, want := range map[string]string{
		"0": "0", "1": "1", "4": "4", "5": "5", "6": "6", "9": "9", "007": "7", "00": "0",
		"7199": "7199", "7200": "7200", "7201": "7200", "86400": "7200", "4294967301": "7200",
		"9223372036854775807": "7200", "9223372036854775808": "7200", "18446744073709551617": "7200", "99999999999999999999": "7200",
		"": "5", "-1": "5", "+1": "5", " 9": "5", "9 ": "5", "9.0": "5", "x": "5", "9x": "5", "1e3": "5", "\"9\"": "5", "9, 9": "5", "9,": "5", "0x9": "5", "٩": "5", "9\x00": "5",
	} {
		for _, name := range []string{most, "Access-Control-Max-Age", strings.ToUpper(most)} {
			mustRead(t, false, "GET", nil, reply(name, s), "||false|"+want)
			mustRead(t, true, "PUT", nil, reply(name, s, methods, "PUT"), "PUT||false|"+want)
		}
	}
	mustRead(t, false, "GET", nil, reply(), "||false|5")
	mustRead(t, false, "GET", nil, reply(most, "9", most, "9"), "||false|5")
	mustRead(t, false, "GET", nil, reply("max-age", "9", "age", "9", "cache-control", "max-age=9", most+"s", "9"), "||false|5")
}
