package cors_test

import (
	"math/rand"
	"slices"
	"strings"
	"testing"

	"ostiary/api"
	"ostiary/cors"
)

const (
	allow  = "access-control-allow-origin"
	with   = "access-control-allow-credentials"
	expose = "access-control-expose-headers"
)

// list: headers of names and values in turn.
func list(words ...string) []api.Header {
	var l []api.Header
	for i := 0; i+1 < len(words); i += 2 {
		l = append(l, api.Header{Name: words[i], Value: words[i+1]})
	}
	return l
}

func some(r *rand.Rand, of ...string) string { return of[r.Intn(len(of))] }

// sizes: a word in each choice of large and small letters.
func sizes(word string) []string {
	out := []string{""}
	for i := range len(word) {
		var longer []string
		for _, s := range out {
			longer = append(longer, s+strings.ToLower(word[i:i+1]), s+strings.ToUpper(word[i:i+1]))
		}
		out = longer
	}
	return out
}

func mustMethod(t *testing.T, s, want string, ok bool) {
	t.Helper()
	if m, fine := cors.Method(s); m != want || fine != ok {
		t.Errorf("Method(%q): %q, %v", s, m, fine)
	}
}

func mustUnsafe(t *testing.T, l []api.Header, want ...string) {
	t.Helper()
	if got := cors.Unsafe(l); !slices.Equal(got, want) {
		t.Errorf("Unsafe(%q): %q, not %q", l, got, want)
	}
}

func mustCheck(t *testing.T, self api.Origin, l []api.Header, without, credit bool) {
	t.Helper()
	if cors.Check(self, false, l) != without || cors.Check(self, true, l) != credit {
		t.Errorf("Check(%+v, .., %q): %v, %v", self, l, !without, !credit)
	}
}

func mustExpose(t *testing.T, l []api.Header, cred bool, want ...string) {
	t.Helper()
	if got, all := cors.Exposed(l, cred); !slices.Equal(got, want) || all {
		t.Errorf("Exposed(%q, %v): %q, %v, not %q", l, cred, got, all, want)
	}
}

// mustExposeAll: without credentials; a star is then no name.
func mustExposeAll(t *testing.T, l []api.Header) {
	t.Helper()
	if got, all := cors.Exposed(l, false); len(got) > 0 || !all {
		t.Errorf("Exposed(%q, false): %q, %v", l, got, all)
	}
}

// P18.1: Method

func TestMethodKnown(t *testing.T) {
	mustMethod(t, "pOst", "POST", true)
	for _, known := range []string{"DELETE", "GET", "HEAD", "OPTIONS", "POST", "PUT"} {
		for _, s := range sizes(known) {
			mustMethod(t, s, known, true)
		}
	}
}

func TestMethodForbidden(t *testing.T) {
	mustMethod(t, "TRACE", "", false)
	for _, forbidden := range []string{"connect", "trace", "track"} {
		for _, s := range sizes(forbidden) {
			mustMethod(t, s, "", false)
		}
	}
}

func TestMethodOthers(t *testing.T) {
	for _, s := range []string{
		"patch", "PATCH", "pAtCh", "x-y", "X-Y", "a", "Z", "7", "!#$%&'*+-.^_`|~", "*", "-",
		"gets", "ge", "xget", "get-", "post.", "pos", "puts", "head1", "deletes", "option", "optionss",
		"traces", "trac", "xtrace", "tracks", "connects", "connec", "con-nect", "'get'", "search", "PropFind",
		strings.Repeat("GeT", 1<<15),
	} {
		mustMethod(t, s, s, true)
	}
}

func TestMethodNoToken(t *testing.T) {
	for _, s := range []string{
		"", " ", "GET ", " GET", "GET\n", "\tget", "G ET", "get\x00", "get,post", "\"get\"", "(get)", "get/", "get:", "get;", "get=", "get?", "get@", "[get]", "{get}", "g\\et", "<get>",
		"é", "po\u017ft", "trac\u212a", "options\u00a0", "get\x7f", "get\x80", "\xff", "connect ", " trace", "track\r\n", "patch patch",
	} {
		mustMethod(t, s, "", false)
	}
}

func TestMethodEachByte(t *testing.T) {
	const marks = "!#$%&'*+-.^_`|~"
	for n := range 256 {
		b := string([]byte{byte(n)})
		token := n >= '0' && n <= '9' || n >= 'A' && n <= 'Z' || n >= 'a' && n <= 'z' || strings.Contains(marks, b)
		for _, s := range []string{b, b + "x", "x" + b, "get" + b + "get", "tra" + b + "ace"} {
			if token {
				mustMethod(t, s, s, true)
			} else {
				mustMethod(t, s, "", false)
			}
		}
	}
}

// P18.1: Simple

func TestSimple(t *testing.T) {
	for _, simple := range []string{"GET", "HEAD", "POST"} {
		for _, s := range sizes(simple) {
			if cors.Simple(s) != (s == simple) {
				t.Errorf("Simple(%q)", s)
			}
		}
	}
	for _, s := range []string{"", "PUT", "DELETE", "OPTIONS", "PATCH", "TRACE", "CONNECT", "*", "GET ", " GET", "GE", "GETS", "HEA", "POSTS", "GET,POST", "GET\x00", "PO\u017fT", "\xff"} {
		if cors.Simple(s) {
			t.Errorf("Simple(%q)", s)
		}
	}
}

// P18.1: Unsafe

func TestUnsafe(t *testing.T) {
	mustUnsafe(t, list("Accept", "x"))
	mustUnsafe(t, nil)
	for _, c := range []struct {
		l    []api.Header
		want string
	}{
		{list("Accept", "", "ACCEPT-LANGUAGE", "de, en;q=0.5", "Content-language", "*", "content-TYPE", "Text/Plain;x", "RANGE", "bytes=0-"), ""},
		{list("Accept", "a:b"), "accept"},
		{list("Accept-Language", "d_e"), "accept-language"},
		{list("Content-Language", "d/e"), "content-language"},
		{list("Content-Type", "application/json"), "content-type"},
		{list("Content-Type", "multipart/form-data; a=\"b\""), "content-type"},
		{list("Range", "bytes=-5"), "range"},
		{list("Range", "bytes=5-4"), "range"},
		{list("X", ""), "x"},
		{list("Authorization", "a"), "authorization"},
		{list("Accept ", "x"), "accept "},
		{list("X-B", "1", "a", "2", "x-b", "3"), "a|x-b"},
		{list("X-B", "1", "x-B", "1", "X-b", "1", "x-b", "1"), "x-b"},
		{list("B", "", "_", "", "a", "", "C", ""), "_|a|b|c"}, // in order of the small letters
		{list("x-a", "", "x.a", "", "xa", "", "x", "", "x-", ""), "x|x-|x-a|x.a|xa"},
		{list("accept", "(", "accept", "x"), "accept"},
		{list("accept", "x", "Accept", "x", "ACCEPT", "("), "accept"},
		{list("accept", "x", "x", "y", "range", "bytes=1-2"), "x"},
		{list("\xff", "", "\xc3\x89", "", "\xc3\xa9", "", "\u212a", "", "k", "", "", "", "\x00", ""), "|\x00|k|\xc3\x89|\xc3\xa9|\u212a|\xff"},
		{list("cookie", "", "sec-x", "", "host", ""), "cookie|host|sec-x"},
	} {
		var want []string
		if c.want != "" {
			want = strings.Split(c.want, "|")
		}
		mustUnsafe(t, c.l, want...)
	}
}

// safeOf: Safe headers, by turns of two names, whose values have that many bytes in all.
func safeOf(bytes int) []api.Header {
	var l []api.Header
	for ; bytes > 0; bytes -= 128 {
		l = append(l, list([]string{"Accept", "content-LANGUAGE"}[len(l)%2], strings.Repeat("a", min(bytes, 128)))...)
	}
	return l
}

func TestUnsafeMany(t *testing.T) {
	mustUnsafe(t, safeOf(1024))
	mustUnsafe(t, safeOf(1025), "accept", "content-language")
	mustUnsafe(t, safeOf(128))
	mustUnsafe(t, safeOf(4096), "accept", "content-language")
	for size := 1000; size < 1050; size++ {
		if got := cors.Unsafe(safeOf(size)); len(got) > 0 != (size > 1024) {
			t.Errorf("Unsafe of %d bytes: %q", size, got)
		}
	}
}

// TestUnsafeOthersNotCounted: values of headers that are not Safe are none of the bytes, and neither are names.
func TestUnsafeOthersNotCounted(t *testing.T) {
	long := strings.Repeat("a", 129)
	mustUnsafe(t, append(safeOf(1024), list("x", long, "Accept-Language", long, "y", strings.Repeat("b", 4096))...), "accept-language", "x", "y")
	mustUnsafe(t, append(safeOf(1024), list("accept", long)...), "accept")
	mustUnsafe(t, append(list("accept", "("), safeOf(1024)...), "accept")
	mustUnsafe(t, append(safeOf(1024), list("accept-language", "", "range", "bytes=0-0(")...), "range")
	mustUnsafe(t, append(safeOf(1023), list("x", "1", "range", "bytes=0-")...), "accept", "content-language", "range", "x")
	mustUnsafe(t, append(safeOf(1025), list("Accept", "(", "z", "", "Range", "bytes=1-", "b", "")...), "accept", "b", "content-language", "range", "z")
	mustUnsafe(t, append(safeOf(1025), list("accept-language", "")...), "accept", "accept-language", "content-language") // with an empty value it is one of the Safe ones, too
	mustUnsafe(t, append(list("range", "bytes=0-", "CONTENT-type", "text/plain"), safeOf(1006)...))
	mustUnsafe(t, append(list("range", "bytes=0-", "CONTENT-type", "text/plain"), safeOf(1007)...), "accept", "content-language", "content-type", "range")
}

// P18.2

var self = api.Origin{Scheme: "https", Host: "a", Port: 443}

func TestCheckStar(t *testing.T) {
	for _, s := range []string{allow, "Access-Control-Allow-Origin", strings.ToUpper(allow)} {
		mustCheck(t, self, list(s, "*"), true, false)
		mustCheck(t, self, list(s, "*", with, "true"), true, false)
		mustCheck(t, api.Origin{Opaque: true}, list(s, "*", with, "true"), true, false)
	}
	for _, s := range []string{"", "**", "* ", " *", "*, *", "\"*\"", "*://a", "https://*", "*\x00"} {
		mustCheck(t, self, list(allow, s, with, "true"), false, false)
	}
	mustCheck(t, self, list(allow, "*", allow, "*"), false, false)
	mustCheck(t, self, list(allow, "*", allow, ""), false, false)
}

func TestCheckMissing(t *testing.T) {
	mustCheck(t, self, nil, false, false)
	mustCheck(t, self, list(with, "true"), false, false)
	mustCheck(t, self, list("origin", "https://a", with, "true"), false, false)
	mustCheck(t, self, list(allow+" ", "*", " "+allow, "*", "access-control-allow", "*", with, "*"), false, false)
	mustCheck(t, api.Origin{}, nil, false, false)
	mustCheck(t, api.Origin{Opaque: true}, list(with, "true"), false, false)
}

func TestCheckOrigin(t *testing.T) {
	for _, c := range []struct {
		self api.Origin
		text string
	}{
		{self, "https://a"},
		{api.Origin{Scheme: "http", Host: "h", Port: 80}, "http://h"},
		{api.Origin{Scheme: "http", Host: "h", Port: 443}, "http://h:443"},
		{api.Origin{Scheme: "https", Host: "h", Port: 80}, "https://h:80"},
		{api.Origin{Scheme: "https", Host: "[::1]", Port: 81}, "https://[::1]:81"},
		{api.Origin{Opaque: true}, "null"},
	} {
		mustCheck(t, c.self, list("Access-control-allow-Origin", c.text), true, false)
		mustCheck(t, c.self, list(allow, c.text, with, "true"), true, true)
		mustCheck(t, c.self, list("x", "y", strings.ToUpper(with), "true", "z", "", strings.ToUpper(allow), c.text), true, true)
		for _, other := range []string{"", c.text + "/", c.text + " ", " " + c.text, strings.ToUpper(c.text), c.text[1:], c.text[:len(c.text)-1], c.text + ", " + c.text, c.text + ",*", "*, " + c.text, "https://b", "\"" + c.text + "\"", c.text + "\x00"} {
			mustCheck(t, c.self, list(allow, other, with, "true"), false, false)
		}
		mustCheck(t, c.self, list(allow, c.text, with, "true", allow, c.text), false, false)
		mustCheck(t, c.self, list(allow, c.text, with, "true", allow, ""), false, false)
		mustCheck(t, c.self, list(allow, "*", with, "true", allow, c.text), false, false)
	}
	mustCheck(t, self, list(allow, "https://a:443", with, "true"), false, false)
	mustCheck(t, self, list(allow, "http://a", with, "true"), false, false)
	mustCheck(t, self, list(allow, "https://b", with, "true"), false, false)
	mustCheck(t, self, list(allow, "null", with, "true"), false, false)
	mustCheck(t, api.Origin{Opaque: true}, list(allow, "https://a", with, "true"), false, false)
}

func TestCheckCredentials(t *testing.T) {
	for _, s := range sizes("true") {
		mustCheck(t, self, list(allow, "https://a", with, s), true, s == "true")
	}
	for _, s := range []string{"", "*", "1", "yes", "false", "true ", " true", "true, true", "\"true\"", "tru", "truee", "true;x", "true\x00"} {
		mustCheck(t, self, list(allow, "https://a", with, s), true, false)
	}
	mustCheck(t, self, list(allow, "https://a", with, "true", with, "true"), true, false)
	mustCheck(t, self, list(with, "true", allow, "https://a", with, ""), true, false)
	mustCheck(t, self, list(allow, "https://a", with+"s", "true"), true, false)
	mustCheck(t, self, list(allow, "https://a", "Access-Control-Allow-Credentials", "true"), true, true)
}

// P18.3

func TestExposed(t *testing.T) {
	mustExpose(t, nil, false)
	mustExpose(t, nil, true)
	for s, want := range map[string][]string{
		"X, b, x":          {"b", "x"},
		"":                 nil,
		" ":                nil,
		",":                nil,
		",, ,":             nil,
		"a":                {"a"},
		"A,a, a\t,\tA":     {"a"},
		"a b, c":           {"c"},
		"c, B, a":          {"a", "b", "c"},
		"B, _, a, C":       {"_", "a", "b", "c"}, // in order of the small letters
		"x-a,x.a,xa,x,x-":  {"x", "x-", "x-a", "x.a", "xa"},
		"\"a\", b":         {"b"},
		"\"a, b\", c":      {"c"},
		"\"a, b":           nil,
		"a\", b\", c":      {"c"},
		"a, é, b\xff, c":   {"a", "c"},
		"\u212a, k":        {"k"},
		"a;b, a=b, c:d, e": {"e"},
		"a\x00, b\n, c":    {"c"},
		"a\x0c, \x0bb, c":  {"c"}, // 9 and 32 alone are taken off
		"set-cookie, Host": {"host", "set-cookie"},
		"7, !, ~, `, |, ^": {"!", "7", "^", "`", "|", "~"},
		"**, *a, a*":       {"**", "*a", "a*"},
		"\"*\", a":         {"a"},
		"\"*, *\", a":      {"a"},
		"* *, *;, b":       {"b"},
		"ABC, aBC, abd":    {"abc", "abd"},
	} {
		mustExpose(t, list("Access-Control-EXPOSE-Headers", s), false, want...)
		mustExpose(t, list(expose, s), true, want...)
	}
}

func TestExposedStar(t *testing.T) {
	for s, want := range map[string][]string{
		"*":         {"*"},
		" * ":       {"*"},
		"\t*\t":     {"*"},
		"a, *":      {"*", "a"},
		"*, A, b c": {"*", "a"},
		"*,*":       {"*"},
		",*,":       {"*"},
		"b,*,!,a,B": {"!", "*", "a", "b"},
		"\"a\", *":  {"*"},
	} {
		mustExposeAll(t, list(expose, s))
		mustExpose(t, list(expose, s), true, want...)
	}
	for _, cred := range []bool{false, true} {
		mustExpose(t, list(expose, "x, \"a\\\",*"), cred, "x") // in quotes that don't end
	}
}

func TestExposedLists(t *testing.T) {
	l := list(expose, "b", "x", "y", "Access-Control-Expose-Headers", "A, b", "accept", "*", strings.ToUpper(expose), "")
	mustExpose(t, l, false, "a", "b")
	mustExpose(t, l, true, "a", "b")
	l = append(l, list(expose, "c d", expose, "*, c")...)
	mustExposeAll(t, l)
	mustExpose(t, l, true, "*", "a", "b", "c")
	l = list(expose, "\"a", expose, "*", expose, "b\", c") // quotes go from one header to the next
	mustExpose(t, l, false, "c")
	mustExpose(t, l, true, "c")
	mustExpose(t, list("access-control-expose-header", "a", expose+"s", "*", allow, "*", with, "*"), false)
}

// P18.4

func TestPermittedWithout(t *testing.T) {
	r := rand.New(rand.NewSource(184))
	permitted, exposed := 0, 0
	for range 40000 {
		l := someReply(r)
		who := someOrigin(r)
		if cors.Check(who, true, l) {
			permitted++
			if !cors.Check(who, false, l) {
				t.Fatalf("Check(%+v, .., %q): with credentials alone", who, l)
			}
		}
		names, all := cors.Exposed(l, true)
		if all {
			t.Fatalf("Exposed(%q, true): all", l)
		}
		if len(names) > 0 {
			exposed++
		}
		without, all := cors.Exposed(l, false)
		if !all && !slices.Equal(names, without) {
			t.Fatalf("Exposed(%q): %q with credentials, %q without", l, names, without)
		}
	}
	if permitted < 100 || exposed < 1000 {
		t.Errorf("%d permitted, %d exposed", permitted, exposed)
	}
}
