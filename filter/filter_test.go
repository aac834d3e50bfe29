package filter_test

import (
	"math"
	"math/rand"
	"slices"
	"strings"
	"testing"

	"ostiary/api"
	"ostiary/filter"
)

const expose = "access-control-expose-headers"

// safeNames: the names that a page of another origin sees unasked.
func safeNames() []string {
	return []string{"cache-control", "content-language", "content-length", "content-type", "expires", "last-modified", "pragma"}
}

// list: headers of names and values in turn.
func list(words ...string) []api.Header {
	var l []api.Header
	for i := 0; i+1 < len(words); i += 2 {
		l = append(l, api.Header{Name: words[i], Value: words[i+1]})
	}
	return l
}

func reply(words ...string) api.Reply { return api.Reply{Status: 200, Headers: list(words...)} }

func some(r *rand.Rand, of ...string) string { return of[r.Intn(len(of))] }

// sizes: a word in each choice of large and small letters.
func sizes(word string) []string {
	out := []string{""}
	for i := range len(word) {
		small, large := strings.ToLower(word[i:i+1]), strings.ToUpper(word[i:i+1])
		var longer []string
		for _, s := range out {
			longer = append(longer, s+small)
			if small != large {
				longer = append(longer, s+large)
			}
		}
		out = longer
	}
	return out
}

func same(a, b api.Response) bool {
	return a.Kind == b.Kind && a.Status == b.Status && slices.Equal(a.Headers, b.Headers) && slices.Equal(a.Body, b.Body) && a.Url == b.Url
}

func mustOwn(t *testing.T, r api.Reply, words ...string) {
	t.Helper()
	want := api.Response{Kind: api.Basic, Status: r.Status, Headers: list(words...), Body: r.Body, Url: "https://u/"}
	if got := filter.Own(r, "https://u/"); !same(got, want) {
		t.Errorf("Own(%+v): %+v, not %+v", r, got, want)
	}
}

func mustShare(t *testing.T, r api.Reply, cred bool, words ...string) {
	t.Helper()
	want := api.Response{Kind: api.Shared, Status: r.Status, Headers: list(words...), Body: r.Body, Url: "https://v/"}
	if got := filter.Share(r, "https://v/", cred); !same(got, want) {
		t.Errorf("Share(%+v, %v): %+v, not %+v", r, cred, got, want)
	}
}

// mustShareBoth: with credentials and without.
func mustShareBoth(t *testing.T, r api.Reply, words ...string) {
	t.Helper()
	mustShare(t, r, false, words...)
	mustShare(t, r, true, words...)
}

// The chapter's runs and examples.

func TestRuns(t *testing.T) {
	mustOwn(t, reply("Set-Cookie", "a", "X", "b"), "X", "b")
	mustShareBoth(t, reply("X", "b", "expires", "c"), "expires", "c")
}

func TestExamples(t *testing.T) {
	mustShareBoth(t, reply("X", "b", "expires", "c", expose, "X"), "X", "b", "expires", "c")
	if filter.Fail().Status != 0 {
		t.Errorf("Fail: %+v", filter.Fail())
	}
	r := api.Reply{Status: 200, Body: []byte("body")}
	filter.Own(r, "u").Body[0] = 'x'
	filter.Share(r, "u", false).Body[1] = 'x'
	if string(r.Body) != "body" {
		t.Errorf("the reply's body became %q", r.Body)
	}
}

// P20.1: Fail, Hide, HideRedirect

func TestFail(t *testing.T) {
	if got := filter.Fail(); !same(got, api.Response{Kind: api.Failed}) {
		t.Errorf("Fail: %+v", got)
	}
}

func TestHide(t *testing.T) {
	if got := filter.Hide(); !same(got, api.Response{Kind: api.Hidden}) {
		t.Errorf("Hide: %+v", got)
	}
}

func TestHideRedirect(t *testing.T) {
	for _, url := range []string{"https://a/b?c", "", "x", "\x00\xff", " https://A ", strings.Repeat("u", 1<<16)} {
		if got := filter.HideRedirect(url); !same(got, api.Response{Kind: api.HiddenRedirect, Url: url}) {
			t.Errorf("HideRedirect(%q): %+v", url, got)
		}
	}
}

// P20.1: what is told beside the headers

func TestStatusBodyUrl(t *testing.T) {
	for _, status := range []int{200, 0, 201, 204, 301, 304, 404, 599, 99, -1, math.MaxInt, math.MinInt} {
		for _, body := range []string{"", "b", "body", "\x00\xff", strings.Repeat("b", api.MaxBody+1)} {
			for _, url := range []string{"", "https://a/b", "http://A/ b#f", "\xff"} {
				r := api.Reply{Status: status, Headers: list("Pragma", "p"), Body: []byte(body)}
				want := api.Response{Kind: api.Basic, Status: status, Headers: r.Headers, Body: []byte(body), Url: url}
				if got := filter.Own(r, url); !same(got, want) {
					t.Errorf("Own: %+v, not %+v", got, want)
				}
				want.Kind = api.Shared
				if one, two := filter.Share(r, url, false), filter.Share(r, url, true); !same(one, want) || !same(two, want) {
					t.Errorf("Share: %+v and %+v, not %+v", one, two, want)
				}
			}
		}
	}
}

// P20.1: Own

func TestOwnHeaders(t *testing.T) {
	mustOwn(t, reply())
	mustOwn(t, reply("b", "2", "A", "1", "b", "2", "B", "3", "", "", "a b", "\x00", "Content-Type", " x "), "b", "2", "A", "1", "b", "2", "B", "3", "", "", "a b", "\x00", "Content-Type", " x ")
	mustOwn(t, reply("Location", "l", "ETag", "e", "X-Content-Type-Options", "nosniff", "Cookie", "c", "Access-Control-Allow-Origin", "*", "Expires", "0"), "Location", "l", "ETag", "e", "X-Content-Type-Options", "nosniff", "Cookie", "c", "Access-Control-Allow-Origin", "*", "Expires", "0")
}

// TestOwnShowsUnexposed: what a reply exposes is said to other origins alone.
func TestOwnShowsUnexposed(t *testing.T) {
	for _, exposed := range []string{"", "X", "*", "y, z", "\"", "set-cookie", "*, set-cookie"} {
		mustOwn(t, reply(expose, exposed, "X", "1", "Set-Cookie", "2", "Y", "3"), expose, exposed, "X", "1", "Y", "3")
	}
}

func TestOwnCookies(t *testing.T) {
	for _, word := range []string{"set-cookie", "set-cookie2"} {
		for _, name := range sizes(word) {
			mustOwn(t, reply("a", "1", name, "2", "b", "3"), "a", "1", "b", "3")
			mustOwn(t, reply(name, "", name, "1", "a", "2", name, "2"), "a", "2")
			mustOwn(t, reply(name, "1"))
		}
	}
}

// besideCookies: names that are not those of cookies that are set.
func besideCookies() []string {
	return []string{"set-cooki", "set-cookie1", "set-cookie3", "set-cookie22", "set-cookie-2", "set-cookies", "et-cookie", "cookie", "cookie2", "set_cookie", "setcookie", "set-", "set", "set-cookie ", " set-cookie", "set-cookie\x00", "set-cookie2 ", "set-cookie,", "set-coo\u212aie", "\u017fet-cookie", "set-cookie2\t", "\rset-cookie"}
}

func TestOwnBesideCookies(t *testing.T) {
	for _, name := range besideCookies() {
		mustOwn(t, reply(name, "1", "Set-Cookie", "2", name, "3"), name, "1", name, "3")
	}
}

// P20.1: Share, what is shown unasked

func TestShareSafe(t *testing.T) {
	for _, word := range safeNames() {
		for _, name := range sizes(word) {
			mustShareBoth(t, reply("X", "1", name, "2", "Set-Cookie", "3"), name, "2")
		}
	}
	var all, want []string
	for i, word := range safeNames() {
		all = append(all, word, "1", "x-"+word, "2", strings.ToUpper(word), "3")
		want = append(want, word, "1", strings.ToUpper(word), "3")
		if i == 3 {
			all = append(all, "y", "4", word, "5", "z", "6")
			want = append(want, word, "5")
		}
	}
	mustShareBoth(t, reply(all...), want...)
}

func TestShareBesideSafe(t *testing.T) {
	for _, word := range safeNames() {
		for _, name := range []string{word + " ", " " + word, word + "s", "x" + word, word[1:], word[:len(word)-1], word + "\x00", word + "-", "-" + word, strings.ReplaceAll(word, "s", "\u017f") + "\u017f", strings.ReplaceAll(word, "-", "_") + "_"} {
			mustShareBoth(t, reply(name, "1", "pragma", "2", name, "3"), "pragma", "2")
		}
	}
	for _, name := range []string{
		"", "*", "x", "content", "content-", "content-encoding", "content-location", "content-range", "content-disposition", "content-security-policy", "cache", "control", "expire", "last", "modified", "last-modified-by", "if-modified-since",
		"accept", "accept-language", "range", "age", "date", "etag", "vary", "location", "server", "via", "link", "refresh", "x-content-type-options", "timing-allow-origin", "cross-origin-resource-policy", "referrer-policy",
		"access-control-allow-origin", "access-control-allow-credentials", "access-control-expose-headers", "authorization", "cookie", "www-authenticate", "\xff", "\x00", "contentlength", "lastmodified", "cachecontrol", "content_type",
	} {
		mustShareBoth(t, reply(name, "1", "pragma", "2", name, "3"), "pragma", "2")
	}
}

// P20.1: Share, what is exposed

func TestShareExposed(t *testing.T) {
	for _, c := range []struct {
		exposed, shown string // shown: which of A, x-b, x.c, *, and a quoted word
	}{
		{"", ""}, {"a", "A"}, {"A", "A"}, {" A\t", "A"}, {"X-B", "x-b"}, {"x-B,X.c", "x-b x.c"}, {"x.C , a,x-b", "A x-b x.c"}, {"a, a, A", "A"}, {",,a,", "A"},
		{"b", ""}, {"x", ""}, {"x-", ""}, {"x-b x.c", ""}, {"a;x-b", ""}, {"a;,x-b", "x-b"}, {"a/, (x-b), x.c", "x.c"}, {"\"a\"", ""}, {"\"a, x-b\"", ""}, {"\"a, x-b\", x.c", "x.c"}, {"\"a, x-b", ""}, {"x.c, \"a, x-b", "x.c"}, {"a\n,x-b", "x-b"}, {"a\x00", ""},
	} {
		l := list("A", "1", "x-b", "2", "z", "3", expose, c.exposed, "x.c", "4", "\"a\"", "5", "x-b x.c", "6", "a;", "7", "a\n", "8")
		var want []string
		for _, h := range l {
			if slices.Contains(strings.Fields(c.shown), h.Name) {
				want = append(want, h.Name, h.Value)
			}
		}
		mustShareBoth(t, api.Reply{Status: 200, Headers: l}, want...)
	}
	for _, name := range sizes("xyz") {
		for _, exposed := range sizes("xyz") {
			mustShareBoth(t, reply(name, "1", "xy", "2", expose, exposed), name, "1")
		}
	}
}

// TestShareExposedAgain: names that are there more than once; more headers than one that expose.
func TestShareExposedAgain(t *testing.T) {
	mustShareBoth(t, reply("X", "1", "y", "2", "x", "1", "X", "", "Y", "3", expose, "x"), "X", "1", "x", "1", "X", "")
	mustShareBoth(t, reply("Access-Control-Expose-Headers", "x", "Z", "1", "X", "2", "ACCESS-CONTROL-EXPOSE-HEADERS", "z"), "Z", "1", "X", "2")
	mustShareBoth(t, reply(expose, "\"x", "Z", "1", "X", "2", expose, "z\"", expose, "Y", "y", "3"), "y", "3") // one list: the quotes reach over the headers
	mustShareBoth(t, reply(expose, "x, Access-Control-Expose-Headers", "x", "1", expose, "y"), expose, "x, Access-Control-Expose-Headers", "x", "1", expose, "y")
	mustShareBoth(t, reply("access-control-allow-headers", "x", "x-"+expose, "x", "access-control-expose-header", "x", "x", "1"))
	mustShareBoth(t, reply("expires", "1", "Expires", "2", expose, "EXPIRES, pragma"), "expires", "1", "Expires", "2")
}

func TestShareStar(t *testing.T) {
	mustShare(t, reply("X", "1", "", "2", "Pragma", "3", expose, "*"), false, "X", "1", "", "2", "Pragma", "3", expose, "*")
	mustShare(t, reply("X", "1", "", "2", "Pragma", "3", expose, "*"), true, "Pragma", "3")
	mustShare(t, reply(expose, "y, *", "X", "1", "Y", "2", "x", "3"), false, expose, "y, *", "X", "1", "Y", "2", "x", "3")
	mustShare(t, reply(expose, "y, *", "X", "1", "Y", "2", "x", "3"), true, "Y", "2")
	mustShare(t, reply(expose, "y", "X", "1", "a b", "2", expose, "\t* "), false, expose, "y", "X", "1", "a b", "2", expose, "\t* ")
	mustShare(t, reply("*", "1", "X", "2", "**", "3", expose, "*"), true, "*", "1") // with credentials it is a name
	for _, exposed := range []string{"**", "\"*\"", "x*", "*x", "* *", "*;q", "\"x, *", "*\n"} {
		mustShareBoth(t, reply("z", "1", "Pragma", "2", expose, exposed), "Pragma", "2")
	}
}

func TestShareCookies(t *testing.T) {
	for _, word := range []string{"set-cookie", "set-cookie2"} {
		for _, name := range sizes(word) {
			mustShareBoth(t, reply(name, "1", "expires", "2", name, "3"), "expires", "2")
			mustShareBoth(t, reply(name, "1", "a", "2", expose, name+", a"), "a", "2")
			mustShareBoth(t, reply("a", "2", expose, "a, Set-Cookie, set-cookie2", name, "1"), "a", "2")
			mustShare(t, reply("a", "1", name, "2", expose, "*"), false, "a", "1", expose, "*")
			mustShare(t, reply("a", "1", name, "2", expose, "*, "+name), false, "a", "1", expose, "*, "+name)
			mustShare(t, reply("a", "1", name, "2", expose, "*, "+name), true)
		}
	}
}

func TestShareBesideCookies(t *testing.T) {
	for _, name := range besideCookies() {
		mustShare(t, reply(name, "1", "Set-Cookie", "2", name, "3", expose, "*"), false, name, "1", name, "3", expose, "*")
		mustShare(t, reply(name, "1", "Set-Cookie", "2", name, "3", expose, "*"), true)
	}
}

func TestShareNone(t *testing.T) {
	mustShareBoth(t, reply())
	mustShareBoth(t, reply("x", "1"))
	mustShareBoth(t, reply(expose, "x"))
	mustShareBoth(t, reply("set-cookie", "x", "Set-Cookie2", "y"))
}
