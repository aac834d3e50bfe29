package cache_test

import (
	"math"
	"slices"
	"strconv"
	"strings"
	"testing"

	"ostiary/api"
	"ostiary/cache"
)

const (
	control = "cache-control"
	long    = "max-age=99"
)

// list: headers of names and values in turn.
func list(words ...string) []api.Header {
	var l []api.Header
	for i := 0; i+1 < len(words); i += 2 {
		l = append(l, api.Header{Name: words[i], Value: words[i+1]})
	}
	return l
}

// reply: of status 200, with the body b.
func reply(words ...string) api.Reply {
	return api.Reply{Status: 200, Headers: list(words...), Body: []byte("b")}
}

// text: headers as one text, a line each.
func text(l []api.Header) string {
	var b strings.Builder
	for _, h := range l {
		b.WriteString(h.Name + ": " + h.Value + "\n")
	}
	return b.String()
}

func mustPut(t *testing.T, c *cache.Cache, url string, asked []api.Header, r api.Reply, now int64) {
	t.Helper()
	if !c.Put(url, asked, r, now) {
		t.Errorf("Put(%q, %q, %q, %d): false", url, asked, r.Headers, now)
	}
}

// mustNotPut: what is refused changes nothing that can be told.
func mustNotPut(t *testing.T, c *cache.Cache, url string, asked []api.Header, r api.Reply, now int64) {
	t.Helper()
	before := c.Urls()
	if c.Put(url, asked, r, now) {
		t.Errorf("Put(%q, %q, %d %q, %d): true", url, asked, r.Status, r.Headers, now)
	}
	if after := c.Urls(); !slices.Equal(after, before) || c.Len() != len(before) {
		t.Errorf("a refused Put turned %q into %q", before, after)
	}
}

// mustFind: what is found, with headers and an Ask of these lines.
func mustFind(t *testing.T, c *cache.Cache, url string, asked []api.Header, now int64, state int, headers, ask []api.Header) {
	t.Helper()
	f := c.Find(url, asked, now)
	if f.State != state || text(f.Reply.Headers) != text(headers) || text(f.Ask) != text(ask) || f.Reply.Status != 200 || string(f.Reply.Body) != "b" {
		t.Errorf("Find(%q, %q, %d): %+v", url, asked, now, f)
	}
}

func mustState(t *testing.T, c *cache.Cache, url string, asked []api.Header, now int64, state int) {
	t.Helper()
	if f := c.Find(url, asked, now); f.State != state {
		t.Errorf("Find(%q, %q, %d): %+v, not %d", url, asked, now, f, state)
	}
}

// mustNotFind: none, everything of it zero, and nothing used.
func mustNotFind(t *testing.T, c *cache.Cache, url string, asked []api.Header, now int64) {
	t.Helper()
	before := c.Urls()
	f := c.Find(url, asked, now)
	if f.State != cache.None || f.Reply.Status != 0 || len(f.Reply.Headers)+len(f.Reply.Body)+len(f.Ask) > 0 {
		t.Errorf("Find(%q, %q, %d): %+v", url, asked, now, f)
	}
	if after := c.Urls(); !slices.Equal(after, before) {
		t.Errorf("what was not found turned %q into %q", before, after)
	}
}

// mustBody: which row is found, told by its body.
func mustBody(t *testing.T, c *cache.Cache, url string, asked []api.Header, now int64, body string) {
	t.Helper()
	if f := c.Find(url, asked, now); string(f.Reply.Body) != body {
		t.Errorf("Find(%q, %q, %d): %q, not %q", url, asked, now, f.Reply.Body, body)
	}
}

// putBody: a row that is told by its body.
func putBody(t *testing.T, c *cache.Cache, url string, asked []api.Header, vary, body string, now int64) {
	t.Helper()
	r := reply(control, long, "vary", vary)
	r.Body = []byte(body)
	mustPut(t, c, url, asked, r, now)
}

func mustUrls(t *testing.T, c *cache.Cache, want string) {
	t.Helper()
	if got := strings.Join(c.Urls(), " "); got != want || c.Len() != len(strings.Fields(want)) {
		t.Errorf("Urls: %q, Len %d, not %q", got, c.Len(), want)
	}
}

// TestRuns: the chapter's.
func TestRuns(t *testing.T) {
	c := cache.New()
	mustPut(t, c, "u", nil, reply(control, "max-age=5"), 0)
	mustFind(t, c, "u", nil, 4, cache.Fresh, list(control, "max-age=5", "age", "4"), nil)
	mustFind(t, c, "u", nil, 5, cache.Stale, list(control, "max-age=5", "age", "5"), nil)
	mustNotPut(t, c, "v", nil, api.Reply{Status: 404}, 0)
	mustNotPut(t, c, "v", nil, reply("vary", "*"), 0)
	if n := c.Drop("u"); n != 1 {
		t.Errorf("Drop: %d", n)
	}
}

// TestExamples: the chapter's.
func TestExamples(t *testing.T) {
	c := cache.New()
	mustNotFind(t, c, "u", nil, 0)
	r := reply("x", "y")
	mustPut(t, c, "u", nil, r, 0)
	r.Headers[0].Value, r.Body[0] = "z", 'z'
	f := c.Find("u", nil, 0)
	f.Reply.Headers[0].Value, f.Reply.Body[0] = "z", 'z'
	mustFind(t, c, "u", nil, 0, cache.Stale, list("x", "y", "age", "0"), nil)
}

func TestNumbers(t *testing.T) {
	if cache.None != 0 || cache.Stale != 1 || cache.Fresh != 2 {
		t.Error(cache.None, cache.Stale, cache.Fresh)
	}
}

// P17.1

func TestPutStatus(t *testing.T) {
	c := cache.New()
	mustPut(t, c, "u", nil, reply(control, long), 0)
	for _, status := range []int{0, 1, -1, -200, 100, 199, 201, 203, 204, 206, 300, 301, 304, 308, 404, 410, 500, 2000, math.MaxInt, math.MinInt, 200 + 1<<32} {
		r := reply(control, "max-age=5")
		r.Status = status
		mustNotPut(t, c, "u", nil, r, 0)
		mustNotPut(t, c, "v", nil, r, 0)
	}
	mustFind(t, c, "u", nil, 0, cache.Fresh, list(control, long, "age", "0"), nil)
}

func TestPutRefused(t *testing.T) {
	c := cache.New()
	mustPut(t, c, "u", list("a", "1"), reply(control, long), 0)
	mustPut(t, c, "v", nil, reply(), 0)
	for _, l := range [][]api.Header{
		list(control, "no-store"),
		list("Cache-Control", "max-age=9, No-Store"),
		list(control, "max-age=9", "x", "y", "CACHE-CONTROL", "no-store=x"),
		list("vary", "*"),
		list("Vary", "a, *"),
		list("vary", "a", "VARY", " *\t"),
		list(control, "no-store", "vary", "*"),
	} {
		mustNotPut(t, c, "u", list("a", "1"), reply(inTurn(l)...), 0)
	}
	for _, asked := range [][]api.Header{
		list(control, "no-store"),
		list("a", "1", "Cache-Control", "x, NO-STORE"),
		list(control, "x", control, "no-store"),
	} {
		mustNotPut(t, c, "u", asked, reply(control, long), 0)
		mustNotPut(t, c, "w", asked, reply(), 0)
	}
	mustUrls(t, c, "u v")
	mustFind(t, c, "u", nil, 0, cache.Fresh, list(control, long, "age", "0"), nil)
}

// inTurn: the names and values of a list in turn.
func inTurn(l []api.Header) []string {
	var out []string
	for _, h := range l {
		out = append(out, h.Name, h.Value)
	}
	return out
}

// TestPutNotRefused: what is near to what is refused.
func TestPutNotRefused(t *testing.T) {
	for _, l := range [][]api.Header{
		nil,
		list(control, "no-cache"),
		list(control, "private, max-age=0"),
		list(control, "x=no-store"),
		list(control, `"no-store"`),
		list("x", "no-store", "vary", ""),
		list("pragma", "no-store", "cache-controls", "no-store"),
		list("vary", "**"),
		list("vary", `"*"`),
		list("vary", `"a, *"`),
		list("varys", "*"),
		list("vary", ", ,"),
	} {
		mustPut(t, cache.New(), "u", nil, reply(inTurn(l)...), 0)
	}
	for _, asked := range [][]api.Header{
		list(control, "no-cache"),
		list(control, "max-age=0"),
		list(control, "x=no-store"),
		list("vary", "*"),
		list("pragma", "no-store"),
	} {
		c := cache.New()
		mustPut(t, c, "u", asked, reply(control, long), 0)
		mustUrls(t, c, "u")
	}
}

// TestMeant: a row is meant by its address, and by what was asked of the headers by which it varies, alone.
func TestMeant(t *testing.T) {
	c := cache.New()
	mustPut(t, c, "u", list("A", "1", "b", "2", "c", "3"), reply(control, long, "Vary", "B, a", "vary", "x"), 0)
	for _, asked := range [][]api.Header{
		list("A", "1", "b", "2", "c", "3"),
		list("a", "1", "B", "2"),
		list("b", "2", "c", "9", "d", "", "a", "1"),
	} {
		mustState(t, c, "u", asked, 0, cache.Fresh)
	}
	for _, asked := range [][]api.Header{
		nil,
		list("a", "1"),
		list("b", "2"),
		list("a", "2", "b", "1"),
		list("a", "1", "b", "3"),
		list("a", "1", "b", "2 "),
		list("a", "1", "b", ""),
		list("a", "1", "b", "2", "x", ""),
		list("a", "1", "b", "2", "x", "1"),
		list("a", "1", "b", "2", "b", "2"),
		list("a", "1", "b", "2", "a", ""),
		list("c", "3"),
	} {
		mustNotFind(t, c, "u", asked, 0)
	}
	for _, url := range []string{"", "U", "u ", "u#", "uu", "\x00"} {
		mustNotFind(t, c, url, list("a", "1", "b", "2"), 0)
	}
}

// TestMeantByGet: several headers are one text; upper letters of a value are others than lower ones.
func TestMeantByGet(t *testing.T) {
	c := cache.New()
	mustPut(t, c, "u", list("a", "x", "q", "z", "A", "y"), reply(control, long, "vary", "a"), 0)
	mustState(t, c, "u", list("a", "x, y"), 0, cache.Fresh)
	mustState(t, c, "u", list("A", "x", "a", "y"), 0, cache.Fresh)
	mustNotFind(t, c, "u", list("a", "y", "a", "x"), 0)
	mustNotFind(t, c, "u", list("a", "x,y"), 0)
	mustNotFind(t, c, "u", list("a", "X, y"), 0)
	mustNotFind(t, c, "u", list("a", "x"), 0)
}

// TestNoneAndNone: none and none are alike, none and empty are not.
func TestNoneAndNone(t *testing.T) {
	c := cache.New()
	mustPut(t, c, "none", nil, reply(control, long, "vary", "a"), 0)
	mustState(t, c, "none", nil, 0, cache.Fresh)
	mustState(t, c, "none", list("b", "1"), 0, cache.Fresh)
	mustNotFind(t, c, "none", list("a", ""), 0)
	mustNotFind(t, c, "none", list("A", "1"), 0)
	mustPut(t, c, "empty", list("a", ""), reply(control, long, "vary", "a"), 0)
	mustState(t, c, "empty", list("A", ""), 0, cache.Fresh)
	mustNotFind(t, c, "empty", nil, 0)
	mustNotFind(t, c, "empty", list("a", " "), 0)
	mustNotFind(t, c, "empty", list("a", "", "a", ""), 0)
	mustUrls(t, c, "none empty")
}

// TestPutMeantGo: rows that are meant go, each by what it varies by itself; others of the address stay.
func TestPutMeantGo(t *testing.T) {
	c := cache.New()
	putBody(t, c, "u", list("a", "1", "b", "1"), "a", "a1", 0)
	putBody(t, c, "u", list("a", "2", "b", "1"), "a", "a2", 0)
	putBody(t, c, "v", list("a", "1", "b", "1"), "a", "v", 0)
	putBody(t, c, "u", list("a", "3", "b", "2"), "b", "b2", 0)
	mustUrls(t, c, "u u v u")
	putBody(t, c, "u", list("a", "1", "b", "7"), "a, b", "a1b7", 0) // a1 is meant
	mustUrls(t, c, "u v u u")
	mustBody(t, c, "u", list("a", "1", "b", "1"), 0, "")
	mustBody(t, c, "u", list("a", "1", "b", "7"), 0, "a1b7")
	putBody(t, c, "u", list("a", "2", "b", "2"), "c", "all", 0) // a2 and b2 are meant, a1b7 not
	mustUrls(t, c, "v u u")
	mustBody(t, c, "u", list("a", "2", "b", "9"), 0, "all")
	mustBody(t, c, "u", list("a", "1", "b", "7", "c", ""), 0, "a1b7")
	mustBody(t, c, "v", list("a", "1"), 0, "v")
	putBody(t, c, "u", list("a", "1", "b", "7"), "", "last", 0) // both are meant, for c was not asked
	mustUrls(t, c, "v u")
	mustBody(t, c, "u", list("c", "5"), 0, "last")
}

// TestPutFull: as many as may be, and one more.
func TestPutFull(t *testing.T) {
	c := cache.New()
	for n := range api.MaxStored {
		mustPut(t, c, strconv.Itoa(n), nil, reply("vary", "a"), 0)
	}
	mustUrls(t, c, "0 1 2 3 4 5 6 7 8 9 10 11 12 13 14 15")
	mustPut(t, c, "new", nil, reply(), 0)
	mustUrls(t, c, "1 2 3 4 5 6 7 8 9 10 11 12 13 14 15 new")
	mustNotFind(t, c, "0", nil, 0)
	mustNotPut(t, c, "other", nil, reply("vary", "*"), 0)
	mustPut(t, c, "1", list("a", "x"), reply(), 0) // not meant: the first one goes, which is of this address too
	mustUrls(t, c, "2 3 4 5 6 7 8 9 10 11 12 13 14 15 new 1")
	mustPut(t, c, "5", nil, reply(), 0) // meant: no other one goes
	mustUrls(t, c, "2 3 4 6 7 8 9 10 11 12 13 14 15 new 1 5")
	for n := range 40 {
		mustPut(t, c, "u", list("a", strconv.Itoa(n)), reply("vary", "a"), 0)
	}
	mustUrls(t, c, strings.TrimSuffix(strings.Repeat("u ", api.MaxStored), " "))
	mustNotFind(t, c, "u", list("a", "23"), 0)
	mustState(t, c, "u", list("a", "24"), 0, cache.Stale)
}

// TestOrder: Put, Find and Renew turn the order, where they come to a row.
func TestOrder(t *testing.T) {
	c := cache.New()
	for n := range api.MaxStored {
		mustPut(t, c, strconv.Itoa(n), nil, reply("vary", "a"), int64(100-n)) // by calls, whatever the clock says
	}
	mustState(t, c, "0", nil, 0, cache.Stale)
	if _, ok := c.Renew("2", nil, reply(), 0); !ok {
		t.Error("Renew: false")
	}
	mustPut(t, c, "4", nil, reply(), 0)
	mustState(t, c, "1", list(control, "no-cache"), 0, cache.Stale)
	mustUrls(t, c, "3 5 6 7 8 9 10 11 12 13 14 15 0 2 4 1")
	mustNotFind(t, c, "3", list("a", ""), 0)
	mustNotFind(t, c, "5", list(control, "no-store"), 0)
	mustNotRenew(t, c, "6", list("a", ""), reply(), 0)
	mustNotRenew(t, c, "7", list(control, "no-store"), reply(), 0)
	mustNotPut(t, c, "8", nil, api.Reply{Status: 304}, 0)
	mustNotPut(t, c, "9", list(control, "no-store"), reply(), 0)
	if n := c.Drop("nothing"); n != 0 {
		t.Errorf("Drop: %d", n)
	}
	mustUrls(t, c, "3 5 6 7 8 9 10 11 12 13 14 15 0 2 4 1")
	mustPut(t, c, "x", nil, reply(), 0)
	mustPut(t, c, "y", nil, reply(), 0)
	mustUrls(t, c, "6 7 8 9 10 11 12 13 14 15 0 2 4 1 x y")
}

// P17.2

// TestStoredLast: of several rows that are meant, the one that was stored last: not the one that was used last, nor the one whose clock was ahead.
func TestStoredLast(t *testing.T) {
	both := list("a", "1", "b", "1")
	for _, second := range []int64{3, 0, 3, 7} {
		c := cache.New()
		putBody(t, c, "u", list("a", "1", "b", "2"), "a", "by a", 3)
		putBody(t, c, "u", list("a", "2", "b", "1"), "b", "by b", second)
		mustBody(t, c, "u", both, 9, "by b")
		mustBody(t, c, "u", list("a", "1", "b", "2"), 9, "by a")
		mustBody(t, c, "u", both, 9, "by b")
		if r, ok := c.Renew("u", list("a", "1", "b", "2"), api.Reply{}, second); string(r.Body) != "by a" || !ok {
			t.Errorf("Renew: %+v, %v", r, ok)
		}
		mustBody(t, c, "u", list("a", "2", "b", "1"), 9, "by b")
		mustBody(t, c, "u", both, 9, "by a")
		if r, ok := c.Renew("u", both, api.Reply{}, second); string(r.Body) != "by a" || !ok {
			t.Errorf("Renew: %+v, %v", r, ok)
		}
		if c.Len() != 2 {
			t.Errorf("Len: %d", c.Len())
		}
	}
}

// TestFindUsesOne: of several rows that are meant, one alone is used.
func TestFindUsesOne(t *testing.T) {
	c := cache.New()
	putBody(t, c, "u", list("a", "1", "b", "2"), "a", "by a", 0)
	putBody(t, c, "u", list("a", "2", "b", "1"), "b", "by b", 0)
	for n := range api.MaxStored - 2 {
		mustPut(t, c, strconv.Itoa(n), nil, reply(), 0)
	}
	mustBody(t, c, "u", list("a", "1", "b", "1"), 0, "by b")
	mustUrls(t, c, "u 0 1 2 3 4 5 6 7 8 9 10 11 12 13 u")
	mustPut(t, c, "x", nil, reply(), 0)
	mustBody(t, c, "u", list("a", "1", "b", "1"), 0, "by b")
	mustNotFind(t, c, "u", list("a", "1", "b", "2"), 0)
}

func TestFindFreshAndStale(t *testing.T) {
	for _, q := range []struct {
		control     string
		asked       []api.Header
		stored, now int64
		state       int
		old         string
	}{
		{"max-age=5", nil, 10, 10, cache.Fresh, "0"},
		{"max-age=5", nil, 10, 14, cache.Fresh, "4"},
		{"max-age=5", nil, 10, 15, cache.Stale, "5"},
		{"max-age=5", nil, 10, 16, cache.Stale, "6"},
		{"max-age=5", nil, 10, 3, cache.Fresh, "0"}, // a clock that went back
		{"max-age=0", nil, 10, 10, cache.Stale, "0"},
		{"max-age=1", nil, 10, 10, cache.Fresh, "0"},
		{"", nil, 10, 10, cache.Stale, "0"},
		{"max-age=x", nil, 10, 10, cache.Stale, "0"},
		{"max-age=5, no-cache", nil, 10, 10, cache.Stale, "0"},
		{"max-age=5", list(control, "no-cache"), 10, 10, cache.Stale, "0"},
		{"max-age=5", list("x", "y", "Cache-Control", "x, No-Cache=y"), 10, 11, cache.Stale, "1"},
		{"max-age=5", list(control, "x", control, "no-cache"), 10, 11, cache.Stale, "1"},
		{"max-age=5", list(control, "max-age=0"), 10, 11, cache.Fresh, "1"},
		{"max-age=5", list(control, "x=no-cache"), 10, 11, cache.Fresh, "1"},
		{"max-age=5", list("pragma", "no-cache", "x", "no-store"), 10, 11, cache.Fresh, "1"},
		{"max-age=9223372036854775807", nil, 0, math.MaxInt64 - 1, cache.Fresh, "9223372036854775806"},
		{"max-age=9223372036854775807", nil, 0, math.MaxInt64, cache.Stale, "9223372036854775807"},
		{"max-age=9223372036854775807", nil, math.MinInt64, math.MaxInt64, cache.Stale, "9223372036854775807"},
		{"max-age=5", nil, math.MaxInt64, math.MinInt64, cache.Fresh, "0"},
		{"max-age=5", nil, -3, 1, cache.Fresh, "4"},
		{"max-age=5", nil, -3, 2, cache.Stale, "5"},
	} {
		c := cache.New()
		mustPut(t, c, "u", nil, reply(control, q.control, "etag", "t"), q.stored)
		var ask []api.Header
		if q.state == cache.Stale {
			ask = list("if-none-match", "t")
		}
		for range 2 { // what is found stays as it was stored
			mustFind(t, c, "u", q.asked, q.now, q.state, list(control, q.control, "etag", "t", "age", q.old), ask)
		}
	}
}

func TestFindNoStore(t *testing.T) {
	c := cache.New()
	mustPut(t, c, "v", nil, reply(control, long), 0)
	mustPut(t, c, "u", nil, reply(control, long), 0)
	for _, asked := range [][]api.Header{list(control, "no-store"), list("Cache-Control", "no-cache, NO-STORE=x"), list("a", "b", control, "x", control, "no-store")} {
		mustNotFind(t, c, "v", asked, 0)
	}
	mustUrls(t, c, "v u")
	mustState(t, c, "v", list(control, "x=no-store"), 0, cache.Fresh)
}

func TestAsk(t *testing.T) {
	for _, q := range []struct{ headers, ask []api.Header }{
		{nil, nil},
		{list("x", "y", "if-none-match", "t", "if-modified-since", "m"), nil},
		{list("etag", "t"), list("if-none-match", "t")},
		{list("Last-Modified", "m"), list("if-modified-since", "m")},
		{list("last-modified", "m", "x", "y", "ETag", `W/"t"`), list("if-none-match", `W/"t"`, "if-modified-since", "m")},
		{list("etag", "", "last-modified", ""), list("if-none-match", "", "if-modified-since", "")},
		{list("etag", "a", "x", "y", "ETAG", "b", "last-modified", "c", "LAST-MODIFIED", "d"), list("if-none-match", "a, b", "if-modified-since", "c, d")},
		{list("etag", " a ", "last-modified", "\xff\n"), list("if-none-match", " a ", "if-modified-since", "\xff\n")},
		{list("etags", "t", "e-tag", "t", "lastmodified", "m"), nil},
	} {
		c := cache.New()
		words := inTurn(q.headers)
		mustPut(t, c, "stale", nil, reply(words...), 0)
		mustFind(t, c, "stale", nil, 0, cache.Stale, list(append(words, "age", "0")...), q.ask)
		words = append([]string{control, "max-age=5"}, words...)
		mustPut(t, c, "fresh", nil, reply(words...), 0)
		mustFind(t, c, "fresh", nil, 0, cache.Fresh, list(append(words, "age", "0")...), nil)
		mustFind(t, c, "fresh", list(control, "no-cache"), 0, cache.Stale, list(append(words, "age", "0")...), q.ask)
	}
	c := cache.New()
	mustPut(t, c, "u", list("etag", "x", "last-modified", "y"), reply(), 0) // what was asked is no header of the reply
	mustFind(t, c, "u", list("etag", "x", "last-modified", "y"), 0, cache.Stale, list("age", "0"), nil)
}

// many: so many headers of unlike names.
func many(count int) []string {
	var words []string
	for n := range count {
		words = append(words, "n"+strconv.Itoa(n), "v")
	}
	return words
}

// TestFindAge: an age header that was there is reckoned with, and gets what was reckoned.
func TestFindAge(t *testing.T) {
	for _, q := range []struct {
		headers, want []api.Header
		state         int
	}{
		{list("Age", "3"), list("Age", "5"), cache.Stale},
		{list("age", " 3\t", control, "max-age=6"), list("age", "5", control, "max-age=6"), cache.Fresh},
		{list("age", "4", control, "max-age=6"), list("age", "6", control, "max-age=6"), cache.Stale},
		{list("AGE", "0", "x", "y"), list("AGE", "2", "x", "y"), cache.Stale},
		{list("age", "x", control, "max-age=3"), list("age", "2", control, "max-age=3"), cache.Fresh},
		{list("age", "", control, "max-age=3"), list("age", "2", control, "max-age=3"), cache.Fresh},
		{list("age", "-1", control, "max-age=3"), list("age", "2", control, "max-age=3"), cache.Fresh},
		{list("age", "\n"), list("age", "2"), cache.Stale},
		{list("a", "1", "age", "3", "b", "2", "AGE", "4", "c", "3"), list("a", "1", "age", "2", "b", "2", "c", "3"), cache.Stale}, // two are no number
		{list("age", "99999999999999999999", control, "max-age=99999999999999999999"), list("age", "9223372036854775807", control, "max-age=99999999999999999999"), cache.Stale},
		{list("aged", "3"), list("aged", "3", "age", "2"), cache.Stale},
	} {
		c := cache.New()
		mustPut(t, c, "u", nil, reply(inTurn(q.headers)...), 10)
		for range 2 { // what was reckoned is not stored
			mustFind(t, c, "u", nil, 12, q.state, q.want, nil)
		}
	}
}

// TestFindAgeRefused: a list that is full can't have an age header unless it has one.
func TestFindAgeRefused(t *testing.T) {
	for _, count := range []int{api.MaxHeaders - 2, api.MaxHeaders - 1, api.MaxHeaders, api.MaxHeaders + 9} {
		c := cache.New()
		words := many(count)
		mustPut(t, c, "u", nil, reply(append([]string{control, "max-age=5"}, words...)...), 0)
		want := list(append([]string{control, "max-age=5"}, words...)...)
		if count == api.MaxHeaders-2 {
			want = append(want, list("age", "3")...)
		}
		mustFind(t, c, "u", nil, 3, cache.Fresh, want, nil)
		mustFind(t, c, "u", nil, 5, cache.Stale, slices.Concat(want[:count+1], agedTo(want[count+1:], "5")), nil)
		mustPut(t, c, "v", nil, reply(append([]string{"Age", "1"}, words...)...), 0)
		mustFind(t, c, "v", nil, 3, cache.Stale, list(append([]string{"Age", "4"}, words...)...), nil)
	}
}

// agedTo: these headers with that value.
func agedTo(l []api.Header, value string) []api.Header {
	out := slices.Clone(l)
	for i := range out {
		out[i].Value = value
	}
	return out
}

// P17.3

func mustRenew(t *testing.T, c *cache.Cache, url string, asked []api.Header, r api.Reply, now int64, want []api.Header) {
	t.Helper()
	got, ok := c.Renew(url, asked, r, now)
	if text(got.Headers) != text(want) || got.Status != 200 || string(got.Body) != "b" || !ok {
		t.Errorf("Renew(%q, %q, %q, %d): %+v, %v, not %q", url, asked, r.Headers, now, got, ok, want)
	}
}

func mustNotRenew(t *testing.T, c *cache.Cache, url string, asked []api.Header, r api.Reply, now int64) {
	t.Helper()
	before := c.Urls()
	got, ok := c.Renew(url, asked, r, now)
	if got.Status != 0 || len(got.Headers)+len(got.Body) > 0 || ok {
		t.Errorf("Renew(%q, %q, %q, %d): %+v, %v", url, asked, r.Headers, now, got, ok)
	}
	if after := c.Urls(); !slices.Equal(after, before) {
		t.Errorf("a refused Renew turned %q into %q", before, after)
	}
}

// TestRenewHeaders: what the kept headers become.
func TestRenewHeaders(t *testing.T) {
	for _, q := range []struct{ kept, by, want []api.Header }{
		{nil, nil, nil},
		{list("a", "1"), nil, list("a", "1")},
		{nil, list("a", "1"), list("a", "1")},
		{list("a", "1", "b", "2"), list("B", "3", "c", "4"), list("a", "1", "b", "3", "c", "4")},
		{list("a", "1", "x", "y", "A", "2"), list("a", "3"), list("a", "3", "x", "y")},
		{list("a", "1"), list("A", "2", "b", "3", "a", "4"), list("a", "4", "b", "3")},           // in order: the last one holds
		{list("c", "1"), list("z", "1", "y", "2", "Z", "3"), list("c", "1", "z", "3", "y", "2")}, // a name as it came first
		{list("age", "9", "a", "1", "AGE", "8"), nil, list("a", "1")},
		{list("age", "9", "a", "1"), list("Age", "4"), list("a", "1", "Age", "4")},
		{list("aged", "9", "ag", "8"), nil, list("aged", "9", "ag", "8")},
		{nil, list("content-length", "1", "content-encoding", "2", "content-type", "3", "content-range", "4"), nil},
		{nil, list("Content-Length", "1", "CONTENT-ENCODING", "2", "Content-type", "3", "cOnTeNt-rAnGe", "4"), nil},
		{list("Content-Length", "1", "content-encoding", "2", "Content-Type", "3", "content-range", "4"), list("content-length", "5", "Content-Encoding", "6", "content-type", "7", "Content-Range", "8"), list("Content-Length", "1", "content-encoding", "2", "Content-Type", "3", "content-range", "4")},
		{nil, list("content-language", "1", "content-location", "2", "content-security-policy", "3", "content", "4", "content-types", "5", "x-content-type", "6", "contentlength", "7", "content-type ", "8"), list("content-language", "1", "content-location", "2", "content-security-policy", "3", "content", "4", "content-types", "5", "x-content-type", "6", "contentlength", "7")},
		{list("a", "1"), list("", "x", "bad name", "x", "a:", "x", "\xff", "x", "a", "x\ny", "a", "x\x00", "b", "\r", "c", " 2\t"), list("a", "1", "b", "", "c", "2")}, // what is refused is left out
		{list("a", "1"), list("a", strings.Repeat("v", api.MaxText+1), strings.Repeat("n", api.MaxText+1), "x", "b", strings.Repeat("w", api.MaxText)), list("a", "1", "b", strings.Repeat("w", api.MaxText))},
		{list("bad name", "\n", "a", "1"), list("a", "2"), list("bad name", "\n", "a", "2")}, // what was kept is not asked again
		{list("set-cookie", "a", "set-cookie", "b"), list("Set-Cookie", "c", "set-cookie", "d"), list("set-cookie", "d")},
	} {
		c := cache.New()
		mustPut(t, c, "u", nil, reply(inTurn(q.kept)...), 0)
		mustRenew(t, c, "u", nil, api.Reply{Status: 304, Headers: q.by, Body: []byte("no")}, 0, q.want)
		mustRenew(t, c, "u", nil, api.Reply{}, 0, withoutAge(q.want)) // it stays
	}
}

func withoutAge(l []api.Header) []api.Header {
	return slices.DeleteFunc(slices.Clone(l), func(h api.Header) bool { return h.Name == "age" || h.Name == "Age" })
}

// TestRenewFull: of a full list what is known alone is set; the age makes room first.
func TestRenewFull(t *testing.T) {
	c := cache.New()
	mustPut(t, c, "u", nil, reply(many(api.MaxHeaders)...), 0)
	want := list(many(api.MaxHeaders)...)
	want[7].Value, want[9].Value = "w", "x"
	mustRenew(t, c, "u", nil, reply("N7", "w", "new", "1", "n9", "x", "age", "3"), 0, want)
	mustPut(t, c, "v", nil, reply(append(many(api.MaxHeaders-1), "age", "5")...), 0)
	want = append(list(many(api.MaxHeaders-1)...), list("new", "1")...)
	mustRenew(t, c, "v", nil, reply("new", "1", "newer", "2", "age", "3"), 0, want)
}

// TestRenewTime: what is renewed is as old as it comes.
func TestRenewTime(t *testing.T) {
	c := cache.New()
	mustPut(t, c, "u", nil, reply(control, "max-age=5", "age", "3"), 0)
	mustState(t, c, "u", nil, 1, cache.Fresh)
	mustState(t, c, "u", nil, 2, cache.Stale)
	mustRenew(t, c, "u", nil, api.Reply{Status: 304}, 100, list(control, "max-age=5"))
	mustFind(t, c, "u", nil, 104, cache.Fresh, list(control, "max-age=5", "age", "4"), nil)
	mustFind(t, c, "u", nil, 105, cache.Stale, list(control, "max-age=5", "age", "5"), nil)
	mustRenew(t, c, "u", nil, api.Reply{Status: 304, Headers: list("Cache-Control", "max-age=9", "age", "2")}, 200, list(control, "max-age=9", "age", "2"))
	mustFind(t, c, "u", nil, 206, cache.Fresh, list(control, "max-age=9", "age", "8"), nil)
	mustFind(t, c, "u", nil, 207, cache.Stale, list(control, "max-age=9", "age", "9"), nil)
	mustRenew(t, c, "u", nil, api.Reply{Headers: list(control, "max-age=1")}, 50, list(control, "max-age=1")) // a clock that went back
	mustState(t, c, "u", nil, 50, cache.Fresh)
	mustState(t, c, "u", nil, 51, cache.Stale)
}

// TestRenewVary: a row varies as when it was put.
func TestRenewVary(t *testing.T) {
	c := cache.New()
	mustPut(t, c, "u", list("a", "1", "b", "1"), reply(control, long, "vary", "a"), 0)
	mustRenew(t, c, "u", list("a", "1", "b", "2"), api.Reply{Headers: list("vary", "b")}, 0, list(control, long, "vary", "b"))
	mustState(t, c, "u", list("a", "1", "b", "3"), 0, cache.Fresh)
	mustNotFind(t, c, "u", list("a", "2", "b", "2"), 0)
	mustRenew(t, c, "u", list("a", "1"), api.Reply{Headers: list("vary", "*", control, "max-age=99, no-store")}, 0, list(control, "max-age=99, no-store", "vary", "*"))
	mustState(t, c, "u", list("a", "1"), 0, cache.Fresh)
	mustNotFind(t, c, "u", list("b", "2"), 0)
	mustPut(t, c, "u", list("a", "1"), reply(), 0)
	mustUrls(t, c, "u")
}

func TestRenewNone(t *testing.T) {
	c := cache.New()
	mustNotRenew(t, c, "u", nil, reply(control, long), 0)
	mustUrls(t, c, "")
	mustPut(t, c, "u", list("a", "1"), reply(control, long, "vary", "a"), 0)
	mustPut(t, c, "w", nil, reply(), 0)
	by := api.Reply{Status: 304, Headers: list("x", "y")}
	mustNotRenew(t, c, "v", list("a", "1"), by, 0)
	mustNotRenew(t, c, "", list("a", "1"), by, 0)
	mustNotRenew(t, c, "u", nil, by, 0)
	mustNotRenew(t, c, "u", list("a", "2"), by, 0)
	mustNotRenew(t, c, "u", list("a", "1", control, "no-store"), by, 0)
	mustFind(t, c, "u", list("a", "1"), 0, cache.Fresh, list(control, long, "vary", "a", "age", "0"), nil)
	mustRenew(t, c, "u", list("a", "1", control, "no-cache"), by, 0, list(control, long, "vary", "a", "x", "y"))
	c.Drop("u")
	mustNotRenew(t, c, "u", list("a", "1"), by, 0)
}

// TestRenewAnyStatus: no status is asked of the reply that renews, and the kept one stays.
func TestRenewAnyStatus(t *testing.T) {
	c := cache.New()
	mustPut(t, c, "u", nil, reply(), 0)
	for _, status := range []int{304, 200, 404, 0, -1} {
		value := strconv.Itoa(status)
		mustRenew(t, c, "u", nil, api.Reply{Status: status, Headers: list("x", value), Body: []byte("no")}, 0, list("x", value))
	}
}

// TestRenewStored: of several rows, the one that Find would tell, and that one alone.
func TestRenewStored(t *testing.T) {
	c := cache.New()
	putBody(t, c, "u", list("a", "1", "b", "2"), "a", "by a", 0)
	putBody(t, c, "u", list("a", "2", "b", "1"), "b", "by b", 0)
	r, ok := c.Renew("u", list("a", "1", "b", "1"), api.Reply{Headers: list("x", "y")}, 0)
	if string(r.Body) != "by b" || !ok || text(r.Headers) != text(list(control, long, "vary", "b", "x", "y")) {
		t.Errorf("Renew: %+v, %v", r, ok)
	}
	f := c.Find("u", list("a", "1", "b", "2"), 0)
	if string(f.Reply.Body) != "by a" || text(f.Reply.Headers) != text(list(control, long, "vary", "a", "age", "0")) {
		t.Errorf("the other one: %+v", f)
	}
}

// P17.4

func TestDrop(t *testing.T) {
	c := cache.New()
	if c.Drop("") != 0 || c.Drop("u") != 0 {
		t.Error("dropped of nothing")
	}
	for _, url := range []string{"u", "v", "u", "w", "u", "V", ""} {
		mustPut(t, c, url, list("a", strconv.Itoa(c.Len())), reply(control, long, "vary", "a"), 0)
	}
	if got := c.Urls(); !slices.Equal(got, []string{"u", "v", "u", "w", "u", "V", ""}) || c.Len() != 7 {
		t.Errorf("Urls: %q, %d", got, c.Len())
	}
	for _, q := range []struct {
		url   string
		count int
		left  []string
	}{
		{"x", 0, []string{"u", "v", "u", "w", "u", "V", ""}},
		{"U", 0, []string{"u", "v", "u", "w", "u", "V", ""}},
		{"u", 3, []string{"v", "w", "V", ""}},
		{"u", 0, []string{"v", "w", "V", ""}},
		{"", 1, []string{"v", "w", "V"}},
		{"v", 1, []string{"w", "V"}},
		{"V", 1, []string{"w"}},
		{"w", 1, nil},
		{"w", 0, nil},
	} {
		if n := c.Drop(q.url); n != q.count || !slices.Equal(c.Urls(), q.left) || c.Len() != len(q.left) {
			t.Errorf("Drop(%q): %d, left %q, %d", q.url, n, c.Urls(), c.Len())
		}
	}
	mustNotFind(t, c, "u", list("a", "0"), 0)
	mustPut(t, c, "u", nil, reply(), 0)
	mustUrls(t, c, "u")
}

// TestApart: caches don't know of one another.
func TestApart(t *testing.T) {
	one, two := cache.New(), cache.New()
	mustPut(t, one, "u", nil, reply(control, long), 0)
	mustNotFind(t, two, "u", nil, 0)
	if two.Drop("u") != 0 || two.Len() != 0 || one.Len() != 1 {
		t.Error("caches share rows")
	}
}
