package cache_test

import (
	"bytes"
	"math"
	"math/rand"
	"slices"
	"strconv"
	"strings"
	"testing"

	"ostiary/api"
	"ostiary/cache"
)

// roomy: a list with headers in the room behind it, and all of it.
func roomy(words ...string) ([]api.Header, []api.Header) {
	all := append(list(words...), list(control, "no-store", "vary", "*", "age", "9", "etag", "room")...)
	return all[:len(words)/2], all
}

// TestArguments: R2, R5: what is handed in is not changed, and the room behind it is neither read nor written.
func TestArguments(t *testing.T) {
	asked, allAsked := roomy("B", "2", "a", "1")
	headers, allHeaders := roomy("Vary", "a", control, "max-age=5", "x", "y", "x", "z")
	by, allBy := roomy("X", "w", "vary", "q", "new", "1")
	body := []byte("body and room")
	r := api.Reply{Status: 200, Headers: headers, Body: body[:4]}
	wantAsked, wantHeaders, wantBy := slices.Clone(allAsked), slices.Clone(allHeaders), slices.Clone(allBy)
	c := cache.New()
	for range 2 {
		mustPut(t, c, "u", asked, r, 0)
		f := c.Find("u", asked, 1)
		if f.State != cache.Fresh || string(f.Reply.Body) != "body" || text(f.Reply.Headers) != text(headers)+"age: 1\n" {
			t.Errorf("Find: %+v", f)
		}
		got, ok := c.Renew("u", asked, api.Reply{Headers: by, Body: body[:2]}, 2)
		if string(got.Body) != "body" || text(got.Headers) != text(list("Vary", "q", control, "max-age=5", "x", "w", "new", "1")) || !ok {
			t.Errorf("Renew: %+v, %v", got, ok)
		}
		mustState(t, c, "u", asked, 7, cache.Stale)
		mustNotFind(t, c, "u", asked[:1], 3)
	}
	if !slices.Equal(allAsked, wantAsked) || !slices.Equal(allHeaders, wantHeaders) || !slices.Equal(allBy, wantBy) || string(body) != "body and room" {
		t.Errorf("what was given became %q, %q, %q, %q", allAsked, allHeaders, allBy, body)
	}
}

// spoil: writes over all of a list, its spare room too.
func spoil(l []api.Header) {
	l = l[:cap(l)]
	for i := range l {
		l[i] = api.Header{Name: "vary", Value: "spoilt"}
	}
}

func spoilReply(r api.Reply) {
	spoil(r.Headers)
	body := r.Body[:cap(r.Body)]
	for i := range body {
		body[i] = '!'
	}
}

// TestNotKept: R2: a reply, or what was asked, that the caller changes ahead of Put, behind it, behind Find and behind Renew.
func TestNotKept(t *testing.T) {
	c := cache.New()
	r := reply(control, "max-age=5", "etag", "t", "vary", "a")
	asked := list("a", "1")
	r.Headers[1].Value, r.Body[0], asked[0].Value = "s", 'a', "0"
	mustPut(t, c, "v", asked, r, 0)
	r.Headers[1].Value, r.Body[0], asked[0].Value = "t", 'b', "1" // ahead of Put: of one memory twice
	mustPut(t, c, "u", asked, r, 0)
	spoilReply(r)
	spoil(asked)
	want := list(control, "max-age=5", "etag", "t", "vary", "a", "age", "0")
	for range 2 {
		mustFind(t, c, "u", list("a", "1"), 0, cache.Fresh, want, nil)
		mustNotFind(t, c, "u", list("vary", "spoilt"), 0)
		f := c.Find("v", list("a", "0"), 0)
		if string(f.Reply.Body) != "a" || f.Reply.Headers[1].Value != "s" {
			t.Errorf("Find: %+v", f)
		}
		f = c.Find("u", list("a", "1"), 5)
		spoilReply(f.Reply)
		spoil(f.Ask)
		mustFind(t, c, "u", list("a", "1"), 5, cache.Stale, append(want[:3:3], list("age", "5")...), list("if-none-match", "t"))
	}
	by := api.Reply{Headers: list("x", "y", "etag", "n"), Body: []byte("no")}
	got, ok := c.Renew("u", list("a", "1"), by, 0)
	spoilReply(by)
	spoilReply(got)
	want = list(control, "max-age=5", "etag", "n", "vary", "a", "x", "y", "age", "0")
	mustFind(t, c, "u", list("a", "1"), 0, cache.Fresh, want, nil)
	if !ok {
		t.Error("Renew: false")
	}
	got, _ = c.Renew("u", list("a", "1"), api.Reply{}, 0)
	spoilReply(got)
	mustFind(t, c, "u", list("a", "1"), 0, cache.Fresh, want, nil)
	urls := c.Urls()
	urls = urls[:cap(urls)]
	for i := range urls {
		urls[i] = "spoilt"
	}
	mustUrls(t, c, "v u")
}

// TestNotKeptFull: R2, where an age header is refused and the headers go out as they are.
func TestNotKeptFull(t *testing.T) {
	c := cache.New()
	words := many(api.MaxHeaders)
	mustPut(t, c, "u", nil, reply(words...), 0)
	for range 2 {
		f := c.Find("u", nil, 0)
		if text(f.Reply.Headers) != text(list(words...)) {
			t.Errorf("Find: %q", f.Reply.Headers)
		}
		spoilReply(f.Reply)
		r, _ := c.Renew("u", nil, reply("new", "1"), 0)
		if text(r.Headers) != text(list(words...)) {
			t.Errorf("Renew: %q", r.Headers)
		}
		spoilReply(r)
	}
}

// TestAnswersApart: R2: no two lists of answers share memory, their spare room too.
func TestAnswersApart(t *testing.T) {
	c := cache.New()
	mustPut(t, c, "u", nil, reply("etag", "t", "last-modified", "m"), 0)
	one, two := c.Find("u", nil, 0), c.Find("u", nil, 0)
	three, _ := c.Renew("u", nil, api.Reply{}, 0)
	four, _ := c.Renew("u", nil, api.Reply{}, 0)
	spoilReply(one.Reply)
	if text(one.Ask) != "if-none-match: t\nif-modified-since: m\n" {
		t.Errorf("lists of one answer share memory: %q", one.Ask)
	}
	spoil(one.Ask)
	spoilReply(three)
	five := append(four.Headers, list("a", "1")...)
	six := append(two.Reply.Headers, list("b", "2")...)
	if text(five) != "etag: t\nlast-modified: m\na: 1\n" || text(six) != "etag: t\nlast-modified: m\nage: 0\nb: 2\n" || string(two.Reply.Body)+string(four.Body) != "bb" {
		t.Errorf("answers share memory: %q, %q", five, six)
	}
	mustFind(t, c, "u", nil, 0, cache.Stale, list("etag", "t", "last-modified", "m", "age", "0"), list("if-none-match", "t", "if-modified-since", "m"))
}

// TestNilIsEmpty: R4.
func TestNilIsEmpty(t *testing.T) {
	empty := [][]api.Header{nil, {}, make([]api.Header, 0, 4), list(control, "no-store", "vary", "*")[:0]}
	for _, l := range empty {
		for _, asked := range empty {
			for _, body := range [][]byte{nil, {}, []byte("room")[:0]} {
				c := cache.New()
				mustPut(t, c, "", asked, api.Reply{Status: 200, Headers: l, Body: body}, 3)
				for _, again := range empty {
					f := c.Find("", again, 5)
					if f.State != cache.Stale || text(f.Reply.Headers) != "age: 2\n" || len(f.Reply.Body)+len(f.Ask) > 0 {
						t.Errorf("Find: %+v", f)
					}
					r, ok := c.Renew("", again, api.Reply{Headers: l, Body: body}, 3)
					if r.Status != 200 || len(r.Headers)+len(r.Body) > 0 || !ok {
						t.Errorf("Renew: %+v, %v", r, ok)
					}
				}
				mustPut(t, c, "", asked, api.Reply{Status: 200, Headers: l, Body: body}, 3)
				if c.Len() != 1 || c.Drop("") != 1 || c.Len()+len(c.Urls()) != 0 {
					t.Errorf("Len: %d", c.Len())
				}
			}
		}
	}
}

// TestZeroHeaders: R5: names and values that are empty.
func TestZeroHeaders(t *testing.T) {
	c := cache.New()
	l := make([]api.Header, 3)
	mustPut(t, c, "u", l, api.Reply{Status: 200, Headers: l}, 0)
	f := c.Find("u", l, 0)
	if f.State != cache.Stale || text(f.Reply.Headers) != ": \n: \n: \nage: 0\n" {
		t.Errorf("Find: %+v", f)
	}
	r, ok := c.Renew("u", l, api.Reply{Headers: l}, 0)
	if text(r.Headers) != ": \n: \n: \n" || !ok {
		t.Errorf("Renew: %+v, %v", r, ok)
	}
}

// TestEachByte: R5: any bytes may stand in addresses, names, values and bodies; letters of ASCII alone are compared by Lower.
func TestEachByte(t *testing.T) {
	for n := range 256 {
		b := string([]byte{byte(n)})
		c := cache.New()
		url := "u" + b
		r := api.Reply{Status: 200, Headers: list("vary", "x"+b+"y", "h"+b, b), Body: []byte(b)}
		mustPut(t, c, url, list("X"+b+"y", b+"v"), r, 0)
		name := "x" + strings.ToLower(b) + "y"
		if n > 127 {
			name = "x" + b + "y"
		}
		if n == ',' { // these are two names
			name = "x"
			mustPut(t, c, url, list("X", b+"v"), r, 0)
		}
		f := c.Find(url, list(name, b+"v"), 0)
		if string(f.Reply.Body) != b || text(f.Reply.Headers) != text(append(r.Headers[:2:2], list("age", "0")...)) {
			t.Errorf("byte %d: %+v", n, f)
		}
		mustNotFind(t, c, url, list(name, b+"w"), 0)
		mustNotFind(t, c, url+b, list(name, b+"v"), 0)
		if urls := c.Urls(); !slices.Contains(urls, url) || c.Drop(url) != len(urls) {
			t.Errorf("byte %d: %q", n, urls)
		}
	}
}

// TestAnyBytes: R1, R5: any calls end, and what is told holds together.
func TestAnyBytes(t *testing.T) {
	r := rand.New(rand.NewSource(173))
	text := func() string {
		b := make([]byte, r.Intn(5))
		r.Read(b)
		return some(r, string(b), "a", "A, b", "*", "no-store", "no-cache", "max-age=5", "max-age=9223372036854775807", "7", "99999999999999999999")
	}
	headers := func() []api.Header {
		var l []api.Header
		for range r.Intn(5) {
			l = append(l, api.Header{Name: some(r, control, "vary", "age", "etag", "last-modified", "content-type", "a", "b", text()), Value: text()})
		}
		return l
	}
	time := func() int64 {
		return []int64{0, 5, math.MaxInt64, math.MinInt64, int64(r.Uint64()), int64(r.Intn(20))}[r.Intn(6)]
	}
	c := cache.New()
	for range 60000 {
		url, asked, by, now := some(r, "", "u", text()), headers(), api.Reply{Status: []int{200, 200, 304, -1}[r.Intn(4)], Headers: headers(), Body: []byte(text())}, time()
		beforeAsked, beforeBy, beforeBody := slices.Clone(asked), slices.Clone(by.Headers), bytes.Clone(by.Body)
		switch r.Intn(9) {
		case 0:
			c.Drop(url)
		case 1, 2:
			if got, ok := c.Renew(url, asked, by, now); ok != (got.Status == 200) || !ok && len(got.Headers)+len(got.Body) > 0 {
				t.Fatalf("Renew(%q, %q, %q, %d): %+v, %v", url, asked, by.Headers, now, got, ok)
			}
		case 3, 4, 5:
			f := c.Find(url, asked, now)
			if f.State != cache.Stale && len(f.Ask) > 0 || f.State == cache.None && len(f.Reply.Headers)+len(f.Reply.Body)+f.Reply.Status > 0 {
				t.Fatalf("Find(%q, %q, %d): %+v", url, asked, now, f)
			}
		default:
			if c.Put(url, asked, by, now) && (c.Drop(url) == 0 || by.Status != 200) {
				t.Fatalf("Put(%q, %q, %+v, %d)", url, asked, by, now)
			}
			c.Put(url, asked, by, now)
		}
		if c.Len() > api.MaxStored || len(c.Urls()) != c.Len() {
			t.Fatalf("%d rows", c.Len())
		}
		if !slices.Equal(asked, beforeAsked) || !slices.Equal(by.Headers, beforeBy) || !bytes.Equal(by.Body, beforeBody) {
			t.Fatalf("what was given became %q, %q, %q", asked, by.Headers, by.Body)
		}
	}
}

// TestLong: R1: the calls end, and soon, of long lists and texts too.
func TestLong(t *testing.T) {
	c := cache.New()
	var names, asked []string
	for n := range 1 << 11 {
		names = append(names, "n"+strconv.Itoa(n))
	}
	for n := range api.MaxHeaders {
		asked = append(asked, "N"+strconv.Itoa(n*31), "v")
	}
	r := reply(control, long, "vary", strings.Join(names, ","))
	r.Body = bytes.Repeat([]byte("b"), 1<<20)
	for n := range api.MaxStored {
		mustPut(t, c, "u", list(append(asked, "n1", strconv.Itoa(n))...), r, 0)
	}
	if f := c.Find("u", list(append(asked, "n1", "0")...), 0); f.State != cache.Fresh || len(f.Reply.Body) != 1<<20 {
		t.Errorf("Find: %d, %d", f.State, len(f.Reply.Body))
	}
	mustNotFind(t, c, "u", nil, 0)
	url := strings.Repeat("u", 1<<20)
	mustPut(t, c, url, nil, reply(slices.Repeat([]string{"x", "y"}, 1<<16)...), 0)
	if f := c.Find(url, nil, 0); f.State != cache.Stale || len(f.Reply.Headers) != 1<<16 {
		t.Errorf("Find: %d, %d", f.State, len(f.Reply.Headers))
	}
	got, ok := c.Renew(url, nil, reply(slices.Repeat([]string{"X", "z", "content-type", "v"}, 1<<12)...), 0)
	if text(got.Headers) != "x: z\n" || !ok {
		t.Errorf("Renew: %d, %v", len(got.Headers), ok)
	}
	if c.Drop(url) != 1 || c.Drop("u") != api.MaxStored-1 {
		t.Errorf("left: %d", c.Len())
	}
}
