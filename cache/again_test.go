package cache_test

import (
	"math/rand"
	"regexp"
	"slices"
	"sort"
	"strconv"
	"strings"
	"testing"

	"ostiary/api"
	"ostiary/cache"
)

// A second reading of the promises: rows with the numbers of the calls that stored and used them, in no order, and texts by patterns.

type kept struct {
	url    string
	vary   map[string]string // by name: the values in brackets, so that none is another text than an empty one
	reply  api.Reply
	time   int64
	stored int
	used   int
}

type model struct {
	rows  []*kept
	calls int
}

// bracketed: the values of all headers of a name, each in brackets.
func bracketed(l []api.Header, name string) string {
	var b strings.Builder
	for _, h := range l {
		if strings.EqualFold(h.Name, name) {
			b.WriteString("[" + h.Value + "]")
		}
	}
	return b.String()
}

// said: the values of all headers of a name, parted by `, `; what no brackets stand around is none.
func said(l []api.Header, name string) (string, bool) {
	s := bracketed(l, name)
	return strings.ReplaceAll(strings.TrimSuffix(strings.TrimPrefix(s, "["), "]"), "][", ", "), s != ""
}

func says(l []api.Header, pattern string) bool {
	s, _ := said(l, control)
	return regexp.MustCompile(`(?i)(^|,) *` + pattern + ` *(,|$)`).MatchString(s)
}

var (
	maximum = regexp.MustCompile(`max-age=([0-9]+)`)
	number  = regexp.MustCompile(`^[0-9]+$`)
)

func oldness(l []api.Header, stored, now int64) int64 {
	old := max(now-stored, 0)
	if s, _ := said(l, "age"); number.MatchString(s) {
		n, _ := strconv.ParseInt(s, 10, 64)
		old += n
	}
	return old
}

func (m *model) meant(k *kept, url string, asked []api.Header) bool {
	is := k.url == url
	for name, was := range k.vary {
		is = is && bracketed(asked, name) == was
	}
	return is
}

func (m *model) put(url string, asked []api.Header, r api.Reply, now int64) bool {
	vary, _ := said(r.Headers, "vary")
	if r.Status != 200 || says(r.Headers, "no-store") || strings.Contains(vary, "*") || says(asked, "no-store") {
		return false
	}
	m.rows = slices.DeleteFunc(m.rows, func(k *kept) bool { return m.meant(k, url, asked) })
	if len(m.rows) == 16 {
		oldest := slices.MinFunc(m.rows, func(a, b *kept) int { return a.used - b.used })
		m.rows = slices.DeleteFunc(m.rows, func(k *kept) bool { return k == oldest })
	}
	k := &kept{url: url, vary: map[string]string{}, reply: r, time: now, stored: m.calls, used: m.calls}
	for _, name := range strings.FieldsFunc(vary, func(c rune) bool { return c == ',' || c == ' ' }) {
		k.vary[strings.ToLower(name)] = bracketed(asked, name)
	}
	m.rows = append(m.rows, k)
	return true
}

// told: the row that Find tells; nil: none.
func (m *model) told(url string, asked []api.Header) *kept {
	var last *kept
	for _, k := range m.rows {
		if m.meant(k, url, asked) && !says(asked, "no-store") && (last == nil || k.stored > last.stored) {
			last = k
		}
	}
	if last != nil {
		last.used = m.calls
	}
	return last
}

// setAgain: the place of the first one of the name, or the end, if there is room.
func setAgain(l []api.Header, name, value string) []api.Header {
	var out []api.Header
	done := false
	for _, h := range l {
		if !strings.EqualFold(h.Name, name) {
			out = append(out, h)
		} else if !done {
			out = append(out, api.Header{Name: h.Name, Value: value})
			done = true
		}
	}
	if !done && len(l) < 64 {
		out = append(out, api.Header{Name: name, Value: value})
	}
	return out
}

func (m *model) find(url string, asked []api.Header, now int64) cache.Found {
	k := m.told(url, asked)
	if k == nil {
		return cache.Found{}
	}
	l := k.reply.Headers
	old := oldness(l, k.time, now)
	f := cache.Found{State: cache.Stale, Reply: k.reply}
	f.Reply.Headers = setAgain(l, "age", strconv.FormatInt(old, 10))
	all, _ := said(l, control)
	if n := maximum.FindStringSubmatch(all); n != nil && !says(l, "no-cache") && !says(asked, "no-cache") {
		if most, _ := strconv.ParseInt(n[1], 10, 64); most > old {
			f.State = cache.Fresh
			return f
		}
	}
	for _, pair := range [][2]string{{"etag", "if-none-match"}, {"last-modified", "if-modified-since"}} {
		if value, is := said(l, pair[0]); is {
			f.Ask = append(f.Ask, api.Header{Name: pair[1], Value: value})
		}
	}
	return f
}

var leftOut = regexp.MustCompile(`^(?i)content-(length|encoding|type|range)$|[^a-zA-Z-]|^$`)

func (m *model) renew(url string, asked []api.Header, r api.Reply, now int64) (api.Reply, bool) {
	k := m.told(url, asked)
	if k == nil {
		return api.Reply{}, false
	}
	var l []api.Header
	for _, h := range k.reply.Headers {
		if !strings.EqualFold(h.Name, "age") {
			l = append(l, h)
		}
	}
	for _, h := range r.Headers {
		if !leftOut.MatchString(h.Name) && !strings.Contains(h.Value, "\n") {
			l = setAgain(l, h.Name, h.Value)
		}
	}
	k.reply.Headers, k.time, k.stored = l, now, m.calls
	return k.reply, true
}

func (m *model) drop(url string) int {
	before := len(m.rows)
	m.rows = slices.DeleteFunc(m.rows, func(k *kept) bool { return k.url == url })
	return before - len(m.rows)
}

func (m *model) urls() []string {
	rows := slices.Clone(m.rows)
	sort.Slice(rows, func(i, j int) bool { return rows[i].used < rows[j].used })
	var out []string
	for _, k := range rows {
		out = append(out, k.url)
	}
	return out
}

func some(r *rand.Rand, of ...string) string { return of[r.Intn(len(of))] }

// someAsked: of few names and values, so that rows are meant often.
func someAsked(r *rand.Rand) []api.Header {
	var l []api.Header
	for range r.Intn(4) {
		l = append(l, api.Header{Name: some(r, "a", "A", "b", "B", "c"), Value: some(r, "1", "1", "2", "")})
	}
	if r.Intn(6) == 0 {
		l = append(l, api.Header{Name: some(r, control, "Cache-Control"), Value: some(r, "no-cache", "x, No-Cache", "no-store", "max-age=0")})
	}
	return l
}

func someHeaders(r *rand.Rand) []api.Header {
	var l []api.Header
	add := func(odds int, name, value string) {
		if r.Intn(odds) == 0 {
			l = append(l, api.Header{Name: some(r, name, name, strings.ToUpper(name)), Value: value})
		}
	}
	add(2, "x", some(r, "1", "2"))
	add(1, control, some(r, "max-age=5", "max-age=9", "x, max-age=20", "max-age=20, no-cache", "y"))
	add(12, control, some(r, "no-store", "x, No-Store"))
	add(2, "vary", some(r, "a", "b", "A, b", "c", "a, a", "", "*", "c, a"))
	add(5, "vary", some(r, "b", "c"))
	add(3, "age", some(r, "0", "1", "3", "x", ""))
	add(9, "age", some(r, "0", "1"))
	add(3, "etag", some(r, "t", "u", ""))
	add(9, "etag", "v")
	add(3, "last-modified", some(r, "m", "n"))
	add(3, some(r, "content-type", "content-length", "content-range", "content-encoding", "content-language"), some(r, "1", "2"))
	add(9, some(r, "bad name", "", "z", "x"), some(r, "1", "\n2\n3"))
	if r.Intn(20) == 0 {
		l = append(l, list(manyLetters(60+r.Intn(6)-len(l))...)...)
	}
	r.Shuffle(len(l), func(i, j int) { l[i], l[j] = l[j], l[i] })
	return l
}

// manyLetters: so many headers of unlike names, of letters alone.
func manyLetters(count int) []string {
	var words []string
	for n := range count {
		words = append(words, "n"+strings.Repeat("o", n), "v")
	}
	return words
}

func someReply(r *rand.Rand) api.Reply {
	status := 200
	if r.Intn(8) == 0 {
		status = []int{0, 201, 206, 304, 404}[r.Intn(5)]
	}
	return api.Reply{Status: status, Headers: someHeaders(r), Body: []byte(strconv.Itoa(r.Intn(1000)))}
}

func sameReply(a, b api.Reply) bool {
	return a.Status == b.Status && slices.Equal(a.Headers, b.Headers) && string(a.Body) == string(b.Body)
}

// step: one call of both; what differs, or the empty text.
func step(r *rand.Rand, c *cache.Cache, m *model, now int64, seen map[string]int) string {
	url, asked := "u"+strconv.Itoa(r.Intn(7)), someAsked(r)
	m.calls++
	switch n := r.Intn(100); {
	case n < 45:
		p := someReply(r)
		want := m.put(url, asked, p, now)
		seen["put "+strconv.FormatBool(want)]++
		if c.Put(url, asked, p, now) != want {
			return "Put"
		}
	case n < 80:
		want := m.find(url, asked, now)
		seen["find "+strconv.Itoa(want.State)]++
		seen["asks "+strconv.Itoa(len(want.Ask))]++
		got := c.Find(url, asked, now)
		if got.State != want.State || !sameReply(got.Reply, want.Reply) || !slices.Equal(got.Ask, want.Ask) {
			return "Find"
		}
	case n < 98:
		by := someReply(r)
		want, is := m.renew(url, asked, by, now)
		seen["renew "+strconv.FormatBool(is)]++
		if got, ok := c.Renew(url, asked, by, now); ok != is || !sameReply(got, want) {
			return "Renew"
		}
	default:
		want := m.drop(url)
		seen["drop "+strconv.Itoa(min(want, 2))]++
		if c.Drop(url) != want {
			return "Drop"
		}
	}
	if c.Len() != len(m.rows) || !slices.Equal(c.Urls(), m.urls()) {
		return "Urls"
	}
	if c.Len() == 16 {
		seen["full"]++
	}
	return ""
}

func TestAgain(t *testing.T) {
	r := rand.New(rand.NewSource(171))
	seen := map[string]int{}
	for range 400 {
		c, m := cache.New(), &model{}
		now := int64(0)
		for n := range 250 {
			if r.Intn(2) == 0 {
				now += int64(r.Intn(4))
			}
			if bad := step(r, c, m, now, seen); bad != "" {
				t.Fatalf("call %d at %d: %s", n, now, bad)
			}
		}
	}
	for _, word := range []string{"put true", "put false", "find 0", "find 1", "find 2", "asks 0", "asks 1", "asks 2", "renew true", "renew false", "drop 0", "drop 1", "drop 2", "full"} {
		if seen[word] < 150 {
			t.Errorf("too few of %s: %v", word, seen)
		}
	}
}

// TestFollows: P17.5: what is found Fresh was put or renewed no longer ago than it says, and there are never more rows than may be.
func TestFollows(t *testing.T) {
	r := rand.New(rand.NewSource(172))
	c := cache.New()
	put := map[string]int64{}
	says := map[string]int64{}
	fresh := 0
	for now := range int64(30000) {
		url := "u" + strconv.Itoa(r.Intn(30))
		most := int64(r.Intn(40))
		l := list(control, "max-age="+strconv.FormatInt(most, 10))
		switch r.Intn(4) {
		case 0:
			c.Put(url, nil, api.Reply{Status: 200, Headers: l}, now)
			put[url], says[url] = now, most
		case 1:
			if _, ok := c.Renew(url, nil, api.Reply{Headers: l}, now); ok {
				put[url], says[url] = now, most
			}
		default:
			if f := c.Find(url, nil, now); f.State == cache.Fresh {
				fresh++
				if age, _ := said(f.Reply.Headers, "age"); now-put[url] >= says[url] || age != strconv.FormatInt(now-put[url], 10) {
					t.Fatalf("%d: %s of %d, that says %d, is fresh, of age %s", now, url, put[url], says[url], age)
				}
			}
		}
		if n := c.Len(); n > api.MaxStored || n != len(c.Urls()) {
			t.Fatalf("%d rows", n)
		}
	}
	if fresh < 1000 {
		t.Errorf("too few: %d", fresh)
	}
}
