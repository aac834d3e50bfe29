package meta_test

import (
	"math/rand"
	"regexp"
	"slices"
	"strings"
	"testing"

	"ostiary/api"
	"ostiary/meta"
	"ostiary/origin"
	"ostiary/url"
)

// A second reading of the promises, over the texts of addresses.

func some(r *rand.Rand, of ...string) string { return of[r.Intn(len(of))] }

// someAddress: one that parses, and often one near to https://a.b.com/.
func someAddress(r *rand.Rand) string {
	if r.Intn(6) == 0 {
		return some(r, "data:x", "about:blank", "blob:https://a.b.com/1", "blob:https://c.b.com/", "blob:http://a.b.com/1", "blob:x", "file:///x", "a://a.b.com/", "blob:ws://localhost/")
	}
	return some(r, "https", "https", "https", "http", "ws", "wss", "ftp") + "://" + some(r, "", "", "u:p@") + some(r, "a.b.com", "a.b.com", "c.b.com", "b.com", "b.co.uk", "a.b.co.uk", "x.co.uk", "localhost", "127.0.0.1", "1.2.3.4", "[::1]", "[::2]", "x") + some(r, "", "", "", ":443", ":80", ":81") + some(r, "/", "/x?q", "/#f", "?https://a.b.com/")
}

var (
	place = regexp.MustCompile(`^(?:blob:(https?)|(https?|wss?|ftp))://(?:[^/?#]*@)?(\[[^\]]*\]|[^/?#:]*)(?::([0-9]+))?(?:[/?#]|$)`)
	group = regexp.MustCompile(`(?:[^.]+\.)?(?:[^.]+\.uk|[^.]+)$`)
	plain = regexp.MustCompile(`^(?:\[.*|[0-9.]*|[^.]*)$`)
	sure  = regexp.MustCompile(`^(?:blob:)?(?:(?:https|wss|data|about):|[a-z]+://(?:[^/?#]*@)?(?:localhost|127[0-9.]+|\[::1\])(?:[:/?#]|$))`)
)

// placeOf: scheme, site and port (the empty text: its own) of an address's text; empty ones, if it is Opaque.
func placeOf(text string) (scheme, host, site, port string) {
	m := place.FindStringSubmatch(text)
	if m == nil {
		return
	}
	scheme, host, port = m[1]+m[2], m[3], m[4]
	site = host
	if !plain.MatchString(host) {
		site = group.FindString(host)
	}
	return
}

func siteAgain(self string, l []string) string {
	far := 0
	scheme, host, site, port := placeOf(self)
	for _, text := range l {
		scheme2, host2, site2, port2 := placeOf(text)
		switch {
		case scheme == "" || scheme2 == "" || scheme != scheme2 || site != site2:
			far = max(far, 2)
		case host != host2 || port != port2:
			far = max(far, 1)
		}
	}
	return []string{"same-origin", "same-site", "cross-site"}[far]
}

// someRequest: an origin's address, and those that a request went to, with their texts as they are written.
func someRequest(r *rand.Rand, t *testing.T) (self api.URL, l []api.URL, texts []string) {
	self = at(t, someAddress(r))
	if r.Intn(2) == 0 {
		self = at(t, "https://a.b.com/")
	}
	for range r.Intn(4) {
		u := at(t, someAddress(r))
		if r.Intn(4) == 0 {
			u = self
		}
		l, texts = append(l, u), append(texts, url.Text(u))
	}
	return
}

func TestSiteAndHeadersAgain(t *testing.T) {
	r := rand.New(rand.NewSource(151))
	seen, told := map[string]int{}, [2]int{}
	for range 100000 {
		self, l, texts := someRequest(r, t)
		want := siteAgain(url.Text(self), texts)
		if got := meta.Site(origin.Of(self), l); got != want {
			t.Fatalf("Site(%s; %q): %s, not %s", url.Text(self), texts, got, want)
		}
		seen[want]++
		mode, dest := r.Intn(6)-1, r.Intn(9)-1
		got := meta.Headers(origin.Of(self), l, mode, dest)
		if len(l) == 0 || !sure.MatchString(texts[len(l)-1]) {
			if len(got) != 0 {
				t.Fatalf("Headers(%s; %q): %q", url.Text(self), texts, got)
			}
			told[0]++
			continue
		}
		if wanted := list("sec-fetch-site", want, "sec-fetch-mode", meta.Mode(mode), "sec-fetch-dest", meta.Dest(dest)); !slices.Equal(got, wanted) {
			t.Fatalf("Headers(%s; %q; %d, %d): %q", url.Text(self), texts, mode, dest, got)
		}
		told[1]++
	}
	if len(seen) != 3 || min(seen["same-origin"], seen["same-site"], seen["cross-site"], told[0], told[1]) < 1000 {
		t.Errorf("too few: %v, %v", seen, told)
	}
}

// TestFurtherIsNeverNearer: P15.5: with one more address a request is as far as before, or farther.
func TestFurtherIsNeverNearer(t *testing.T) {
	r := rand.New(rand.NewSource(152))
	far := func(s string) int { return slices.Index([]string{"same-origin", "same-site", "cross-site"}, s) }
	for range 50000 {
		self, l, texts := someRequest(r, t)
		o := origin.Of(self)
		for n := range l {
			before, now := far(meta.Site(o, l[:n])), far(meta.Site(o, l[:n+1]))
			if before < 0 || now < before {
				t.Fatalf("Site(%s; %q): %d, and with one more %d", url.Text(self), texts[:n], before, now)
			}
		}
		whole := meta.Site(o, l)
		r.Shuffle(len(l), func(i, j int) { l[i], l[j] = l[j], l[i] })
		if got := meta.Site(o, l); got != whole {
			t.Fatalf("Site(%s; %q): %s, and in another order %s", url.Text(self), texts, whole, got)
		}
	}
}

// TestSharesAgain: what a request of one address is called says what each value permits.
func TestSharesAgain(t *testing.T) {
	r := rand.New(rand.NewSource(153))
	seen := [2]int{}
	for range 100000 {
		self, u := at(t, someAddress(r)), at(t, someAddress(r))
		if r.Intn(2) == 0 {
			self = at(t, "https://a.b.com/")
		}
		var l []api.Header
		var values []string
		for range r.Intn(4) {
			name, value := some(r, policy, "Cross-Origin-Resource-Policy", "x", "x", timing), some(r, "same-origin", "same-site", "same-site", "cross-origin", "Same-Origin", "")
			l = append(l, api.Header{Name: name, Value: value})
			if strings.EqualFold(name, policy) {
				values = append(values, value)
			}
		}
		want := true
		if len(values) == 1 && strings.HasPrefix(values[0], "same-") {
			near := siteAgain(url.Text(self), []string{url.Text(u)})
			want = near == "same-origin" || near == values[0]
		}
		if got := meta.Shares(l, origin.Of(self), u); got != want {
			t.Fatalf("Shares(%q, %s, %s): %v", l, url.Text(self), url.Text(u), got)
		}
		if want {
			seen[1]++
		} else {
			seen[0]++
		}
	}
	if slices.Min(seen[:]) < 10000 {
		t.Errorf("too few: %v", seen)
	}
}

// pieces: what of a value stands in quotes or not, up to a comma.
var pieces = regexp.MustCompile(`(?s)(?:"(?:[^"\\]|\\.)*(?:"|\\?$)|[^",])*(?:,|$)`)

// TestTimedAgain: pieces told by a pattern.
func TestTimedAgain(t *testing.T) {
	r := rand.New(rand.NewSource(154))
	seen := [2]int{}
	for range 100000 {
		self := at(t, someAddress(r))
		text := origin.Text(origin.Of(self))
		var l []api.Header
		var values []string
		for range r.Intn(4) {
			name := some(r, timing, timing, "Timing-Allow-Origin", "x")
			var value strings.Builder
			for range r.Intn(5) {
				value.WriteString(some(r, "*", text, "null", ",", ",", ", ", " ", `"`, `\`, "x", "https://a.b.com"))
			}
			l = append(l, api.Header{Name: name, Value: value.String()})
			if name != "x" {
				values = append(values, value.String())
			}
		}
		want := false
		if len(values) > 0 {
			for _, piece := range pieces.FindAllString(strings.Join(values, ", "), -1) {
				piece = strings.Trim(strings.TrimSuffix(piece, ","), "\t ")
				want = want || piece == "*" || piece == text
			}
		}
		if got := meta.Timed(l, origin.Of(self)); got != want {
			t.Fatalf("Timed(%q, %s): %v", l, text, got)
		}
		if want {
			seen[1]++
		} else {
			seen[0]++
		}
	}
	if slices.Min(seen[:]) < 10000 {
		t.Errorf("too few: %v", seen)
	}
}
