package source_test

import (
	"cmp"
	"math/big"
	"math/rand"
	"net/url"
	"regexp"
	"slices"
	"strings"
	"testing"

	"ostiary/api"
	"ostiary/integrity"
	"ostiary/origin"
	"ostiary/source"
	address "ostiary/url"
)

// A second reading of the promises, by patterns.

var (
	alone   = regexp.MustCompile(`^([A-Za-z][A-Za-z0-9+.-]*):$`)
	whole   = regexp.MustCompile(`(?s)^(?:([A-Za-z][A-Za-z0-9+.-]*)://)?([^:/]*)(:[^/]*)?(/.*)?$`)
	capital = regexp.MustCompile(`[A-Z]`)
	escape  = regexp.MustCompile(`%[0-9A-Fa-f]{2}`)
	decimal = regexp.MustCompile(`^:[0-9]+$`)
)

func lower(s string) string { return capital.ReplaceAllStringFunc(s, strings.ToLower) }

func plain(s string) string {
	return escape.ReplaceAllStringFunc(s, func(x string) string {
		c, _ := url.PathUnescape(x)
		return c
	})
}

func schemeAgain(want, has string) bool {
	return want == has || slices.Contains([]string{"http https", "ws wss", "http ws", "http wss"}, want+" "+has)
}

func oneAgain(s string, u, page api.URL, hops int) bool {
	if s == "*" {
		return slices.Contains([]string{"http", "https", "ws", "wss", page.Scheme}, u.Scheme)
	}
	if lower(s) == "'self'" {
		return origin.Same(origin.Of(u), origin.Of(page)) || u.Host == page.Host && schemeAgain(page.Scheme, u.Scheme) && max(u.Port, page.Port) == -1
	}
	if strings.HasPrefix(s, "'") {
		return false
	}
	if m := alone.FindStringSubmatch(s); m != nil {
		return schemeAgain(lower(m[1]), u.Scheme)
	}
	m := whole.FindStringSubmatch(s)
	scheme := page.Scheme
	if m[1] != "" {
		scheme = lower(m[1])
	}
	return schemeAgain(scheme, u.Scheme) && u.Host != "" && hostAgain(lower(m[2]), u.Host) && portAgain(m[3], u) && (hops != 0 || pathAgain(m[4], u.Path))
}

// hostAgain: label by label, from the end on.
func hostAgain(name, host string) bool {
	if name == "*" || name == "" {
		return name != ""
	}
	if name[0] != '*' || len(name) < 3 || name[1] != '.' {
		return name == host
	}
	want, has := strings.Split(name, ".")[1:], strings.Split(host, ".")
	more := len(has) - len(want)
	return more > 0 && slices.Equal(has[more:], want) && strings.Join(has[:more], ".") != ""
}

func portAgain(text string, u api.URL) bool {
	port := u.Port
	if port == -1 {
		port = map[string]int{"http": 80, "https": 443, "ws": 80, "wss": 443, "ftp": 21}[u.Scheme]
		port = cmp.Or(port, -1)
	}
	if text == "" || text == ":*" {
		return text != "" || u.Port == -1
	}
	if !decimal.MatchString(text) {
		return false
	}
	n, _ := new(big.Int).SetString(text[1:], 10)
	return n.Cmp(big.NewInt(int64(port))) == 0 || n.Cmp(big.NewInt(80)) == 0 && port == 443 && (u.Scheme == "https" || u.Scheme == "wss")
}

func pathAgain(path string, parts []string) bool {
	if path == "" || path == "/" {
		return true
	}
	var has []string
	for _, x := range parts {
		has = append(has, plain(x))
	}
	var want []string
	for _, x := range strings.Split(path, "/")[1:] {
		want = append(want, plain(x))
	}
	if strings.HasSuffix(path, "/") {
		want = want[:len(want)-1]
		if len(has) <= len(want) {
			return false
		}
		has = has[:len(want)]
	}
	return slices.Equal(has, want)
}

func anyAgain(l []string, u, page api.URL, hops int, nonce, metadata string) bool {
	for _, s := range l {
		if oneAgain(s, u, page, hops) {
			return true
		}
		if nonce != "" && len(s) > 7 && lower(s[:7]) == "'nonce-" && s[7:] == nonce+"'" {
			return true
		}
	}
	items := integrity.Parse(metadata)
	found := 0
	for _, x := range items {
		head := map[int]string{256: "'sha256-", 384: "'sha384-", 512: "'sha512-"}[x.Bits]
		for _, s := range l {
			if len(s) >= 8 && lower(s[:8]) == head && s[8:] == x.Want+"'" {
				found++
				break
			}
		}
	}
	return found > 0 && found == len(items)
}

func some(r *rand.Rand, of ...string) string { return of[r.Intn(len(of))] }

func someSource(r *rand.Rand) string {
	switch r.Intn(12) {
	case 0:
		return some(r, "*", "'self'", "'SELF'", "'none'", "'x", "", "/", ":", "http:", "HTTPS:", "a:", "data:", "1:", "ws:", "'self'/x")
	case 1:
		var b strings.Builder
		for range r.Intn(8) {
			b.WriteString(some(r, "*", ".", ":", "/", "//", "://", "h", "b", "http", "a", "80", "%78", "x", "'", "H", "\xff", "0"))
		}
		return b.String()
	}
	scheme := some(r, "", "", "", "http://", "HTTP://", "https://", "ws://", "wss://", "a://", "A://", "ftp://", "1://", "http:", ":")
	host := some(r, "h", "h", "H", "b.h", "*", "*", "*.h", "*.H", "*.b.h", "*.", "*..h", "", "hh", "*h")
	port := some(r, "", "", "", ":*", ":*", ":80", ":443", ":81", ":080", ":", ":x", ":21", ":8*", ":0")
	path := some(r, "", "", "/", "/x", "/x/", "/x/y", "/%78", "//", "/x//", "/X", "/x%2Fy", "/x/y/", "/x?q", "/%2f")
	return scheme + host + port + path
}

func someAddress(r *rand.Rand) string {
	if r.Intn(10) == 0 {
		return some(r, "data:x", "a:x", "a:/x", "a:///x", "blob:http://h/", "blob:https://h:81/x", "about:blank", "a:", "blob:x")
	}
	scheme := some(r, "http", "http", "https", "https", "ws", "wss", "a", "ftp")
	host := some(r, "h", "h", "b.h", "a.b.h", ".h", "*.", "hh", "[::1]", "H")
	port := some(r, "", "", "", ":80", ":443", ":81", ":21", ":0")
	path := some(r, "", "/", "/x", "/x/", "/x/y", "/%78/y", "//", "/x//y", "/X", "/x%2Fy", "/x/y/z", "/x?q#f", "/%2F")
	return scheme + "://" + host + port + path
}

// somePage: often one from which most schemes are permitted.
func somePage(r *rand.Rand) string { return some(r, "http://h/", "http://p/", someAddress(r)) }

func TestOneAgain(t *testing.T) {
	r := rand.New(rand.NewSource(111))
	yes := 0
	for range 200000 {
		s, u, page, hops := someSource(r), at(t, someAddress(r)), at(t, somePage(r)), max(r.Intn(4)-2, 0)
		want := oneAgain(s, u, page, hops)
		if want {
			yes++
		}
		if source.One(s, u, page, hops) != want {
			t.Fatalf("One(%q, %s, %s, %d): %v", s, address.Text(u), address.Text(page), hops, !want)
		}
	}
	if yes < 4000 {
		t.Errorf("too few: %d", yes)
	}
}

// TestOneEachByte: each byte at each place of a source.
func TestOneEachByte(t *testing.T) {
	page := at(t, "http://p/")
	for _, u := range []api.URL{at(t, "http://a.h:81/x/y"), at(t, "https://a.h/x/"), at(t, "a.h:x")} {
		for _, s := range []string{"http://a.h:81/x/y", "*.h/x/", "a.h:", "'self'", "*", "*:*", "http:"} {
			for i := range len(s) + 1 {
				for c := range 256 {
					for _, x := range []string{s[:i] + oneByte(c) + s[i:], s[:max(i-1, 0)] + oneByte(c) + s[i:]} {
						if want := oneAgain(x, u, page, 0); source.One(x, u, page, 0) != want {
							t.Errorf("One(%q, %s): %v", x, address.Text(u), !want)
						}
					}
				}
			}
		}
	}
}

func TestAnyAgain(t *testing.T) {
	r := rand.New(rand.NewSource(112))
	quoted := func() string {
		return some(r, "'nonce-", "'NONCE-", "'sha256-", "'SHA256-", "'sha384-", "'sha512-", "'Sha512-", "sha256-", "'md5-", "'nonce", "'") + some(r, "", "a", "a", "A", "b", "a-b") + some(r, "'", "'", "'", "", "''")
	}
	yes := map[bool]int{}
	for range 100000 {
		l := make([]string, r.Intn(9))
		for i := range l {
			l[i] = quoted()
			if r.Intn(6) == 0 {
				l[i] = someSource(r)
			}
		}
		nonce := some(r, "", "", "a", "A", "b", "a-b", "'")
		var pieces []string
		for range 1 + r.Intn(3) {
			pieces = append(pieces, some(r, "sha256-", "sha256-", "SHA256-", "sha384-", "sha512-", "md5-", "sha256")+some(r, "", "a", "a", "A", "b", "a-b")+some(r, "", "", "?o"))
		}
		metadata := strings.Join(pieces, some(r, " ", "\t", "\n "))
		u, page, hops := at(t, someAddress(r)), at(t, somePage(r)), max(r.Intn(4)-2, 0)
		want := anyAgain(l, u, page, hops, nonce, metadata)
		if source.Any(l, u, page, hops, nonce, metadata) != want {
			t.Fatalf("Any(%q, %s, %s, %d, %q, %q): %v", l, address.Text(u), address.Text(page), hops, nonce, metadata, !want)
		}
		if want && !slices.ContainsFunc(l, func(s string) bool { return oneAgain(s, u, page, hops) }) {
			yes[nonce == ""]++
		}
	}
	if min(yes[false], yes[true]) < 500 {
		t.Errorf("too few: %v", yes)
	}
}

// TestWithoutPathAgain: P11.4, of sources and addresses of all sorts.
func TestWithoutPathAgain(t *testing.T) {
	r := rand.New(rand.NewSource(113))
	meant := 0
	for range 200000 {
		s, u, page, hops := someSource(r), at(t, someAddress(r)), at(t, somePage(r)), r.Intn(2)
		path := whole.FindStringSubmatch(s)[4]
		if path == "" || !source.One(s, u, page, hops) {
			continue
		}
		meant++
		if without := strings.TrimSuffix(s, path); !source.One(without, u, page, hops) {
			t.Fatalf("%q means %s on %s, %q does not", s, address.Text(u), address.Text(page), without)
		}
	}
	if meant < 1000 {
		t.Errorf("too few: %d", meant)
	}
}
