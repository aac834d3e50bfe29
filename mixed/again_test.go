package mixed_test

import (
	"math/rand"
	"regexp"
	"slices"
	"strconv"
	"strings"
	"testing"

	"ostiary/api"
	"ostiary/mixed"
	"ostiary/url"
)

// A second reading of the promises, by patterns over the texts of addresses.

var (
	told   = regexp.MustCompile(`^(?:https?|wss?|ftp)://(?:[^/?#]*@)?(?:\[[^\]]*\]|[^/?#:]*):([0-9]+)(?:[/?#]|$)`)
	weak   = regexp.MustCompile(`^(http|ws)://(?:[^/?#]*@)?(\[[^\]]*\]|[^/?#:]*)(?::443([/?#]|$))?`)
	near   = regexp.MustCompile(`^(?:(?:.*\.)?localhost|127\.[0-9.]*|\[::1\])$`)
	number = regexp.MustCompile(`^(?:\[.*|[0-9.]*)$`)
	listed = regexp.MustCompile(`^(?:[01]|7|9|1[13579]|2[01235]|19|37|4[23]|53|69|7[79]|87|95|10[1-4]|109|11[01]|11[3579]|123|13[579]|143|161|179|389|427|465|51[2-5]|526|53[0-2]|540|548|55[46]|563|587|601|636|98[9]|99[035]|1719|172[03]|2049|3659|4045|4190|506[01]|6000|6566|666[5-9]|6679|6697|10080)$`)
)

func badAgain(text string) bool {
	m := told.FindStringSubmatch(text)
	return m != nil && listed.MatchString(m[1])
}

func judgeAgain(page, text string, dest int) int {
	m := weak.FindStringSubmatch(text)
	switch {
	case !strings.HasPrefix(page, "https:"), m == nil, near.MatchString(m[2]):
		return 1
	case dest == 4 && m[1] == "http" && !number.MatchString(m[2]):
		return 2
	}
	return 3
}

func raiseAgain(text string) string {
	m := weak.FindStringSubmatch(text)
	if m == nil {
		return text
	}
	text = strings.Replace(text, "://", "s://", 1)
	if strings.HasSuffix(m[0], ":443"+m[3]) {
		text = text[:len(m[0])-len(m[3])-len(":443")+1] + text[len(m[0])-len(m[3])+1:]
	}
	return text
}

func some(r *rand.Rand, of ...string) string { return of[r.Intn(len(of))] }

func somePort(r *rand.Rand) string {
	switch r.Intn(4) {
	case 0:
		return ""
	case 1:
		return some(r, ":80", ":443", ":21", ":81", ":442", ":444", ":", ":0")
	case 2:
		return ":" + strconv.Itoa(max(bad[r.Intn(len(bad))][r.Intn(2)]+r.Intn(3)-1, 0))
	}
	return ":" + strconv.Itoa(r.Intn(1<<16))
}

func someHost(r *rand.Rand) string {
	if r.Intn(3) > 0 {
		return some(r, "a", "b.a", "1a", "localhost", "b.localhost", "localhost.b", "xlocalhost", "127.0.0.1", "127.b", "127..", "128.1", "1.2.3.4", "0x10", "1..", ".", "..a", "[::1]", "[::2]", "[::127.0.0.1]", "[a::]", "-", "1-2")
	}
	var out strings.Builder
	for range 1 + r.Intn(5) {
		out.WriteString(some(r, "1", "27", ".", ".", "a", "0", "localhost", "x"))
	}
	return out.String()
}

// someAddress: one that parses.
func someAddress(r *rand.Rand) api.URL {
	for {
		text := some(r, "data:x", "data:http://b/", "about:blank", "a:x", "blob:http://b/1", "blob:https://b/1", "blob:ws://localhost/", "file:///x", "a:/x")
		if r.Intn(8) > 0 {
			scheme := some(r, "http", "http", "http", "ws", "https", "https", "wss", "ftp", "HTTP", "a", "blob", "httpss")
			text = scheme + some(r, "://", "://", "://", ":") + some(r, "", "", "u@", "u:443@", ":25@") + someHost(r) + somePort(r) + some(r, "", "/", "/x:25/", "?:443", "#:443", "/x?q#f", "/http://b:25/", "/:443")
		}
		if u, why := url.Parse(text); why == api.OK {
			return u
		}
	}
}

func TestBadAgain(t *testing.T) {
	r := rand.New(rand.NewSource(141))
	seen := [2]int{}
	for range 200000 {
		u := someAddress(r)
		want := badAgain(url.Text(u))
		if got := mixed.Bad(u); got != want {
			t.Fatalf("Bad(%s): %v", url.Text(u), got)
		}
		if want {
			seen[1]++
		} else {
			seen[0]++
		}
	}
	if slices.Min(seen[:]) < 10000 {
		t.Errorf("too few: %v", seen)
	}
}

func TestJudgeAgain(t *testing.T) {
	r := rand.New(rand.NewSource(142))
	seen := [4]int{1 << 30}
	for range 200000 {
		page, u, dest := someAddress(r), someAddress(r), r.Intn(9)-1
		if r.Intn(2) == 0 {
			page.Scheme = "https"
			dest = api.Image
		}
		want := judgeAgain(url.Text(page), url.Text(u), dest)
		if got := mixed.Judge(page, u, dest); got != want {
			t.Fatalf("Judge(%s, %s, %d): %d, not %d", url.Text(page), url.Text(u), dest, got, want)
		}
		seen[want]++
	}
	if slices.Min(seen[:]) < 5000 {
		t.Errorf("too few: %v", seen)
	}
}

func TestRaiseAgain(t *testing.T) {
	r := rand.New(rand.NewSource(143))
	seen := [3]int{}
	for range 200000 {
		u := someAddress(r)
		text := url.Text(u)
		want := raiseAgain(text)
		if got := url.Text(mixed.Raise(u)); got != want {
			t.Fatalf("Raise(%s): %s, not %s", text, got, want)
		}
		switch {
		case want == text:
			seen[0]++
		case len(want) < len(text):
			seen[1]++
		default:
			seen[2]++
		}
	}
	if slices.Min(seen[:]) < 1000 {
		t.Errorf("too few: %v", seen)
	}
}

// TestRaisedIsFineAgain: P14.4, whatever the page and the destination are. Raised, all but the scheme and its own port stays.
func TestRaisedIsFineAgain(t *testing.T) {
	r := rand.New(rand.NewSource(144))
	were := [4]int{1 << 30}
	for range 200000 {
		page, u, dest := someAddress(r), someAddress(r), 1+r.Intn(6)
		if r.Intn(2) == 0 {
			page.Scheme = "https"
		}
		up := mixed.Raise(u)
		if got := mixed.Judge(page, up, dest); got != mixed.Fine {
			t.Fatalf("Judge(%s, Raise(%s), %d): %d", url.Text(page), url.Text(u), dest, got)
		}
		were[mixed.Judge(page, u, dest)]++
		if mixed.Bad(up) != mixed.Bad(u) {
			t.Fatalf("Bad(Raise(%s)): %v", url.Text(u), mixed.Bad(up))
		}
		if again := mixed.Raise(up); !alike(again, up) {
			t.Fatalf("%s, raised twice: %s", url.Text(u), url.Text(again))
		}
		up.Scheme, up.Port = u.Scheme, u.Port
		if !alike(up, u) {
			t.Fatalf("%s became %s", url.Text(u), url.Text(up))
		}
	}
	if slices.Min(were[:]) < 1000 {
		t.Errorf("too few: %v", were)
	}
}
