package referrer_test

import (
	"math/rand"
	"regexp"
	"slices"
	"strings"
	"testing"

	"ostiary/api"
	"ostiary/referrer"
	"ostiary/url"
)

// A second reading of the promises, by patterns over the texts of addresses and headers.

var (
	web    = regexp.MustCompile(`^(https?://)(?:[^/?#]*@)?([^/?#]*)([^#]*)`)
	object = regexp.MustCompile(`^blob:([^/?#][^?#]*)`)
	sure   = regexp.MustCompile(`^(https|wss|data|about):`)
	local  = regexp.MustCompile(`^[^:/?#]*://(?:[^/?#]*@)?(?:(?:[^/?#:]*\.)?localhost|127\.[0-9.]*|\[::1\])(?::[0-9]+)?(?:[/?#]|$)`)
	policy = regexp.MustCompile(`^(?:no-referrer(?:-when-downgrade)?|same-origin|(?:strict-)?origin(?:-when-cross-origin)?|unsafe-url)$`)
	quoted = regexp.MustCompile(`(?s)"(?:[^"\\]|\\.)*(?:"|\\?$)`)
)

// made: the address in the text of a blob, as it is written; any other text as it is.
func made(text string) string {
	m := object.FindStringSubmatch(text)
	if m == nil {
		return text
	}
	in, why := url.Parse(m[1])
	if why != api.OK {
		return "none"
	}
	return url.Text(in)
}

func stripAgain(text string, only bool) string {
	m := web.FindStringSubmatch(text)
	if m == nil {
		return ""
	}
	if all := m[1] + m[2] + m[3]; !only && len(all) <= 1<<12 {
		return all
	}
	return m[1] + m[2] + "/"
}

func trustedAgain(text string) bool {
	for strings.HasPrefix(text, "blob:") {
		in := made(text)
		if in == text {
			return false
		}
		text = in
	}
	return sure.MatchString(text) || local.MatchString(text)
}

// howAgain: 0 for the same origin, 1 for another one, 2 for a less safe one; of pages that are http or https.
func howAgain(page, to string) int {
	at := stripAgain(made(to), true)
	if strings.HasPrefix(made(to), "blob:") { // a blob of a blob has no origin
		at = ""
	}
	switch {
	case at == stripAgain(page, true):
		return 0
	case strings.HasPrefix(page, "https:") && !trustedAgain(to):
		return 2
	}
	return 1
}

func ofAgain(name, page, to string) string {
	if !policy.MatchString(name) {
		name = "strict-origin-when-cross-origin"
	}
	switch how := howAgain(page, to); known[name][how] {
	case 'a':
		return stripAgain(page, false)
	case 'o':
		return stripAgain(page, true)
	}
	return ""
}

func fromAgain(l []api.Header, old string) string {
	var values []string
	for _, h := range l {
		if strings.EqualFold(h.Name, "referrer-policy") {
			values = append(values, h.Value)
		}
	}
	text := quoted.ReplaceAllString(strings.Join(values, ","), `"`)
	pieces := strings.Split(text, ",")
	slices.Reverse(pieces)
	for _, piece := range pieces {
		if name := strings.ToLower(strings.Trim(piece, "\t ")); policy.MatchString(name) {
			return name
		}
	}
	return old
}

func some(r *rand.Rand, of ...string) string { return of[r.Intn(len(of))] }

func somePolicy(r *rand.Rand) string {
	if r.Intn(5) == 0 {
		return some(r, unknown...)
	}
	return some(r, names...)
}

// someText: of what the value of a header is made.
func someText(r *rand.Rand) string {
	switch r.Intn(4) {
	case 0:
		return somePolicy(r)
	case 1:
		return strings.ToUpper(somePolicy(r))
	case 2:
		return some(r, " ", "\t", `"`, `\`, `"x, y"`, "x", "\n", "é", "-", "\xff")
	}
	return some(r, ",", ", ", "\t,")
}

func someAddress(r *rand.Rand) string {
	if r.Intn(5) == 0 {
		return some(r, "data:x", "data:https://a/", "about:blank", "a:x", "a:/x", "a://u:v@a/x", "a://localhost/", "blob:http://a/1", "blob:https://a/1?q#f", "blob:https://u:v@a:443/1", "blob:x", "blob:ws://b/", "blob:http:localhost", "blob:blob:https://a/", "blob:blob:http://b/", "blob://a/", "blob:data:x", "file:///x", "blob:HTTPS://B:81/x")
	}
	scheme := some(r, "http", "http", "https", "https", "https", "ws", "wss", "ftp", "HTTPS")
	host := some(r, "a", "a", "a", "b", "b.a", "localhost", "b.localhost", "localhost.b", "[::1]", "[::2]", "127.1", "128.1", "127.0.0.1.b")
	port := some(r, "", "", "", "", ":80", ":443", ":81")
	path := some(r, "", "/", "/x", "/x/y", "/x?q", "/x#f", "/x?q#f", "?@", "/u:v@a/", "/#@", "/x?", "/é", "/"+strings.Repeat("é", 680), "/x?"+strings.Repeat("é", r.Intn(4)+678), "/x#"+strings.Repeat("é", 1000))
	return scheme + some(r, "://", "://", ":", ":\\\\") + some(r, "", "", "u@", "u:v@", ":v@", "a@b:c@") + host + port + path
}

func TestStripAgain(t *testing.T) {
	r := rand.New(rand.NewSource(131))
	seen := [3]int{}
	for range 100000 {
		u, only := at(t, someAddress(r)), r.Intn(3) == 0
		text := url.Text(u)
		want := stripAgain(text, only)
		if got := referrer.Strip(u, only); got != want {
			t.Fatalf("Strip(%s, %v): %q, not %q", text, only, got, want)
		}
		switch {
		case want == "":
			seen[0]++
		case !only && len(text) > 1<<12 && len(want) < 30:
			seen[1]++
		default:
			seen[2]++
		}
	}
	if slices.Min(seen[:]) < 1000 {
		t.Errorf("too few: %v", seen)
	}
}

func TestOfAgain(t *testing.T) {
	r := rand.New(rand.NewSource(132))
	seen := [3]int{}
	for range 50000 {
		name, page, to := somePolicy(r), at(t, someAddress(r)), at(t, someAddress(r))
		if r.Intn(4) == 0 { // of two by chance few are of one origin
			to = page
			to.User, to.Path, to.HasQuery = "", []string{"z"}, false
		}
		from, there := url.Text(page), url.Text(to)
		want := ofAgain(name, from, there)
		if got := referrer.Of(name, page, to); got != want {
			t.Fatalf("Of(%q, %s, %s): %q, not %q", name, from, there, got, want)
		}
		if stripAgain(from, true) != "" {
			seen[howAgain(from, there)]++
		}
	}
	if slices.Min(seen[:]) < 1000 {
		t.Errorf("too few: %v", seen)
	}
}

func TestFromAgain(t *testing.T) {
	r := rand.New(rand.NewSource(133))
	seen := [2]int{}
	for range 100000 {
		var l []api.Header
		for range r.Intn(4) {
			var value strings.Builder
			for range r.Intn(7) {
				value.WriteString(someText(r))
			}
			l = append(l, api.Header{Name: some(r, "referrer-policy", "Referrer-Policy", "REFERRER-POLICY", "referer-policy", "x"), Value: value.String()})
		}
		old := some(r, "", "old", "origin", "Origin")
		want := fromAgain(l, old)
		if got := referrer.From(l, old); got != want {
			t.Fatalf("From(%q, %q): %q, not %q", l, old, got, want)
		}
		if want == old {
			seen[0]++
		} else {
			seen[1]++
		}
	}
	if slices.Min(seen[:]) < 10000 {
		t.Errorf("too few: %v", seen)
	}
}

// P13.4

// TestNothingIsTold: whatever the policy, and whoever is told: no fragment, no name, no password.
func TestNothingIsTold(t *testing.T) {
	r := rand.New(rand.NewSource(134))
	told := 0
	for range 3000 {
		text := some(r, "http", "https") + "://NAME:WORD@" + some(r, "a", "b.a:81", "localhost", "[::1]:8") + some(r, "", "/x", "/x/y?q", "?", "/"+strings.Repeat("é", 690)) + "#MARK"
		page := at(t, text)
		if r.Intn(2) == 0 {
			page, _ = url.Join(some(r, "#MARK", "y?z#MARK", "../NEXT#", "?NEXT", "//NAME:WORD@a/NEXT#MARK"), page)
		}
		to := at(t, someAddress(r))
		if r.Intn(4) == 0 {
			to = page
		}
		for _, name := range slices.Concat(unknown, names) {
			got := referrer.Of(name, page, to)
			if strings.ContainsAny(got, "#@") || strings.Contains(got, "NAME") || strings.Contains(got, "WORD") || strings.Contains(got, "MARK") {
				t.Fatalf("Of(%q, %s, %s): %q", name, url.Text(page), url.Text(to), got)
			}
			if got != "" {
				told++
				mustBeWhole(t, page, got)
			}
		}
	}
	if told < 100000 {
		t.Errorf("too few: %d", told)
	}
}

// mustBeWhole: what is told is an address of the page's origin, as it is written, and no longer than MaxText bytes.
func mustBeWhole(t *testing.T, page api.URL, told string) {
	t.Helper()
	u, why := url.Parse(told)
	if why != api.OK || url.Text(u) != told || u.Scheme != page.Scheme || u.Host != page.Host || u.Port != page.Port || u.User != "" || u.Pass != "" || u.HasFragment {
		t.Fatalf("of %s: %q", url.Text(page), told)
	}
}

// TestLessSafe: by policies with strict or downgrade, and by what is not Known, nothing; others do not look at it.
func TestLessSafe(t *testing.T) {
	r := rand.New(rand.NewSource(135))
	found := 0
	for range 30000 {
		page, to := at(t, someAddress(r)), at(t, someAddress(r))
		if page.Scheme != "https" || trustedAgain(url.Text(to)) {
			continue
		}
		found++
		for _, name := range []string{"strict-origin", "strict-origin-when-cross-origin", "no-referrer-when-downgrade", "same-origin", "no-referrer", "", "x", "Unsafe-Url", "Origin", "strict"} {
			if got := referrer.Of(name, page, to); got != "" {
				t.Fatalf("Of(%q, %s, %s): %q", name, url.Text(page), url.Text(to), got)
			}
		}
		for _, name := range []string{"origin", "origin-when-cross-origin", "unsafe-url"} {
			if got := referrer.Of(name, page, to); got == "" {
				t.Fatalf("Of(%q, %s, %s) tells nothing", name, url.Text(page), url.Text(to))
			}
		}
	}
	if found < 1000 {
		t.Errorf("too few: %d", found)
	}
}

// TestStricter: a policy that is strict tells what its loose one does, or nothing.
func TestStricter(t *testing.T) {
	r := rand.New(rand.NewSource(136))
	for range 30000 {
		page, to := at(t, someAddress(r)), at(t, someAddress(r))
		for strict, loose := range map[string]string{"strict-origin": "origin", "strict-origin-when-cross-origin": "origin-when-cross-origin", "no-referrer-when-downgrade": "unsafe-url", "same-origin": "unsafe-url", "no-referrer": "origin"} {
			if got := referrer.Of(strict, page, to); got != "" && got != referrer.Of(loose, page, to) {
				t.Fatalf("Of(%q, %s, %s): %q", strict, url.Text(page), url.Text(to), got)
			}
		}
	}
}
