package cors_test

import (
	"math/rand"
	"regexp"
	"slices"
	"sort"
	"strconv"
	"strings"
	"testing"

	"ostiary/api"
	"ostiary/cors"
)

// A second reading of the promises, by patterns and lists without maps.

var (
	token     = regexp.MustCompile("^[0-9A-Za-z!#$%&'*+.^_`|~-]+$")
	never     = regexp.MustCompile(`^(?i:connect|trace|track)$`)
	known     = regexp.MustCompile(`^(?i:delete|get|head|options|post|put)$`)
	harmless  = regexp.MustCompile(`^(?s:[^\x00-\x08\x0a-\x1f\x7f"():<>?@[\\\]{}]*)$`)
	languages = regexp.MustCompile(`^[0-9A-Za-z *,.;=-]*$`)
	form      = regexp.MustCompile(`^(?i:[\t\n\f\r ]*(application/x-www-form-urlencoded|multipart/form-data|text/plain)[\t\n\f\r ]*(;|$))`)
	spans     = regexp.MustCompile(`^bytes=([0-9]+)-([0-9]*)$`)
	quoted    = regexp.MustCompile(`^(?s:[^,"]|"(?:[^"\\]|\\.)*(?:"|\\?$))*`)
)

func lower(s string) string {
	b := []byte(s)
	for i, c := range b {
		if c >= 'A' && c <= 'Z' {
			b[i] += 'a' - 'A'
		}
	}
	return string(b)
}

func safeAgain(h api.Header) bool {
	switch name := lower(h.Name); {
	case len(h.Value) > 128:
		return false
	case name == "accept":
		return harmless.MatchString(h.Value)
	case name == "accept-language", name == "content-language":
		return languages.MatchString(h.Value)
	case name == "content-type":
		return harmless.MatchString(h.Value) && form.MatchString(h.Value)
	case name == "range":
		m := spans.FindStringSubmatch(h.Value)
		if m == nil || m[2] == "" {
			return m != nil
		}
		from, _ := strconv.Atoi(m[1])
		to, _ := strconv.Atoi(m[2])
		return from <= to
	}
	return false
}

// once: texts in order, each once.
func once(l []string) []string {
	l = slices.Clone(l)
	sort.Strings(l)
	var out []string
	for i, s := range l {
		if i == 0 || l[i-1] != s {
			out = append(out, s)
		}
	}
	return out
}

func unsafeAgain(l []api.Header) []string {
	var all, others []string
	safe := ""
	for _, h := range l {
		all = append(all, lower(h.Name))
		if safeAgain(h) {
			safe += h.Value
		} else {
			others = append(others, lower(h.Name))
		}
	}
	if len(safe) > 1024 {
		return once(all)
	}
	return once(others)
}

// said: the values of all headers of a name.
func said(l []api.Header, name string) []string {
	var out []string
	for _, h := range l {
		if lower(h.Name) == name {
			out = append(out, h.Value)
		}
	}
	return out
}

func checkAgain(self api.Origin, cred bool, l []api.Header) bool {
	text := self.Scheme + "://" + self.Host + ":" + strconv.Itoa(self.Port)
	if self.Scheme == "https" {
		text = strings.TrimSuffix(text, ":443")
	} else {
		text = strings.TrimSuffix(text, ":80")
	}
	if self.Opaque {
		text = "null"
	}
	if cred {
		return slices.Equal(said(l, allow), []string{text}) && slices.Equal(said(l, with), []string{"true"})
	}
	return slices.Equal(said(l, allow), []string{text}) || slices.Equal(said(l, allow), []string{"*"})
}

func exposedAgain(l []api.Header, cred bool) ([]string, bool) {
	rest := strings.Join(said(l, expose), ", ")
	var out []string
	for {
		piece := quoted.FindString(rest)
		name := lower(strings.Trim(piece, "\t "))
		if name == "*" && !cred {
			return nil, true
		}
		if token.MatchString(name) {
			out = append(out, name)
		}
		if piece == rest {
			return once(out), false
		}
		rest = rest[len(piece)+1:]
	}
}

func someText(r *rand.Rand, of string, most int) string {
	b := make([]byte, r.Intn(most+1))
	for i := range b {
		b[i] = of[r.Intn(len(of))]
	}
	return string(b)
}

func someOrigin(r *rand.Rand) api.Origin {
	if r.Intn(4) == 0 {
		return api.Origin{Opaque: true}
	}
	return api.Origin{Scheme: some(r, "http", "https"), Host: some(r, "a", "b"), Port: []int{80, 443}[r.Intn(2)]}
}

// someReply: headers that permit now and then.
func someReply(r *rand.Rand) []api.Header {
	var l []api.Header
	for range 2 + r.Intn(3) {
		switch r.Intn(6) {
		case 0, 1:
			l = append(l, list(some(r, allow, "Access-Control-Allow-Origin"), some(r, "*", "null", "null", "https://a", "http://a", "http://b", "https://b:80", "http://a:443", "", "* "))...)
		case 2, 3:
			l = append(l, list(some(r, with, "Access-Control-Allow-Credentials"), some(r, "true", "true", "true", "TRUE", "", "false"))...)
		case 4:
			l = append(l, list(some(r, expose, "Access-Control-Expose-Headers"), someText(r, "aB*,, \t\"\\x-", 9))...)
		default:
			l = append(l, list(some(r, "x", "origin", ""), some(r, "*", "true", ""))...)
		}
	}
	r.Shuffle(len(l), func(i, j int) { l[i], l[j] = l[j], l[i] })
	return l
}

func TestMethodAgain(t *testing.T) {
	r := rand.New(rand.NewSource(181))
	for range 40000 {
		s := some(r, "get", "POST", "pUt", "head", "Delete", "options", "TRACE", "track", "Connect", "patch", "") + someText(r, "aZ-_ \x00\xe9t", 2)
		want, ok := s, token.MatchString(s) && !never.MatchString(s)
		if known.MatchString(s) {
			want = strings.ToUpper(s)
		}
		if !ok {
			want = ""
		}
		mustMethod(t, s, want, ok)
		if ok {
			mustMethod(t, want, want, true)
		}
	}
}

func TestUnsafeAgain(t *testing.T) {
	r := rand.New(rand.NewSource(182))
	long := []string{strings.Repeat("a", 128), strings.Repeat("b", 127), strings.Repeat("c", 129), strings.Repeat("(", 128)}
	many := 0
	for range 20000 {
		l := safeOf(r.Intn(3) * r.Intn(600))
		total := 0
		for _, h := range l {
			total += len(h.Value)
		}
		for range r.Intn(8) {
			name := some(r, "accept", "Accept", "ACCEPT-language", "content-language", "Content-Type", "range", "x", "X", "y-Z", "_", "\xc9", "")
			value := some(r, some(r, long...), some(r, long...), some(r, "bytes=0-", "bytes=2-1", "bytes=-1", "text/plain", "TEXT/plain ;x", "a/b"), someText(r, "a,;=(\t\x01é", 4))
			l = append(l, api.Header{Name: name, Value: value})
			if safeAgain(l[len(l)-1]) {
				total += len(value)
			}
		}
		if total > 1024 {
			many++
		}
		r.Shuffle(len(l), func(i, j int) { l[i], l[j] = l[j], l[i] })
		mustUnsafe(t, l, unsafeAgain(l)...)
	}
	if many < 1000 {
		t.Errorf("%d lists of more than 1024 bytes", many)
	}
}

func TestReplyAgain(t *testing.T) {
	r := rand.New(rand.NewSource(183))
	for range 40000 {
		l, who := someReply(r), someOrigin(r)
		mustCheck(t, who, l, checkAgain(who, false, l), checkAgain(who, true, l))
		for _, cred := range []bool{false, true} {
			want, whole := exposedAgain(l, cred)
			if got, all := cors.Exposed(l, cred); !slices.Equal(got, want) || all != whole {
				t.Fatalf("Exposed(%q, %v): %q, %v, not %q, %v", l, cred, got, all, want, whole)
			}
		}
	}
}
