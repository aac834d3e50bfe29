package preflight_test

import (
	"math"
	"math/rand"
	"regexp"
	"slices"
	"sort"
	"strconv"
	"strings"
	"testing"

	"ostiary/api"
	"ostiary/cors"
	"ostiary/preflight"
)

// A second reading of the promises: replies by patterns, and rows in a map, each with the number of the Put that made it.

var (
	token  = regexp.MustCompile("^[0-9A-Za-z!#$%&'*+.^_`|~-]+$")
	digits = regexp.MustCompile(`^0*([0-9]+)$`)
	quoted = regexp.MustCompile(`^(?s:[^,"]|"(?:[^"\\]|\\.)*(?:"|\\?$))*`)
	simple = regexp.MustCompile(`^(GET|HEAD|POST)$`)
)

func some(r *rand.Rand, of ...string) string { return of[r.Intn(len(of))] }

func lower(s string) string {
	b := []byte(s)
	for i, c := range b {
		if c >= 'A' && c <= 'Z' {
			b[i] += 'a' - 'A'
		}
	}
	return string(b)
}

// said: the values of all headers of a name, and whether there is one.
func said(l []api.Header, name string) (string, bool) {
	var out []string
	for _, h := range l {
		if lower(h.Name) == name {
			out = append(out, h.Value)
		}
	}
	return strings.Join(out, ", "), out != nil
}

// tokensAgain: in order of bytes, each once.
func tokensAgain(l []api.Header, name string, change func(string) string) []string {
	rest, _ := said(l, name)
	found := map[string]int{}
	for {
		piece := quoted.FindString(rest)
		if word := strings.Trim(piece, "\t "); token.MatchString(word) {
			found[change(word)]++
		}
		if piece == rest {
			break
		}
		rest = rest[len(piece)+1:]
	}
	var out []string
	for word := range found {
		out = append(out, word)
	}
	sort.Strings(out)
	return out
}

func has(l []string, word string) bool { return slices.Index(l, word) >= 0 }

func readAgain(who api.Origin, cred bool, method string, unsafe []string, p api.Reply) (preflight.Grant, bool) {
	if p.Status/100 != 2 || p.Status < 0 || !cors.Check(who, cred, p.Headers) {
		return preflight.Grant{}, false
	}
	g := preflight.Grant{Age: 5}
	g.Methods = tokensAgain(p.Headers, methods, func(s string) string { return s })
	g.Names = tokensAgain(p.Headers, names, lower)
	g.All = has(g.Names, "*") && !cred
	if s, _ := said(p.Headers, most); digits.MatchString(s) {
		n, err := strconv.Atoi(digits.FindStringSubmatch(s)[1])
		g.Age = int64(min(n, 7200))
		if err != nil {
			g.Age = 7200
		}
	}
	ok := simple.MatchString(method) || has(g.Methods, method) || has(g.Methods, "*") && !cred
	for _, name := range unsafe {
		name = lower(name)
		ok = ok && (has(g.Names, name) || g.All && name != "authorization")
	}
	if !ok {
		return preflight.Grant{}, false
	}
	return g, true
}

func someWords(r *rand.Rand, most int, of ...string) []string {
	var out []string
	for range r.Intn(most + 1) {
		out = append(out, some(r, of...))
	}
	return out
}

func someUnsafe(r *rand.Rand) []string {
	return someWords(r, 3, "a", "a", "A", "a", "b", "B", "b", "c", "x-y", "*", "authorization", "Authorization", "\xff")
}

func someMethod(r *rand.Rand) string {
	return some(r, "GET", "HEAD", "POST", "PUT", "put", "DELETE", "*", "a", "get", "")
}

// someAnswer: a reply that grants now and then.
func someAnswer(r *rand.Rand) api.Reply {
	l := list(allow, some(r, "*", "*", "https://a", "https://a", "https://a", "https://a", "https://a", "null"), some(r, with, with, with, with, "x"), "true")
	for range 1 + r.Intn(5) {
		switch r.Intn(5) {
		case 0, 1:
			l = append(l, list(some(r, methods, "Access-Control-ALLOW-Methods"), strings.Join(someWords(r, 5, "PUT", "PUT", "put", "put", "DELETE", "DELETE", "*", "*", "a", "a", "b c", "GET", "get", "\"PUT", "\""), some(r, ",", ", ", " ,\t")))...)
		case 2, 3:
			l = append(l, list(some(r, names, "ACCESS-control-allow-headers"), strings.Join(someWords(r, 7, "a", "A", "a", "b", "B", "C", "x-Y", "*", "*", "Authorization", "a b", "\"b\"", "\\\""), some(r, ",", ", ", " ,\t")))...)
		default:
			l = append(l, list(some(r, most, "Access-Control-Max-Age"), some(r, "0", "1", "9", "007", "7200", "7201", "99999999999999999999", "", "-1", "x"))...)
		}
	}
	r.Shuffle(len(l), func(i, j int) { l[i], l[j] = l[j], l[i] })
	return api.Reply{Status: []int{200, 200, 200, 200, 200, 204, 204, 299, 250, 250, 199, 300, 0, -200}[r.Intn(14)], Headers: l, Body: []byte("x")}
}

func TestReadAgain(t *testing.T) {
	r := rand.New(rand.NewSource(191))
	seen := map[string]int{}
	for range 100000 {
		cred, method, unsafe, p := r.Intn(2) == 0, someMethod(r), someUnsafe(r), someAnswer(r)
		want, is := readAgain(self, cred, method, unsafe, p)
		got, ok := preflight.Read(self, cred, method, unsafe, p)
		if granted(got) != granted(want) || ok != is {
			t.Fatalf("Read(.., %v, %q, %q, %+v): %q, %v, not %q, %v", cred, method, unsafe, p, granted(got), ok, granted(want), is)
		}
		seen["granted "+strconv.FormatBool(ok)]++
		seen["all "+strconv.FormatBool(got.All)]++
		if ok && !simple.MatchString(method) && len(unsafe) > 1 {
			seen["more"]++
		}
	}
	for _, word := range []string{"granted true", "granted false", "all true", "all false", "more"} {
		if seen[word] < 1000 {
			t.Errorf("too few of %s: %v", word, seen)
		}
	}
}

// key: one who asks, address, credentials, kind and word, as one text.
func key(self, url string, cred bool, kind, word string) string {
	return strconv.Quote(self) + strconv.Quote(url) + strconv.FormatBool(cred) + kind + strconv.Quote(word)
}

type kept struct {
	until float64 // far from the ends of the clock these are whole
	turn  int
}

type model struct {
	rows map[string]kept
	turn int
}

func (m *model) put(k string, age, now int64) {
	m.turn++
	delete(m.rows, k)
	if age != 0 {
		m.rows[k] = kept{float64(now) + float64(age), m.turn}
	}
	if len(m.rows) < 33 {
		return
	}
	oldest := k
	for other, row := range m.rows {
		if row.turn < m.rows[oldest].turn {
			oldest = other
		}
	}
	delete(m.rows, oldest)
}

func (m *model) putAll(self, url string, cred bool, g preflight.Grant, now int64) {
	for _, method := range g.Methods {
		m.put(key(self, url, cred, "method", method), g.Age, now)
	}
	for _, name := range g.Names {
		m.put(key(self, url, cred, "name", lower(name)), g.Age, now)
	}
	if g.All {
		m.put(key(self, url, cred, "name", "*"), g.Age, now)
	}
}

func (m *model) holds(k string, now int64) bool {
	row, is := m.rows[k]
	return is && float64(now) < row.until
}

func (m *model) allows(self, url string, cred bool, method string, unsafe []string, now int64) bool {
	ok := simple.MatchString(method) || m.holds(key(self, url, cred, "method", method), now) || !cred && m.holds(key(self, url, false, "method", "*"), now)
	for _, name := range unsafe {
		starred := !cred && lower(name) != "authorization" && m.holds(key(self, url, false, "name", "*"), now)
		ok = ok && (starred || m.holds(key(self, url, cred, "name", lower(name)), now))
	}
	return ok
}

func (m *model) drop(self, url string) {
	for k := range m.rows {
		if strings.HasPrefix(k, strconv.Quote(self)+strconv.Quote(url)) {
			delete(m.rows, k)
		}
	}
}

func (m *model) len(now int64) int {
	n := 0
	for k := range m.rows {
		if m.holds(k, now) {
			n++
		}
	}
	return n
}

func someGrant(r *rand.Rand) preflight.Grant {
	return preflight.Grant{
		Methods: someWords(r, 3, "PUT", "DELETE", "put", "a", "b", "*", "GET", ""),
		Names:   someWords(r, 6, "a", "A", "b", "c", "d", "e", "*", "authorization", "AUTHORIZATION", "put", "\xff"),
		All:     r.Intn(5) == 0,
		Age:     []int64{0, 1, 2, 3, 5, 9, 40, 7200, -2}[r.Intn(9)],
	}
}

// TestTableAgain: random calls of a table and of the second reading.
func TestTableAgain(t *testing.T) {
	r := rand.New(rand.NewSource(192))
	seen := map[string]int{}
	for range 300 {
		table, m := preflight.New(), &model{rows: map[string]kept{}}
		now := int64(r.Intn(100))
		places := 1 + r.Intn(2)
		for n := range 150 {
			now += int64(r.Intn(6) - 1)
			self, url, cred := "s"+strconv.Itoa(r.Intn(places)), "u"+strconv.Itoa(r.Intn(places)), r.Intn(2) == 0
			if r.Intn(25) == 0 {
				table.Drop(self, url)
				m.drop(self, url)
			} else if r.Intn(3) > 0 {
				g := someGrant(r)
				table.Put(self, url, cred, g, now)
				m.putAll(self, url, cred, g, now)
			}
			if len(m.rows) == 32 {
				seen["full"]++
			}
			for range 8 {
				at, method, unsafe := now+int64(r.Intn(13)-4), someMethod(r), someWords(r, 3, "a", "A", "b", "c", "d", "e", "*", "authorization", "Authorization", "put", "\xff", "\xfe")
				want := m.allows(self, url, cred, method, unsafe, at)
				if table.Allows(self, url, cred, method, unsafe, at) != want || table.Len(at) != m.len(at) {
					t.Fatalf("call %d at %d: Allows(%q, %q, %v, %q, %q), %v; Len %d, %d", n, at, self, url, cred, method, unsafe, want, table.Len(at), m.len(at))
				}
				seen["allowed "+strconv.FormatBool(want)]++
				if want && !simple.MatchString(method) && len(unsafe) > 1 {
					seen["more"]++
				}
			}
		}
	}
	for _, word := range []string{"full", "allowed true", "allowed false", "more"} {
		if seen[word] < 1000 {
			t.Errorf("too few of %s: %v", word, seen)
		}
	}
}

// TestFollows: P19.5: what Read grants Allows, until its Age is over, whatever was put ahead.
func TestFollows(t *testing.T) {
	r := rand.New(rand.NewSource(193))
	table := preflight.New()
	grants, over := 0, 0
	for range 100000 {
		cred, method, unsafe := r.Intn(2) == 0, someMethod(r), someUnsafe(r)
		g, ok := preflight.Read(self, cred, method, unsafe, someAnswer(r))
		if !ok {
			continue
		}
		now := []int64{0, int64(r.Intn(1000)), int64(r.Uint64() >> 2), math.MaxInt64 - 7200 - int64(r.Intn(9))}[r.Intn(4)]
		table.Put("s", "u", cred, g, now)
		for _, at := range []int64{now, now + g.Age/2, now + g.Age - 1} {
			if g.Age > 0 && !table.Allows("s", "u", cred, method, unsafe, at) {
				t.Fatalf("put at %d, at %d: %v, %q, %q of %+v", now, at, cred, method, unsafe, g)
			}
		}
		grants++
		if simple.MatchString(method) && len(unsafe) == 0 {
			continue
		}
		alone := preflight.New()
		alone.Put("s", "u", cred, g, now)
		if alone.Allows("s", "u", cred, method, unsafe, now+g.Age) || alone.Len(now+g.Age) > 0 {
			t.Fatalf("put at %d, and not over at %d: %+v", now, now+g.Age, g)
		}
		over++
	}
	if grants < 5000 || over < 5000 {
		t.Errorf("too few: %d, %d", grants, over)
	}
}

// TestFollowsFull: P19.5: of just as many methods and names as there may be rows.
func TestFollowsFull(t *testing.T) {
	for count := range api.MaxAllowed + 1 {
		put, asked := strings.ToUpper(numbered("m", 0, count)), strings.Fields(numbered("n", count, api.MaxAllowed))
		p := reply(methods, strings.ReplaceAll(put, " ", ","), names, strings.Join(asked, ","), most, "9")
		for _, method := range append(strings.Fields(put), "GET") {
			g, ok := preflight.Read(self, true, method, asked, p)
			table := preflight.New()
			table.Put("s", "v", true, grant("PUT", numbered("x", 0, api.MaxAllowed), 99), 0)
			table.Put("s", "u", true, g, 0)
			if !ok || !table.Allows("s", "u", true, method, asked, 8) || table.Len(8) != api.MaxAllowed {
				t.Errorf("%d methods: %s", count, method)
			}
		}
	}
}
