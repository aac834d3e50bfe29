package preflight_test

import (
	"math"
	"math/rand"
	"slices"
	"strings"
	"testing"

	"ostiary/api"
	"ostiary/preflight"
)

// roomy: a list with words in the room behind it, and all of it.
func roomy(words ...string) ([]string, []string) {
	all := append(slices.Clone(words), "room", "*", "authorization", "x")
	return all[:len(words):len(all)], all
}

func roomyHeaders(words ...string) ([]api.Header, []api.Header) {
	all := append(list(words...), list("room", "x", allow, "*", methods, "x", names, "x", most, "1")...)
	return all[: len(words)/2 : len(all)], all
}

// TestArguments: R2, R5: what is handed in is not changed, and the room behind it is neither read nor written.
func TestArguments(t *testing.T) {
	unsafe, allUnsafe := roomy("X-Y", "b", "A", "b")
	l, allHeaders := roomyHeaders(allow, "https://a", methods, "PUT, b, a, PUT, x y", names, "X-y, B, a, a", most, "9")
	asked, allAsked := roomy("PUT", "b", "a", "b")
	named, allNamed := roomy("B", "a", "X-Y", "b")
	body := []byte("body")
	wantUnsafe, wantHeaders, wantAsked, wantNamed := slices.Clone(allUnsafe), slices.Clone(allHeaders), slices.Clone(allAsked), slices.Clone(allNamed)
	table := preflight.New()
	for range 2 {
		mustAsk(t, self, "PUT", unsafe, "accept", "*/*", "access-control-request-method", "PUT", "access-control-request-headers", "X-Y,b,A,b", "origin", "https://a")
		mustRead(t, false, "PUT", unsafe, api.Reply{Status: 200, Headers: l, Body: body}, "PUT a b|a b x-y|false|9")
		mustNotRead(t, false, "PUT", append(slices.Clone(unsafe), "z"), api.Reply{Status: 200, Headers: l, Body: body})
		table.Put("s", "u", false, preflight.Grant{Methods: asked, Names: named, Age: 9}, 0)
		mustLen(t, table, 0, 6)
		if !table.Allows("s", "u", false, "PUT", unsafe, 8) || table.Allows("s", "u", false, "PUT", []string{"x"}, 8) || table.Allows("s", "u", false, "x", nil, 8) {
			t.Error("Allows")
		}
	}
	if !slices.Equal(allUnsafe, wantUnsafe) || !slices.Equal(allHeaders, wantHeaders) || !slices.Equal(allAsked, wantAsked) || !slices.Equal(allNamed, wantNamed) || string(body) != "body" {
		t.Errorf("what was given became %q, %q, %q, %q, %q", allUnsafe, allHeaders, allAsked, allNamed, body)
	}
}

func spoil(l []string) {
	l = l[:cap(l)]
	for i := range l {
		l[i] = "spoilt"
	}
}

// TestNotKept: R2: a Grant that the caller changes behind Put.
func TestNotKept(t *testing.T) {
	table := preflight.New()
	g := all("PUT", "a", 9)
	table.Put("s", "u", false, g, 0)
	g.Methods[0], g.Names[0] = "DELETE", "authorization"
	table.Put("s", "u", false, g, 0)
	spoil(g.Methods)
	spoil(g.Names)
	mustLen(t, table, 0, 5)
	mustThere(t, table, "PUT DELETE SPOILT spoilt authorization", 8, "PUT DELETE spoilt authorization")
	table.Put("s", "u", false, all("", "", 0), 0)
	mustThere(t, table, "PUT DELETE SPOILT spoilt a authorization", 8, "PUT DELETE a authorization")
}

// TestAnswersApart: R2: answers are new memory, their spare room too, and so are the lists of one answer.
func TestAnswersApart(t *testing.T) {
	p := reply(methods, "b, a, PUT, a, x y", names, "b, a, A, x y")
	want := slices.Clone(p.Headers)
	unsafe := []string{"a", "b"}
	for range 3 {
		one, _ := preflight.Read(self, false, "PUT", unsafe, p)
		two, _ := preflight.Read(self, false, "PUT", unsafe, p)
		spoil(one.Methods)
		if granted(two) != "PUT a b|a b|false|5" || strings.Join(one.Names, " ") != "a b" {
			t.Errorf("answers share memory: %+v, %+v", one, two)
		}
		spoil(one.Names)
		three, four := preflight.Ask(self, "PUT", unsafe), preflight.Ask(self, "PUT", unsafe)
		three = three[:cap(three)]
		for i := range three {
			three[i] = api.Header{Name: "spoilt"}
		}
		if granted(two) != "PUT a b|a b|false|5" || len(four) != 4 || four[2].Value != "a,b" {
			t.Errorf("answers share memory: %+v, %q", two, four)
		}
	}
	if !slices.Equal(p.Headers, want) || !slices.Equal(unsafe, []string{"a", "b"}) {
		t.Errorf("answers share memory with what was given: %q, %q", p.Headers, unsafe)
	}
	g, _ := preflight.Read(self, false, "PUT", unsafe, p)
	for i := range p.Headers {
		p.Headers[i] = api.Header{}
	}
	if granted(g) != "PUT a b|a b|false|5" {
		t.Errorf("an answer changed with what was given: %+v", g)
	}
}

// TestNilIsEmpty: R4.
func TestNilIsEmpty(t *testing.T) {
	noHeaders := [][]api.Header{nil, {}, make([]api.Header, 0, 4), list(allow, "*")[:0]}
	for _, unsafe := range [][]string{nil, {}, make([]string, 0, 4), []string{"room"}[:0]} {
		mustAsk(t, self, "GET", unsafe, "accept", "*/*", "access-control-request-method", "GET", "origin", "https://a")
		for _, l := range noHeaders {
			mustReadIf(t, "GET", unsafe, api.Reply{Status: 200, Headers: l}, false, false)
		}
		mustRead(t, false, "GET", unsafe, api.Reply{Status: 200, Headers: list(allow, "*"), Body: []byte{}}, "||false|5")
		mustReadIf(t, "PUT", unsafe, reply(), false, false)
		table := preflight.New()
		table.Put("", "", false, preflight.Grant{Methods: unsafe, Names: unsafe, Age: 9}, 0)
		mustLen(t, table, 0, 0)
		table.Put("", "", false, preflight.Grant{Methods: unsafe, Names: unsafe, All: true, Age: 9}, 0)
		mustLen(t, table, 0, 1)
		if !table.Allows("", "", false, "GET", unsafe, 0) || table.Allows("", "", false, "PUT", unsafe, 0) || table.Allows("", "", true, "GET", []string{"a"}, 0) {
			t.Errorf("Allows of %#v", unsafe)
		}
	}
}

// TestZero: R1, R4: zero values.
func TestZero(t *testing.T) {
	if g, ok := preflight.Read(api.Origin{}, false, "", nil, api.Reply{}); granted(g) != "||false|0" || ok {
		t.Errorf("Read: %+v, %v", g, ok)
	}
	if got := preflight.Ask(api.Origin{}, "", nil); len(got) != 3 || got[1].Value != "" {
		t.Errorf("Ask: %q", got)
	}
	table := preflight.New()
	table.Put("", "", false, preflight.Grant{}, 0)
	table.Drop("", "")
	mustLen(t, table, 0, 0)
	if table.Allows("", "", false, "", nil, 0) {
		t.Error("Allows of an empty method")
	}
	table.Put("", "", false, preflight.Grant{Methods: []string{""}, Names: []string{""}, Age: 1}, 0)
	mustLen(t, table, 0, 2)
	if !table.Allows("", "", false, "", []string{""}, 0) || table.Allows("", "", false, "", []string{""}, 1) {
		t.Error("Allows of an empty method and an empty name")
	}
}

// TestEachByte: R5: any bytes may stand in texts; letters of ASCII alone are compared by Lower, and in names alone.
func TestEachByte(t *testing.T) {
	for n := range 256 {
		b := string([]byte{byte(n)})
		word, small := "x"+b+"Y", "x"+lower(b)+"y"
		mustAsk(t, self, word, []string{word, b}, "accept", "*/*", "access-control-request-method", word, "access-control-request-headers", word+","+b, "origin", "https://a")
		p := reply(methods, word, names, word)
		switch {
		case token.MatchString(b):
			mustRead(t, true, word, []string{small, word}, p, word+"|"+small+"|false|5")
		case b == ",":
			mustRead(t, true, "x", []string{"Y", "x"}, p, "Y x|x y|false|5")
			mustReadIf(t, word, nil, p, false, false)
		default:
			mustRead(t, true, "GET", nil, p, "||false|5")
			mustReadIf(t, word, nil, p, false, false)
			mustReadIf(t, "GET", []string{small}, p, false, false)
		}
		table := preflight.New()
		table.Put(word, "u"+b, true, grant("", "", 9), 0)
		table.Put(word, "u"+b, true, preflight.Grant{Methods: []string{word}, Names: []string{word}, Age: 9}, 0)
		if !table.Allows(word, "u"+b, true, word, []string{small, word}, 0) || table.Allows(word, "u"+b, true, small, nil, 0) || table.Allows(small, "u"+b, true, word, nil, 0) || table.Allows(word, "u", true, word, nil, 0) {
			t.Errorf("byte %d", n)
		}
		other := "x" + string([]byte{byte(n + 1)}) + "Y"
		if table.Allows(word, "u"+b, true, other, nil, 0) || lower(other) != small && table.Allows(word, "u"+b, true, "GET", []string{other}, 0) {
			t.Errorf("byte %d: %q", n, other)
		}
		table.Drop(small, "u"+b)
		mustLen(t, table, 0, 2)
		table.Drop(word, "u"+b)
		mustLen(t, table, 0, 0)
	}
}

// TestAnyBytes: R1, R5: any calls end, and what is told holds together.
func TestAnyBytes(t *testing.T) {
	r := rand.New(rand.NewSource(194))
	text := func() string {
		b := make([]byte, r.Intn(4))
		r.Read(b)
		return some(r, string(b), "a", "A, b", "*", "true", "https://a", "null", "\"", "PUT", "authorization", "7", "")
	}
	texts := func() []string {
		out := make([]string, r.Intn(5))
		for i := range out {
			out[i] = text()
		}
		return out
	}
	number := func() int64 {
		return []int64{0, 5, math.MaxInt64, math.MinInt64, int64(r.Uint64()), int64(r.Intn(20))}[r.Intn(6)]
	}
	table := preflight.New()
	for range 60000 {
		l := make([]api.Header, r.Intn(6))
		for i := range l {
			l[i] = api.Header{Name: some(r, allow, with, methods, names, most, text()), Value: text()}
		}
		who := api.Origin{Scheme: some(r, "https", text()), Host: some(r, "a", text()), Port: []int{443, 443, 0, math.MinInt, r.Int()}[r.Intn(5)], Opaque: r.Intn(3) == 0}
		cred, method, unsafe, before := r.Intn(2) == 0, text(), texts(), slices.Clone(l)
		asked := slices.Clone(unsafe)
		g, ok := preflight.Read(who, cred, method, unsafe, api.Reply{Status: 190 + r.Intn(120), Headers: l})
		if !ok && granted(g) != "||false|0" || ok && (g.Age < 0 || g.Age > api.MaxAge || !slices.IsSorted(g.Methods) || !slices.IsSorted(g.Names)) {
			t.Fatalf("Read(%+v, %v, %q, %q, %q): %+v, %v", who, cred, method, unsafe, l, g, ok)
		}
		if !ok {
			g = preflight.Grant{Methods: texts(), Names: texts(), All: r.Intn(2) == 0, Age: number()}
		}
		if n := len(preflight.Ask(who, method, unsafe)); n != 3 && n != 4 {
			t.Fatalf("Ask: %d", n)
		}
		now, self, url := number(), some(r, "s", text()), some(r, "u", text())
		table.Put(self, url, cred, g, now)
		if n := table.Len(number()); n > api.MaxAllowed {
			t.Fatalf("%d rows", n)
		}
		if at := number(); table.Allows(self, url, cred, method, unsafe, at) && !table.Allows(self, url, cred, method, nil, math.MinInt64) {
			t.Fatalf("Allows(%q, %q, %v, %q, %q) at %d, but not before", self, url, cred, method, unsafe, at)
		}
		if r.Intn(20) == 0 {
			table.Drop(self, url)
		}
		if !slices.Equal(l, before) || !slices.Equal(unsafe, asked) {
			t.Fatalf("what was given became %q, %q", l, unsafe)
		}
	}
}

// TestLong: R1: the calls end, and soon, of long lists and texts too.
func TestLong(t *testing.T) {
	many := strings.Fields(numbered("N", 0, 1<<17))
	long := strings.Repeat("A", 1<<20)
	p := reply(methods, strings.Join(many, ","), names, long+","+strings.Join(many, " , "), most, strings.Repeat("9", 1<<20))
	g, ok := preflight.Read(self, true, "N77", many, p)
	if len(g.Methods) != len(many) || len(g.Names) != len(many)+1 || g.Age != api.MaxAge || !ok {
		t.Errorf("Read: %d, %d, %d, %v", len(g.Methods), len(g.Names), g.Age, ok)
	}
	mustNotRead(t, true, "N77", append(many, "m"), p)
	mustReadIf(t, "PUT", many, reply(methods, "*", names, "*"), true, false)
	if got := preflight.Ask(self, long, many); len(got) != 4 || len(got[2].Value) < 1<<17 {
		t.Errorf("Ask: %d", len(got))
	}
	table := preflight.New()
	table.Put(long, long, true, g, 0)
	mustLen(t, table, 0, api.MaxAllowed)
	if table.Allows(long, long, true, "N77", nil, 0) || !table.Allows(long, long, true, "GET", slices.Repeat(g.Names[len(g.Names)-1:], 1<<16), 0) {
		t.Error("Allows of many")
	}
	table.Put("s", "u", false, preflight.Grant{Methods: []string{"*"}, Names: []string{long}, All: true, Age: 1}, 0)
	if !table.Allows("s", "u", false, long, append(many, long), 0) || table.Allows("s", "u", false, long, append(many, "authorization"), 0) {
		t.Error("Allows of many under a star")
	}
	table.Drop(long, long)
	mustLen(t, table, 0, 3)
}
