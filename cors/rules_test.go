package cors_test

import (
	"math"
	"math/rand"
	"slices"
	"strconv"
	"strings"
	"testing"

	"ostiary/api"
	"ostiary/cors"
)

// roomy: a list with headers in the room behind it, and all of it.
func roomy(words ...string) ([]api.Header, []api.Header) {
	all := append(list(words...), list("room", "x", allow, "*", with, "true", expose, "*", "accept", strings.Repeat("a", 128))...)
	return all[:len(words)/2], all
}

// TestArguments: R2, R5: what is handed in is not changed, and the room behind it is neither read nor written.
func TestArguments(t *testing.T) {
	asked, allAsked := roomy("X", "1", "Accept", "(", "b", "2", "x", "3")
	reply, allReply := roomy(allow, "https://a", expose, "B, a", "Vary", "x")
	wantAsked, wantReply := slices.Clone(allAsked), slices.Clone(allReply)
	for range 2 {
		mustUnsafe(t, asked, "accept", "b", "x")
		mustCheck(t, self, reply, true, false)
		mustCheck(t, self, reply[1:1], false, false)
		mustExpose(t, reply, false, "a", "b")
		mustExpose(t, reply, true, "a", "b")
	}
	if !slices.Equal(allAsked, wantAsked) || !slices.Equal(allReply, wantReply) {
		t.Errorf("what was given became %q, %q", allAsked, allReply)
	}
}

func spoil(l []string) {
	l = l[:cap(l)]
	for i := range l {
		l[i] = "spoilt"
	}
}

// TestAnswersApart: R2: answers are new memory, their spare room too.
func TestAnswersApart(t *testing.T) {
	asked, reply := list("X", "1", "b", "2"), list(expose, "B, a")
	for range 3 {
		one, two := cors.Unsafe(asked), cors.Unsafe(asked)
		spoil(one)
		three, _ := cors.Exposed(reply, false)
		four, _ := cors.Exposed(reply, false)
		spoil(three)
		if !slices.Equal(two, []string{"b", "x"}) || !slices.Equal(four, []string{"a", "b"}) {
			t.Errorf("answers share memory: %q, %q", two, four)
		}
	}
	if !slices.Equal(asked, list("X", "1", "b", "2")) || !slices.Equal(reply, list(expose, "B, a")) {
		t.Errorf("answers share memory with what was given: %q, %q", asked, reply)
	}
	got := cors.Unsafe(asked)
	asked[0].Name = "q"
	if !slices.Equal(got, []string{"b", "x"}) {
		t.Errorf("an answer changed with what was given: %q", got)
	}
}

// TestNilIsEmpty: R4.
func TestNilIsEmpty(t *testing.T) {
	for _, l := range [][]api.Header{nil, {}, make([]api.Header, 0, 4), list(allow, "*", expose, "*", "x", "y")[:0]} {
		mustUnsafe(t, l)
		mustCheck(t, self, l, false, false)
		mustCheck(t, api.Origin{}, l, false, false)
		mustExpose(t, l, false)
		mustExpose(t, l, true)
	}
}

// TestNoOrderOfMaps: R4: an answer is the same each time.
func TestNoOrderOfMaps(t *testing.T) {
	var asked []api.Header
	var want, exposed []string
	for n := range 200 {
		name := "n" + strconv.Itoa(n*7919%200)
		asked = append(asked, api.Header{Name: strings.ToUpper(name)}, api.Header{Name: name})
		want = append(want, name)
		exposed = append(exposed, name, strings.ToUpper(name))
	}
	slices.Sort(want)
	for range 50 {
		mustUnsafe(t, asked, want...)
		mustExpose(t, list(expose, strings.Join(exposed, ",")), true, want...)
	}
}

// TestEachByte: R5: any bytes may stand in names, values and hosts; letters of ASCII alone are compared by Lower.
func TestEachByte(t *testing.T) {
	for n := range 256 {
		b := string([]byte{byte(n)})
		name := b
		if n < 128 {
			name = strings.ToLower(b)
		}
		mustUnsafe(t, list("X"+b+"Y", b, "x"+b+"y", b), "x"+name+"y")
		mustUnsafe(t, list("x"+b, ""), "x"+name)
		host := api.Origin{Scheme: "https", Host: b, Port: 443}
		mustCheck(t, host, list(allow, "https://"+b, with, "true"), true, true)
		mustCheck(t, host, list(allow, "https://"+b+b, with, "true"), false, false)
		mustCheck(t, self, list(allow+b, "*", b+allow, "*"), false, false)
		mustCheck(t, self, list(allow, "*"+b), false, false)
		mustCheck(t, self, list(allow, "https://a", with, "true"+b), true, false)
		if b == "," {
			mustExpose(t, list(expose, "x"+b+"y"), false, "x", "y")
		} else if token.MatchString(b) {
			mustExpose(t, list(expose, "x"+b+"y"), false, "x"+name+"y")
		} else {
			mustExpose(t, list(expose, "x"+b+"y"), false)
		}
	}
}

// TestAnyBytes: R1, R5: any calls end, and what is told holds together.
func TestAnyBytes(t *testing.T) {
	r := rand.New(rand.NewSource(185))
	text := func() string {
		b := make([]byte, r.Intn(6))
		r.Read(b)
		return some(r, string(b), "a", "A, b", "*", "true", "https://a", "null", "\"", "accept", "")
	}
	for range 60000 {
		l := make([]api.Header, r.Intn(6))
		for i := range l {
			l[i] = api.Header{Name: some(r, allow, with, expose, "accept", "range", text()), Value: text()}
		}
		before := slices.Clone(l)
		who := api.Origin{Scheme: some(r, "https", text()), Host: text(), Port: []int{443, 0, -1, math.MaxInt, math.MinInt, r.Int()}[r.Intn(6)], Opaque: r.Intn(3) == 0}
		if cors.Check(who, true, l) && !cors.Check(who, false, l) {
			t.Fatalf("Check(%+v, .., %q)", who, l)
		}
		s := text()
		if m, ok := cors.Method(s); !strings.EqualFold(m, s) && ok || !ok && m != "" || cors.Simple(s) && m != s {
			t.Fatalf("Method(%q): %q, %v", s, m, ok)
		}
		if names, all := cors.Exposed(l, r.Intn(2) == 0); all && len(names) > 0 || !slices.IsSorted(names) {
			t.Fatalf("Exposed(%q): %q, %v", l, names, all)
		}
		if names := cors.Unsafe(l); len(names) > len(l) || !slices.IsSorted(names) {
			t.Fatalf("Unsafe(%q): %q", l, names)
		}
		if !slices.Equal(l, before) {
			t.Fatalf("what was given became %q", l)
		}
	}
}

// TestLong: R1: the calls end, and soon, of long lists and texts too.
func TestLong(t *testing.T) {
	long := strings.Repeat("A", 1<<20)
	mustMethod(t, long, long, true)
	mustMethod(t, long+" ", "", false)
	if cors.Simple(long) {
		t.Error("Simple of a long text")
	}
	mustUnsafe(t, list(long, long, "B", long), lower(long), "b")
	mustUnsafe(t, slices.Repeat(list("X", "y", "accept", "a"), 1<<16), "accept", "x")
	mustUnsafe(t, slices.Repeat(list("X", "y", "accept", ""), 1<<16), "x")
	mustCheck(t, self, list(allow, long, with, long), false, false)
	mustCheck(t, self, slices.Repeat(list(allow, "*", with, "true"), 1<<16), false, false)
	mustCheck(t, api.Origin{Scheme: "https", Host: long, Port: 443}, list(allow, "https://"+long, with, "true"), true, true)
	mustExpose(t, list(expose, strings.Repeat("b,A, ", 1<<17)), false, "a", "b")
	mustExpose(t, list(expose, long+","+strings.Repeat("\"", 1<<20)), true, lower(long))
	mustExposeAll(t, append(slices.Repeat(list(expose, "x"), 1<<16), list(expose, "*")...))
}
