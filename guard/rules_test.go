package guard_test

import (
	"math/rand"
	"slices"
	"strings"
	"testing"

	"ostiary/api"
	"ostiary/guard"
	"ostiary/policy"
)

// TestArguments: R2, R5: what is handed in is not changed, the room behind it is neither read nor written.
func TestArguments(t *testing.T) {
	values := []string{"'NONCE-m'", "g", "h", "*"}
	rules := []policy.Rule{{Name: "x"}, {Name: "script-src", Values: values[:2]}, {Name: "script-src-elem", Values: values}}
	l := []policy.Policy{{Rules: rules[:2]}, {Rules: rules[:1]}, {Rules: rules[:2], Report: true}, {Rules: rules[1:2]}}
	parts := []string{"y", "%78", "z", "spare"}
	u, page := at(t, "http://u:v@h/#f"), at(t, "http://u:v@h/#f")
	u.Path, page.Path = parts[:2], parts[1:3]
	a := guard.Ask{Page: page, Url: u, Dest: api.Script, Nonce: "n", Metadata: "sha256-x"}
	before := slices.Clone(values)
	for range 2 {
		for n, want := range []string{"", "0 script-src http://h/y/%78", "0 script-src http://h/y/%78", "0 script-src http://h/y/%78, 2 script-src http://h/y/%78?"} {
			mustFind(t, l[:n], a, want)
		}
		if got := guard.Told(u, page); got != "http://h/y/%78" {
			t.Errorf("Told: %q", got)
		}
	}
	if !slices.Equal(values, before) || !slices.Equal(parts, []string{"y", "%78", "z", "spare"}) || u.User != "u" || u.Pass != "v" || u.Fragment != "f" {
		t.Errorf("what was given became %q, %q, %+v", values, parts, u)
	}
	if rules[0].Name != "x" || rules[1].Name != "script-src" || len(rules[1].Values) != 2 || rules[2].Name != "script-src-elem" || len(rules[2].Values) != 4 || !l[2].Report || len(l[3].Rules) != 1 {
		t.Errorf("what was given became %v, %v", rules, l)
	}

	found := []guard.Violation{{Report: true}, {Report: true}, {Policy: 7}}
	if guard.Blocks(found[:2]) || !guard.Blocks(found) || found[2] != (guard.Violation{Policy: 7}) {
		t.Error("the room behind a list of violations counts")
	}
}

// TestAnswersAreNew: R2: what is answered is new memory each time, its spare room too.
func TestAnswersAreNew(t *testing.T) {
	a := guard.Ask{Page: at(t, "http://p/"), Url: at(t, "http://h/"), Dest: api.Image}
	for n := range 10 {
		l := make([]policy.Policy, n)
		for i := range l {
			l[i] = policy.Parse("img-src g", i%2 == 1)
		}
		one, other := guard.Check(l, a), guard.Check(l, a)
		want := slices.Clone(other)
		if len(want) != n {
			t.Fatalf("%d of %d", len(want), n)
		}
		all := one[:cap(one)]
		for i := range all {
			all[i] = guard.Violation{Policy: -1, Rule: "written", Url: "over"}
		}
		if !slices.Equal(other, want) || !slices.Equal(guard.Check(l, a), want) {
			t.Errorf("answers of %d policies share memory", n)
		}
	}
}

// TestNilIsEmpty: R4: lists of policies, of rules, of values, of parts.
func TestNilIsEmpty(t *testing.T) {
	a := guard.Ask{Page: at(t, "a://p"), Url: at(t, "a://h"), Dest: api.Image}
	for _, l := range [][]policy.Policy{nil, {}, make([]policy.Policy, 0, 4)} {
		mustFind(t, l, a, "")
	}
	for _, rules := range [][]policy.Rule{nil, {}, make([]policy.Rule, 0, 4)} {
		mustFind(t, []policy.Policy{{Rules: rules}, {Rules: rules, Report: true}}, a, "")
	}
	for _, values := range [][]string{nil, {}, make([]string, 0, 4)} {
		mustFind(t, []policy.Policy{{Rules: []policy.Rule{{Name: "img-src", Values: values}}}}, a, "0 img-src a")
		a.Url.Path, a.Page.Path = values, values
		mustFind(t, policies("img-src h", "img-src g", "img-src h/x"), a, "1 img-src a, 2 img-src a")
	}
}

// TestByHand: policies that Parse would not tell: names count as they are, and of several the first one.
func TestByHand(t *testing.T) {
	a := guard.Ask{Page: at(t, "http://p/"), Url: at(t, "http://h/"), Dest: api.Image}
	rule := func(words ...string) policy.Rule { return policy.Rule{Name: words[0], Values: words[1:]} }
	for _, c := range []struct {
		rules []policy.Rule
		want  string
	}{
		{[]policy.Rule{rule("Img-Src", "g")}, ""},
		{[]policy.Rule{rule(" img-src", "g"), rule("", "g")}, ""},
		{[]policy.Rule{rule("IMG-SRC", "h"), rule("img-src", "g")}, "0 img-src http://h"},
		{[]policy.Rule{rule("img-src", "g"), rule("img-src", "h")}, "0 img-src http://h"},
		{[]policy.Rule{rule("img-src", "h"), rule("img-src", "g")}, ""},
		{[]policy.Rule{rule("img-src", "g h")}, "0 img-src http://h"},
		{[]policy.Rule{rule("img-src", " h")}, "0 img-src http://h"},
		{[]policy.Rule{rule("img-src", "")}, "0 img-src http://h"},
	} {
		mustFind(t, []policy.Policy{{Rules: c.rules}}, a, c.want)
	}
	many := policy.Policy{Report: true}
	for range 100 {
		many.Rules = append(many.Rules, rule("x", "h"))
	}
	many.Rules = append(many.Rules, rule("default-src", "g"))
	mustFind(t, []policy.Policy{many}, a, "0 default-src http://h?")
}

// TestAnyBytes: R1, R5: of any bytes the calls end, and answer what the promises say.
func TestAnyBytes(t *testing.T) {
	r := rand.New(rand.NewSource(125))
	for range 20000 {
		b := make([]byte, r.Intn(12))
		r.Read(b)
		x := string(b)
		a := someAsk(t, r)
		a.Nonce, a.Metadata = x, some(r, x, "sha256-"+x)
		l := []policy.Policy{policy.Parse(x, false), policy.Parse("default-src "+x, true), policy.Parse("script-src 'nonce-"+x+"'; default-src 'sha256-"+x+"'", false)}
		if got, want := guard.Check(l, a), checkAgain(l, a); !slices.Equal(got, want) {
			t.Fatalf("Check(%v, %+v): %v, not %v", l, a, got, want)
		}
		hand := []policy.Policy{{Rules: []policy.Rule{{Name: x, Values: []string{x}}, {Name: "default-src", Values: []string{"'nonce-" + x + "'"}}}}}
		a.Url, a.Page = at(t, "http://h/"), at(t, "http://p/")
		for _, dest := range named() {
			a.Dest = dest
			want := "0 default-src http://h"
			if x != "" && (dest == api.Script || dest == api.Style) {
				want = ""
			}
			mustFind(t, hand, a, want)
		}
	}
}

// TestAnyAddress: R1: of addresses that no call answered, the calls end.
func TestAnyAddress(t *testing.T) {
	r := rand.New(rand.NewSource(126))
	texts := []string{"", "http", "https", "blob", "a", "h", "*", ".", "/", "x", "%", "http://h/", "@", "#", "\xff", ":"}
	one := func() api.URL {
		u := api.URL{Scheme: some(r, texts...), User: some(r, texts...), Pass: some(r, texts...), Host: some(r, texts...), HasHost: r.Intn(2) == 0, Port: []int{-1, 0, 80, 443, -2, 1 << 40, -1 << 63}[r.Intn(7)], Opaque: r.Intn(2) == 0, Query: some(r, texts...), HasQuery: r.Intn(2) == 0}
		for range r.Intn(4) {
			u.Path = append(u.Path, some(r, texts...))
		}
		return u
	}
	for range 50000 {
		l, a := somePolicies(r), someAsk(t, r)
		a.Url, a.Page, a.Hops = one(), one(), r.Intn(3)-1
		for i, v := range guard.Check(l, a) {
			if v.Policy < i || v.Policy >= len(l) || v.Url != guard.Told(a.Url, a.Page) || v.Report != l[v.Policy].Report {
				t.Fatalf("Check(%v, %+v): %v", l, a, v)
			}
		}
	}
	mustFind(t, nil, guard.Ask{}, "")
	mustFind(t, policies("default-src 'none'"), guard.Ask{}, "")
	mustFind(t, policies("default-src 'none'"), guard.Ask{Dest: api.Plain}, "0 default-src ")
	if got := guard.Told(api.URL{}, api.URL{}); got != "" {
		t.Errorf("Told of zero addresses: %q", got)
	}
}

// TestLong: R1: the calls end, and soon, of very long texts and lists too.
func TestLong(t *testing.T) {
	const n = 1 << 14
	page := at(t, "http://p/")
	path := strings.Repeat("/y", 2000)
	l := make([]policy.Policy, n)
	for i := range l {
		l[i] = policy.Parse("img-src g g/x *.h; script-src 'nonce-a' 'sha256-b'", i%4 != 3)
	}
	a := guard.Ask{Page: page, Url: at(t, "http://p"+path), Dest: api.Image}
	got := guard.Check(l, a)
	if len(got) != n || got[n-1] != (guard.Violation{Policy: n - 1, Rule: "img-src", Url: "http://p" + path}) || !guard.Blocks(got) {
		t.Errorf("of many policies: %d", len(got))
	}
	if guard.Blocks(got[:3]) || !guard.Blocks(got[:4]) {
		t.Error("the fourth one blocks")
	}
	for i := range got {
		got[i].Report = i < n-1
	}
	if !guard.Blocks(got) || guard.Blocks(got[:n-1]) {
		t.Error("the last of many blocks")
	}

	a.Dest, a.Nonce, a.Metadata = api.Script, strings.Repeat("a", n), strings.Repeat("sha256-b ", n)
	if got := guard.Check(l[:64], a); len(got) > 0 {
		t.Errorf("long metadata: %d", len(got))
	}
	a.Metadata += "sha256-c"
	if got := guard.Check(l[:64], a); len(got) != 64 {
		t.Errorf("long metadata, and one more: %d", len(got))
	}
	wide := policies("script-src "+strings.Repeat("g ", n), "script-src "+strings.Repeat("g ", n)+"p:80", "default-src "+strings.Repeat("g", n))
	mustFind(t, wide, guard.Ask{Page: page, Url: at(t, "http://p/x"), Dest: api.Script}, "0 script-src http://p/x, 2 default-src http://p/x")
}
