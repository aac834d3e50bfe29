package policy_test

import (
	"math/rand"
	"slices"
	"strings"
	"testing"

	"ostiary/api"
	"ostiary/policy"
)

// copied: p in memory of its own, all the way down.
func copied(p policy.Policy) policy.Policy {
	p.Rules = slices.Clone(p.Rules)
	for i, r := range p.Rules {
		p.Rules[i].Values = slices.Clone(r.Values)
	}
	return p
}

// TestArguments: R2, R5: what is handed in is not changed, the room behind it is neither read nor written.
func TestArguments(t *testing.T) {
	values := []string{"a", "b", "spare", "room"}
	all := policy.Policy{Rules: []policy.Rule{
		{Name: "script-src", Values: values[:2]},
		{Name: "child-src", Values: values[:0]},
		{Name: "default-src", Values: []string{"spare"}},
		{Name: "img-src", Values: []string{"room"}},
	}}
	was := copied(all)
	p := policy.Policy{Rules: all.Rules[:2]}
	for range 2 {
		if got := policy.Text(p); got != "script-src a b; child-src" {
			t.Errorf("Text: %q", got)
		}
		mustTell(t, p, "script-src-elem", []string{"a", "b"}, "script-src")
		mustTell(t, p, "worker-src", nil, "child-src")
		mustNotTell(t, p, "img-src")
		mustNotTell(t, p, "default-src")
	}
	if !same(all, was) || !slices.Equal(values, []string{"a", "b", "spare", "room"}) {
		t.Errorf("what was given became %v, %q", all, values)
	}

	l := list(reports, "a", "X", "b", holds, "c,d", holds, "spare", reports, "room")
	before := slices.Clone(l)
	for n, want := range []string{"", "a?", "a?", "c!d!a?", "c!d!spare!a?", "c!d!spare!a?room?"} {
		if got := shown(policy.From(l[:n])); got != want {
			t.Errorf("From(%q): %q", l[:n], got)
		}
	}
	if !slices.Equal(l, before) {
		t.Errorf("what was given became %q", l)
	}
}

// scribble: writes over a list and the room behind it.
func scribble[T any](l []T, x T) {
	all := l[:cap(l)]
	for i := range all {
		all[i] = x
	}
}

// spoil: writes over the Values of each rule in turn; the other rules must stay.
func spoil(t *testing.T, p policy.Policy) {
	t.Helper()
	for i, r := range p.Rules {
		was := copied(p)
		scribble(r.Values, "written over")
		was.Rules[i].Values = slices.Clone(r.Values)
		if !same(p, was) {
			t.Errorf("lists of one answer share memory: %v, not %v", p, was)
		}
	}
	scribble(p.Rules, policy.Rule{Name: "written", Values: []string{"over"}})
}

// TestAnswersAreNew: R2: what is answered is new memory each time, its spare room too; no two lists of one answer share any.
func TestAnswersAreNew(t *testing.T) {
	for _, s := range []string{"a", "a b c", "a b; c d e; f; g h", "a 1 2 3;b;c 4;d 5 6 7 8", numbered(33), "default-src x y z; img-src v; script-src"} {
		want := parseAgain(s, true)
		one, two := policy.Parse(s, true), policy.Parse(s, true)
		spoil(t, one)
		if !same(two, want) || !same(policy.Parse(s, true), want) {
			t.Errorf("Parse(%q): answers share memory", s)
		}

		l := list(holds, s+","+s, reports, s, holds, s)
		wanted := fromAgain(l)
		first, second := policy.From(l), policy.From(l)
		for i := range first {
			spoil(t, first[i])
			if !slices.EqualFunc(first[i+1:], wanted[i+1:], same) {
				t.Errorf("From(%q): policies share memory", l)
			}
		}
		scribble(first, policy.Policy{Rules: rules([]string{"written", "over"})})
		if !slices.EqualFunc(second, wanted, same) || !slices.EqualFunc(policy.From(l), wanted, same) {
			t.Errorf("From(%q): answers share memory", l)
		}
	}
}

func TestValuesAreNew(t *testing.T) {
	for _, n := range []int{0, 1, 2, 3, 4, 5} {
		values := make([]string, n, n+3)
		for i := range values {
			values[i] = strings.Repeat("v", i+1)
		}
		want := slices.Clone(values)
		p := policy.Policy{Rules: []policy.Rule{{Name: "default-src", Values: values}}}
		one, _, _ := policy.Values(p, "img-src")
		other, _, _ := policy.Values(p, "img-src")
		scribble(one, "written")
		if !slices.Equal(values, want) || !slices.Equal(other, want) || slices.Contains(values[:cap(values)], "written") {
			t.Errorf("Values of %q share memory: %q, %q", want, values, other)
		}
		scribble(values, "over")
		if !slices.Equal(other, want) {
			t.Errorf("Values of %q hang on what was given: %q", want, other)
		}
	}
	for name, want := range chains() {
		one, other := policy.Chain(name), policy.Chain(name)
		scribble(one, "written")
		if !slices.Equal(other, strings.Fields(want)) || !slices.Equal(policy.Chain(name), strings.Fields(want)) {
			t.Errorf("Chain(%q): answers share memory", name)
		}
	}
}

// TestNilIsEmpty: R4.
func TestNilIsEmpty(t *testing.T) {
	for _, l := range [][]api.Header{nil, {}, make([]api.Header, 0, 4)} {
		if got := policy.From(l); len(got) > 0 {
			t.Errorf("From of nothing: %v", got)
		}
	}
	for _, l := range [][]policy.Rule{nil, {}, make([]policy.Rule, 0, 4)} {
		for _, report := range []bool{false, true} {
			p := policy.Policy{Rules: l, Report: report}
			if got := policy.Text(p); got != "" {
				t.Errorf("Text of nothing: %q", got)
			}
			mustNotTell(t, p, "default-src")
		}
	}
	for _, values := range [][]string{nil, {}, make([]string, 0, 4)} {
		p := policy.Policy{Rules: []policy.Rule{{Name: "img-src", Values: values}, {Name: "default-src", Values: []string{"a"}}}}
		if got := policy.Text(p); got != "img-src; default-src a" {
			t.Errorf("Text without values: %q", got)
		}
		mustTell(t, p, "img-src", nil, "img-src")
	}
}

// TestAnyBytes: R1, R5: of any bytes the calls end, and answer what the promises say.
func TestAnyBytes(t *testing.T) {
	r := rand.New(rand.NewSource(106))
	for range 30000 {
		b := make([]byte, r.Intn(24))
		r.Read(b)
		s := string(b)
		for _, text := range []string{s, "a " + s, s + ";" + s, s + " " + s, "a;" + s + ";b"} {
			again(t, text)
			mustStay(t, text, true)
			l := list(holds, text, s, text, reports, s+","+text)
			if got, want := policy.From(l), fromAgain(l); !slices.EqualFunc(got, want, same) {
				t.Fatalf("From(%q): %v, not %v", l, got, want)
			}
		}
		if got := policy.Chain(s); len(got) > 0 {
			t.Fatalf("Chain(%q): %q", s, got)
		}
		p := policy.Policy{Rules: rules([]string{s, s, s}, []string{"default-src", s})}
		if got := policy.Text(p); got != s+" "+s+" "+s+"; default-src "+s {
			t.Fatalf("Text(%v): %q", p, got)
		}
		mustNotTell(t, p, s)
		mustTell(t, p, "img-src", []string{s}, "default-src")
	}
}

// TestLong: R1: the calls end, and soon, of very long texts and lists too.
func TestLong(t *testing.T) {
	const n = 1 << 20
	for part, want := range map[string][2]int{" ": {0, 0}, ";": {0, 0}, ",": {1, 0}, "a": {1, 0}, "a ": {1, n - 1}, "a;": {1, 0}, "a b;": {1, 1}, "\xff": {1, 0}, "é;": {1, 0}, " ;\t": {0, 0}, "A;a;": {1, 0}} {
		p := policy.Parse(strings.Repeat(part, n), false)
		if len(p.Rules) != want[0] || len(p.Rules) > 0 && len(p.Rules[0].Values) != want[1] {
			t.Errorf("%q many times: %d rules", part, len(p.Rules))
		}
		mustStay(t, strings.Repeat(part, n/16), true)
	}
	if p := policy.Parse(numbered(n), true); len(p.Rules) != api.MaxRules {
		t.Errorf("many names: %d rules", len(p.Rules))
	}
	if p := policy.Parse(numbered(31)+strings.Repeat(numbered(31), n/256)+"last", true); len(p.Rules) != api.MaxRules || p.Rules[31].Name != "last" {
		t.Errorf("31 names many times: %d rules", len(p.Rules))
	}
	for part, want := range map[string]int{",": 0, "a,": n, "a": 1, ";": 0, "a;": 1, "\",": n} {
		if got := policy.From(list(holds, strings.Repeat(part, n))); len(got) != want {
			t.Errorf("%q many times: %d policies", part, len(got))
		}
	}
	l := make([]api.Header, n/4)
	for i := range l {
		l[i] = api.Header{Name: []string{holds, reports, "x", holds}[i%4], Value: "a,b"}
	}
	if got := policy.From(l); len(got) != n/4*3/2 || got[n/4-1].Report || !got[n/4].Report {
		t.Errorf("a long list: %d policies", len(got))
	}
	p := policy.Policy{Rules: make([]policy.Rule, n)}
	mustNotTell(t, policy.Policy{Rules: p.Rules[:0]}, "img-src")
	p.Rules[n-1] = policy.Rule{Name: "default-src", Values: make([]string, n)}
	if got, by, ok := policy.Values(p, "worker-src"); len(got) != n || by != "default-src" || !ok {
		t.Errorf("the last of many rules: %d, %q, %v", len(got), by, ok)
	}
	if got := policy.Text(p); len(got) != 2*(n-1)+len("default-src")+n {
		t.Errorf("Text of many rules: %d bytes", len(got))
	}
	if got := policy.Chain(strings.Repeat("img-src", n)); len(got) > 0 {
		t.Errorf("Chain of a long name: %q", got)
	}
}
