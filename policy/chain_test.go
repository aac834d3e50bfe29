package policy_test

import (
	"math"
	"math/rand"
	"slices"
	"strings"
	"testing"

	"ostiary/api"
	"ostiary/policy"
)

// chains: each name that has one, as P10.2 tells it.
func chains() map[string]string {
	return map[string]string{
		"script-src-elem": "script-src-elem script-src default-src",
		"style-src-elem":  "style-src-elem style-src default-src",
		"worker-src":      "worker-src child-src script-src default-src",
		"frame-src":       "frame-src child-src default-src",
		"connect-src":     "connect-src default-src",
		"font-src":        "font-src default-src",
		"img-src":         "img-src default-src",
		"media-src":       "media-src default-src",
		"script-src":      "script-src default-src",
		"style-src":       "style-src default-src",
		"child-src":       "child-src default-src",
		"object-src":      "object-src default-src",
		"default-src":     "default-src",
	}
}

// others: names without a chain.
func others() []string {
	out := []string{"", " ", "x", "src", "-src", "default", "elem", "*", "script-src-attr", "style-src-attr", "base-uri", "form-action", "frame-ancestors", "navigate-to", "report-uri", "report-to", "sandbox", "manifest-src", "prefetch-src", "worker-src-elem", "default-src-elem", "img-src-elem", "connect_src", "imgsrc", "img-src;", "img-src,default-src", "img-src default-src", "\xff", "\x00", "img-\u017frc"}
	for name := range chains() {
		out = append(out, " "+name, name+" ", strings.ToUpper(name), strings.ToUpper(name[:1])+name[1:], name[1:], name[:len(name)-1], name+"s", "x"+name, name+"\x00", name+"-")
	}
	return out
}

// P10.2

func TestChain(t *testing.T) {
	for name, want := range chains() {
		if got := policy.Chain(name); !slices.Equal(got, strings.Fields(want)) {
			t.Errorf("Chain(%q): %q, not %s", name, got, want)
		}
	}
	for _, name := range others() {
		if got := policy.Chain(name); len(got) > 0 {
			t.Errorf("Chain(%q): %q", name, got)
		}
	}
}

func TestFor(t *testing.T) {
	want := map[int]string{
		api.Plain:  "connect-src",
		api.Script: "script-src-elem",
		api.Style:  "style-src-elem",
		api.Image:  "img-src",
		api.Font:   "font-src",
		api.Frame:  "frame-src",
	}
	dests := []int{math.MinInt, math.MaxInt, 1 << 32, 1<<32 + 1, -1 << 32, 256, 257}
	for dest := range 1000 {
		dests = append(dests, dest, -dest)
	}
	for _, dest := range dests {
		if got := policy.For(dest); got != want[dest] {
			t.Errorf("For(%d): %q, not %q", dest, got, want[dest])
		}
	}
}

// TestForHasAChain: what a destination goes by can be asked.
func TestForHasAChain(t *testing.T) {
	for dest := api.Plain; dest <= api.Frame; dest++ {
		name := policy.For(dest)
		if got := policy.Chain(name); len(got) < 2 || got[0] != name || got[len(got)-1] != "default-src" {
			t.Errorf("Chain(For(%d)): %q", dest, got)
		}
	}
}

// P10.3

func mustTell(t *testing.T, p policy.Policy, name string, want []string, under string) {
	t.Helper()
	got, by, ok := policy.Values(p, name)
	if !ok || by != under || !slices.Equal(got, want) {
		t.Errorf("Values(%v, %q): %q, %q, %v: not %q, %q", p, name, got, by, ok, want, under)
	}
}

// mustNotTell: everything beside the false is its zero value.
func mustNotTell(t *testing.T, p policy.Policy, name string) {
	t.Helper()
	if got, by, ok := policy.Values(p, name); ok || by != "" || len(got) > 0 {
		t.Errorf("Values(%v, %q): %q, %q, %v", p, name, got, by, ok)
	}
}

func TestValues(t *testing.T) {
	mustTell(t, policy.Parse("default-src a", false), "script-src-elem", []string{"a"}, "default-src")
	p := policy.Parse("img-src; default-src a b; child-src C c; x y; worker-srcs z", true)
	mustTell(t, p, "img-src", nil, "img-src") // a rule without values is one
	mustTell(t, p, "font-src", []string{"a", "b"}, "default-src")
	mustTell(t, p, "default-src", []string{"a", "b"}, "default-src")
	mustTell(t, p, "frame-src", []string{"C", "c"}, "child-src")
	mustTell(t, p, "worker-src", []string{"C", "c"}, "child-src")
	mustTell(t, p, "child-src", []string{"C", "c"}, "child-src")
	mustTell(t, p, "script-src", []string{"a", "b"}, "default-src")
	for _, name := range append(others(), "y", "z", "worker-srcs") {
		mustNotTell(t, p, name) // though p has a rule of that name
		mustNotTell(t, policy.Policy{Rules: rules([]string{name, "v"})}, name)
	}
	for name := range chains() {
		mustNotTell(t, policy.Policy{}, name)
		mustNotTell(t, policy.Parse("x y; Img-srcs z; default a", false), name)
	}
}

// TestValuesByHand: policies that Parse would not tell: names count as they are, and of several the first one.
func TestValuesByHand(t *testing.T) {
	p := policy.Policy{Rules: rules([]string{"Img-Src", "great"}, []string{" img-src", "blank"}, []string{"", "empty"}, []string{"default-src", "one"}, []string{"default-src", "two"}, []string{"style-src", "three"}, []string{"style-src"})}
	mustTell(t, p, "img-src", []string{"one"}, "default-src")
	mustTell(t, p, "style-src-elem", []string{"three"}, "style-src")
	mustNotTell(t, p, "Img-Src")
	mustNotTell(t, p, "")
	var many policy.Policy
	for range 100 {
		many.Rules = append(many.Rules, policy.Rule{Name: "x", Values: []string{"y"}})
	}
	many.Rules = append(many.Rules, policy.Rule{Name: "img-src", Values: []string{"z", "z", ""}})
	mustTell(t, many, "img-src", []string{"z", "z", ""}, "img-src")
}

// TestValuesOfAll: for each choice of the names there are, each name goes by the first of its chain that is chosen, wherever its rule stands.
func TestValuesOfAll(t *testing.T) {
	r := rand.New(rand.NewSource(105))
	names := slices.Sorted(func(yield func(string) bool) {
		for name := range chains() {
			if !yield(name) {
				return
			}
		}
	})
	for chosen := range 1 << len(names) {
		var p policy.Policy
		for i, name := range names {
			if chosen>>i&1 == 1 {
				p.Rules = append(p.Rules, policy.Rule{Name: name, Values: []string{"of", name}})
			}
		}
		r.Shuffle(len(p.Rules), func(i, j int) { p.Rules[i], p.Rules[j] = p.Rules[j], p.Rules[i] })
		for name, chain := range chains() {
			under := ""
			for _, x := range strings.Fields(chain) {
				if under == "" && chosen>>slices.Index(names, x)&1 == 1 {
					under = x
				}
			}
			if under == "" {
				mustNotTell(t, p, name)
			} else {
				mustTell(t, p, name, []string{"of", under}, under)
			}
		}
	}
}
