package guard_test

import (
	"math/rand"
	"regexp"
	"slices"
	"strings"
	"testing"

	"ostiary/api"
	"ostiary/guard"
	"ostiary/policy"
	"ostiary/source"
	"ostiary/url"
)

// A second reading of the promises: of addresses by patterns, of policies by their texts.

var (
	special = regexp.MustCompile(`^(https?|wss?|ftp)://(?:[^/?#]*@)?([^/?#]*)([^#]*)`)
	object  = regexp.MustCompile(`^blob:((?i:https?):[^?#]*)`)
)

// originAgain: the text of the origin of what stands at an address; the empty one of an Opaque one.
func originAgain(text string) string {
	if m := object.FindStringSubmatch(text); m != nil {
		in, _ := url.Parse(m[1])
		text = url.Text(in)
	}
	m := special.FindStringSubmatch(text)
	if m == nil {
		return ""
	}
	return m[1] + "://" + m[2]
}

func toldAgain(u, page api.URL) string {
	text := url.Text(u)
	from := originAgain(text)
	if from == "" {
		return text[:strings.Index(text, ":")]
	}
	if from != originAgain(url.Text(page)) {
		return from
	}
	if m := special.FindStringSubmatch(text); m != nil {
		return from + m[3]
	}
	bare, _, _ := strings.Cut(text, "#")
	return bare
}

// ruleAgain: the words of the rule that an ask goes by, found in a policy's text; none, if it says nothing.
func ruleAgain(p policy.Policy, dest int) []string {
	names := map[int]string{1: "connect-src", 2: "script-src-elem script-src", 3: "style-src-elem style-src", 4: "img-src", 5: "font-src", 6: "frame-src child-src"}[dest]
	if names == "" {
		return nil
	}
	for _, name := range append(strings.Fields(names), "default-src") {
		for _, rule := range strings.Split(policy.Text(p), "; ") {
			if words := strings.Split(rule, " "); words[0] == name {
				return words
			}
		}
	}
	return nil
}

func permitted(values []string, a guard.Ask) bool {
	for _, s := range values {
		if source.One(s, a.Url, a.Page, a.Hops) {
			return true
		}
	}
	vouched := source.Any(values, a.Url, a.Page, a.Hops, a.Nonce, a.Metadata)
	return vouched && (a.Dest == 2 || a.Dest == 3)
}

func checkAgain(l []policy.Policy, a guard.Ask) []guard.Violation {
	var out []guard.Violation
	for i := range l {
		if words := ruleAgain(l[i], a.Dest); words != nil && !permitted(words[1:], a) {
			out = append(out, guard.Violation{Policy: i, Rule: words[0], Url: toldAgain(a.Url, a.Page), Report: l[i].Report})
		}
	}
	return out
}

func some(r *rand.Rand, of ...string) string { return of[r.Intn(len(of))] }

func someAddress(r *rand.Rand) string {
	if r.Intn(5) == 0 {
		return some(r, "data:x", "data:x?q#f", "a:x", "a:/x", "a://u:v@h/x", "blob:http://h/1", "blob:https://h:81/1?q#f", "blob:https://u:v@p/1", "about:blank", "blob:x", "blob:ws://h/", "blob:http:h", "blob:HTTPS://P:443/x")
	}
	scheme := some(r, "http", "http", "https", "https", "ws", "wss", "ftp")
	host := some(r, "h", "h", "p", "a.h", "[::1]", "127.1")
	port := some(r, "", "", "", ":80", ":443", ":81")
	path := some(r, "", "/", "/x", "/x/y", "/x?q", "/x#f", "/x?q#f", "?@", "/u:v@p/", "/#@", "/x?")
	return scheme + "://" + some(r, "", "", "u@", "u:v@", ":v@", "a@b:c@") + host + port + path
}

func someRule(r *rand.Rand) string {
	words := []string{some(r, "default-src", "default-src", "script-src-elem", "script-src", "style-src-elem", "style-src", "img-src", "font-src", "frame-src", "child-src", "connect-src", "worker-src", "x")}
	for range r.Intn(3) {
		words = append(words, some(r, "'none'", "'self'", "*", "h", "p", "*.h", "https:", "h/x", "data:", "h:*", "http://h:81", "'nonce-n'", "'nonce-m'", "'sha256-s'", "'SHA512-t'", "blob:", "\xff"))
	}
	return strings.Join(words, " ")
}

func somePolicy(r *rand.Rand) policy.Policy {
	var rules []string
	for range r.Intn(5) {
		rules = append(rules, someRule(r))
	}
	return policy.Parse(strings.Join(rules, ";"), r.Intn(3) == 0)
}

func somePolicies(r *rand.Rand) []policy.Policy {
	l := make([]policy.Policy, r.Intn(5))
	for i := range l {
		l[i] = somePolicy(r)
	}
	return l
}

func someAsk(t *testing.T, r *rand.Rand) guard.Ask {
	return guard.Ask{
		Page:     at(t, someAddress(r)),
		Url:      at(t, someAddress(r)),
		Dest:     r.Intn(9) - 1,
		Hops:     max(r.Intn(4)-2, 0),
		Nonce:    some(r, "", "n", "m", "x"),
		Metadata: some(r, "", "", "sha256-s", "sha256-s sha512-t", "sha256-x", "md5-s"),
	}
}

func TestToldAgain(t *testing.T) {
	r := rand.New(rand.NewSource(121))
	same := 0
	for range 100000 {
		u, page := at(t, someAddress(r)), at(t, someAddress(r))
		want := toldAgain(u, page)
		if strings.Contains(want, "/x") {
			same++
		}
		if got := guard.Told(u, page); got != want {
			t.Fatalf("Told(%s, %s): %q, not %q", url.Text(u), url.Text(page), got, want)
		}
	}
	if same < 1000 {
		t.Errorf("too few: %d", same)
	}
}

func TestCheckAgain(t *testing.T) {
	r := rand.New(rand.NewSource(122))
	found := [4]int{}
	for range 100000 {
		l, a := somePolicies(r), someAsk(t, r)
		want := checkAgain(l, a)
		got := guard.Check(l, a)
		if !slices.Equal(got, want) {
			t.Fatalf("Check(%v, %+v): %v, not %v", l, a, got, want)
		}
		blocks := slices.ContainsFunc(want, func(v guard.Violation) bool { return !l[v.Policy].Report })
		if guard.Blocks(got) != blocks {
			t.Fatalf("Blocks(%v): %v", got, !blocks)
		}
		found[min(len(want), 3)]++
	}
	if slices.Min(found[:]) < 1000 {
		t.Errorf("too few: %v", found)
	}
}

// P12.3

// TestOneMore: wherever it stands, one policy more never blocks less, and leaves what the others say as it is.
func TestOneMore(t *testing.T) {
	r := rand.New(rand.NewSource(123))
	more := [2]int{}
	for range 50000 {
		l, a, p := somePolicies(r), someAsk(t, r), somePolicy(r)
		was := guard.Check(l, a)
		place := r.Intn(len(l) + 1)
		now := guard.Check(slices.Insert(slices.Clone(l), place, p), a)
		if guard.Blocks(was) && !guard.Blocks(now) {
			t.Fatalf("%v behind %d of %v blocks less", p, place, l)
		}
		if p.Report && guard.Blocks(was) != guard.Blocks(now) {
			t.Fatalf("%v, which reports, behind %d of %v blocks", p, place, l)
		}
		var others []guard.Violation
		for _, v := range now {
			if v.Policy > place {
				v.Policy--
				others = append(others, v)
			} else if v.Policy < place {
				others = append(others, v)
			} else if v.Report != p.Report {
				t.Fatalf("%v: %v", p, v)
			} else {
				more[map[bool]int{true: 1}[v.Report]]++
			}
		}
		if !slices.Equal(others, was) {
			t.Fatalf("with %v behind %d of %v: %v, not %v", p, place, l, others, was)
		}
	}
	if min(more[0], more[1]) < 1000 {
		t.Errorf("too few: %v", more)
	}
}

// TestReportsBlockNothing: however many there are, and whatever they say.
func TestReportsBlockNothing(t *testing.T) {
	r := rand.New(rand.NewSource(124))
	found := 0
	for range 30000 {
		l, a := somePolicies(r), someAsk(t, r)
		before := guard.Check(l, a)
		for i := range l {
			l[i].Report = true
		}
		got := guard.Check(l, a)
		if guard.Blocks(got) || len(got) != len(before) {
			t.Fatalf("Check(%v, %+v): %v, and %v before", l, a, got, before)
		}
		found += len(got)
	}
	if found < 10000 {
		t.Errorf("too few: %d", found)
	}
	all := policies("?default-src 'none'", "?default-src", "?script-src", "?img-src 'none'", "?connect-src", "?style-src", "?font-src", "?frame-src")
	for _, dest := range named() {
		got := guard.Check(all, guard.Ask{Page: at(t, "http://p/"), Url: at(t, "http://h/"), Dest: dest})
		if len(got) != 3 || guard.Blocks(got) {
			t.Errorf("reports, to %d: %v", dest, got)
		}
	}
}
