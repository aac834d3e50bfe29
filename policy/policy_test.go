package policy_test

import (
	"math/rand"
	"regexp"
	"slices"
	"strconv"
	"strings"
	"testing"

	"ostiary/api"
	"ostiary/policy"
)

// oneByte: a text of just that byte (string(rune(c)) would be two bytes above 127).
func oneByte(c int) string { return string([]byte{byte(c)}) }

// someText: at most so many of these pieces, one behind the other.
func someText(r *rand.Rand, of []string, most int) string {
	var out strings.Builder
	for range r.Intn(most + 1) {
		out.WriteString(of[r.Intn(len(of))])
	}
	return out.String()
}

// rules: each of a name and its values.
func rules(l ...[]string) []policy.Rule {
	var out []policy.Rule
	for _, words := range l {
		out = append(out, policy.Rule{Name: words[0], Values: words[1:]})
	}
	return out
}

// numbered: so many rules without values, one behind the other.
func numbered(n int) string {
	var out strings.Builder
	for i := range n {
		out.WriteString("n" + strconv.Itoa(i) + ";")
	}
	return out.String()
}

func sameRule(a, b policy.Rule) bool { return a.Name == b.Name && slices.Equal(a.Values, b.Values) }

func same(a, b policy.Policy) bool {
	return a.Report == b.Report && slices.EqualFunc(a.Rules, b.Rules, sameRule)
}

// mustParse: of both kinds of policies.
func mustParse(t *testing.T, s string, want []policy.Rule) {
	t.Helper()
	for _, report := range []bool{false, true} {
		if got := policy.Parse(s, report); !same(got, policy.Policy{Rules: want, Report: report}) {
			t.Errorf("Parse(%q, %v): %v, not %q", s, report, got, want)
		}
	}
}

// P10.1

func TestParse(t *testing.T) {
	for s, want := range map[string][]policy.Rule{
		"Img-Src a  b; ;img-src c;x": rules([]string{"img-src", "a", "b"}, []string{"x"}),
		"":                           nil,
		";":                          nil,
		" ; \t;\n;\f\r;":             nil,
		"x":                          rules([]string{"x"}), // without values
		"x;":                         rules([]string{"x"}),
		";x":                         rules([]string{"x"}),
		" \t\n\f\rx \t\n\f\r":        rules([]string{"x"}),
		"a b":                        rules([]string{"a", "b"}),
		"a b;c d":                    rules([]string{"a", "b"}, []string{"c", "d"}),
		"a\tb\nc\fd\re f":            rules([]string{"a", "b", "c", "d", "e", "f"}),
		"a \t\n\f\r b":               rules([]string{"a", "b"}),
		"c;b;a":                      rules([]string{"c"}, []string{"b"}, []string{"a"}), // in their order
		"a b b a":                    rules([]string{"a", "b", "b", "a"}),                // values may be there twice
		"A B":                        rules([]string{"a", "B"}),                          // the name alone by Lower
		"IMG-src 'NONE' HTTPS:":      rules([]string{"img-src", "'NONE'", "HTTPS:"}),

		"a 1;a 2":         rules([]string{"a", "1"}), // the first one holds
		"a 1;A 2":         rules([]string{"a", "1"}),
		"A 1;a 2":         rules([]string{"a", "1"}),
		"a;a 2":           rules([]string{"a"}),
		"a 1;b;a 2;c":     rules([]string{"a", "1"}, []string{"b"}, []string{"c"}),
		"a 1;a 2;a 3;b":   rules([]string{"a", "1"}, []string{"b"}),
		"a b;b a":         rules([]string{"a", "b"}, []string{"b", "a"}), // a value is no name
		"a;aa;a-a;-a":     rules([]string{"a"}, []string{"aa"}, []string{"a-a"}, []string{"-a"}),
		"É 1;é 2":         rules([]string{"É", "1"}, []string{"é", "2"}), // letters of ASCII alone
		"\u212a 1;k 2":    rules([]string{"\u212a", "1"}, []string{"k", "2"}),
		"\xc1A\xff \xc1A": rules([]string{"\xc1a\xff", "\xc1A"}),

		"a,b c,d":               rules([]string{"a,b", "c,d"}), // no cut at a `,` here
		"a 'b;c'":               rules([]string{"a", "'b"}, []string{"c'"}),
		"a \"b;c d\"":           rules([]string{"a", "\"b"}, []string{"c", "d\""}),
		"a\\;b":                 rules([]string{"a\\"}, []string{"b"}),
		"a: b":                  rules([]string{"a:", "b"}),
		"a=b c=d":               rules([]string{"a=b", "c=d"}),
		"a%20b%3Bc":             rules([]string{"a%20b%3bc"}),
		"*":                     rules([]string{"*"}),
		"\x00 \x00":             rules([]string{"\x00", "\x00"}),
		"a\x0bb\u00a0c\u2003d":  rules([]string{"a\x0bb\u00a0c\u2003d"}), // blank elsewhere, not here
		"\x0b;\u0085;\ufeff":    rules([]string{"\x0b"}, []string{"\u0085"}, []string{"\ufeff"}),
		"a \xff\xfe\xc3;\xe2 b": rules([]string{"a", "\xff\xfe\xc3"}, []string{"\xe2", "b"}),
		"a\uff1bb":              rules([]string{"a\uff1bb"}), // no `;`
	} {
		mustParse(t, s, want)
	}
}

// TestParseCutsAt: these five bytes part words, `;` parts rules, and no other does either.
func TestParseCutsAt(t *testing.T) {
	for c := range 256 {
		b := oneByte(c)
		want := rules([]string{"a" + strings.ToLower(b) + "x", "b" + b + "y"})
		switch {
		case c == 9 || c == 10 || c == 12 || c == 13 || c == 32:
			want = rules([]string{"a", "x", "b", "y"})
		case c == ';':
			want = rules([]string{"a"}, []string{"x", "b"}, []string{"y"})
		case c >= 128:
			want = rules([]string{"a" + b + "x", "b" + b + "y"})
		}
		mustParse(t, "a"+b+"x b"+b+"y", want)
	}
}

// TestParseMost: MaxRules rules, and nothing behind them.
func TestParseMost(t *testing.T) {
	for n, want := range map[int]int{0: 0, 1: 1, 31: 31, 32: 32, 33: 32, 34: 32, 100: 32} {
		p := policy.Parse(numbered(n), true)
		if len(p.Rules) != want || !p.Report {
			t.Fatalf("of %d: %d rules, %v", n, len(p.Rules), p.Report)
		}
		for i, r := range p.Rules {
			if r.Name != "n"+strconv.Itoa(i) || len(r.Values) > 0 {
				t.Errorf("of %d: rule %d is %q", n, i, r)
			}
		}
	}
	last := func(s string) policy.Rule {
		p := policy.Parse(s, false)
		if len(p.Rules) != api.MaxRules {
			t.Errorf("%d rules", len(p.Rules))
		}
		return p.Rules[len(p.Rules)-1]
	}
	for s, want := range map[string][]string{
		numbered(31) + "32nd a b;33rd c":            {"32nd", "a", "b"},
		numbered(31) + "32nd a;32nd b;33rd":         {"32nd", "a"},
		numbered(31) + ";; ;32nd a":                 {"32nd", "a"}, // empty ones don't count
		numbered(31) + "n0 x;N30 y;32nd a":          {"32nd", "a"}, // nor those that are there already
		numbered(31) + numbered(31) + "32nd a;33rd": {"32nd", "a"},
		numbered(32) + "n0 x":                       {"n31"},
		numbered(32) + "n31 x":                      {"n31"},
		numbered(32) + ";":                          {"n31"},
	} {
		if got := last(s); !sameRule(got, rules(want)[0]) {
			t.Errorf("the last rule of %q: %q", s, got)
		}
	}
	// There is no most of values, nor of bytes.
	many := "a" + strings.Repeat(" v", 100*api.MaxRules)
	if p := policy.Parse(many, false); len(p.Rules) != 1 || len(p.Rules[0].Values) != 100*api.MaxRules {
		t.Errorf("values: %d", len(p.Rules[0].Values))
	}
}

var word = regexp.MustCompile(`[^\t\n\f\r ]+`)

// lower: as a second hand would write it.
func lower(s string) string {
	b := []byte(s)
	for i := range b {
		if strings.IndexByte("ABCDEFGHIJKLMNOPQRSTUVWXYZ", b[i]) >= 0 {
			b[i] |= 32
		}
	}
	return string(b)
}

// wordsOf: by a pattern, which takes a byte that is of no rune for one of its own.
func wordsOf(s string) []string {
	var out []string
	for _, at := range word.FindAllStringIndex(s, -1) {
		out = append(out, s[at[0]:at[1]])
	}
	return out
}

// parseAgain: P10.1, told another way: all rules first, then without what is left out.
func parseAgain(s string, report bool) policy.Policy {
	p := policy.Policy{Report: report}
	there := map[string]bool{}
	for _, piece := range strings.Split(s, ";") {
		words := wordsOf(piece)
		if len(words) == 0 || there[lower(words[0])] {
			continue
		}
		there[lower(words[0])] = true
		p.Rules = append(p.Rules, policy.Rule{Name: lower(words[0]), Values: words[1:]})
	}
	p.Rules = p.Rules[:min(32, len(p.Rules))]
	return p
}

// again: Parse and its second reading answer alike; how many rules.
func again(t *testing.T, s string) int {
	t.Helper()
	want := parseAgain(s, len(s)%2 == 0)
	if got := policy.Parse(s, len(s)%2 == 0); !same(got, want) {
		t.Fatalf("Parse(%q): %v, not %v", s, got, want)
	}
	return len(want.Rules)
}

// TestParseEachByte: every byte at each place of a text.
func TestParseEachByte(t *testing.T) {
	for _, s := range []string{"a b; c  d;A e", "Img-Src 'self';\timg-src *; x", numbered(33)} {
		for i := range len(s) + 1 {
			for c := range 256 {
				again(t, s[:i]+oneByte(c)+s[i:])
				if i < len(s) {
					again(t, s[:i]+oneByte(c)+s[i+1:])
				}
			}
		}
	}
}

// parts: what random policies are made of.
func parts() []string {
	return []string{"a", "A", "b", "B", "img-src", "Img-Src", "'none'", "*", ";", ";", "; ", " ; ", " ", " ", "\t", "\n", "\f", "\r", "\x0b", ",", "é", "\xff", "\x00", "\u2003", "-", "\"", "'"}
}

func TestParseAgain(t *testing.T) {
	r := rand.New(rand.NewSource(101))
	n, most := 0, 0
	for i := range 100000 {
		if i%10 > 0 {
			n += again(t, someText(r, parts(), 14))
			continue
		}
		if again(t, someText(r, append(parts(), ";", ";", ";", ";"), 400)) == api.MaxRules {
			most++
		}
	}
	if n < 100000 || most < 500 {
		t.Errorf("too few: %d rules, %d full policies", n, most)
	}
}

const (
	holds   = "content-security-policy"
	reports = "content-security-policy-report-only"
)

// list: of names and values by turns.
func list(words ...string) []api.Header {
	var out []api.Header
	for i := 0; i+1 < len(words); i += 2 {
		out = append(out, api.Header{Name: words[i], Value: words[i+1]})
	}
	return out
}

// shown: each policy, `!` behind one that holds and `?` behind one that reports.
func shown(l []policy.Policy) string {
	var out strings.Builder
	for _, p := range l {
		out.WriteString(policy.Text(p))
		if p.Report {
			out.WriteByte('?')
		} else {
			out.WriteByte('!')
		}
	}
	return out.String()
}

func TestFrom(t *testing.T) {
	for _, c := range []struct {
		l    []api.Header
		want string
	}{
		{nil, ""},
		{list("x", "a"), ""},
		{list(holds, "a"), "a!"},
		{list(reports, "a"), "a?"},
		{list(holds, "a b; c"), "a b; c!"},
		{list(holds, "a b,c d"), "a b!c d!"},
		{list(holds, "a", holds, "b", holds, "a"), "a!b!a!"}, // each for itself, in order
		{list(holds, "a,b", holds, "c,d"), "a!b!c!d!"},
		{list(reports, "a,b", reports, "c"), "a?b?c?"},
		{list(reports, "a", holds, "b"), "b!a?"}, // those that hold come first
		{list(reports, "a", holds, "b", reports, "c", holds, "d"), "b!d!a?c?"},
		{list(holds, "b", reports, "b"), "b!b?"},
		{list("Content-Security-Policy", "a", "CONTENT-SECURITY-POLICY", "b"), "a!b!"}, // by Lower
		{list("Content-Security-Policy-Report-Only", "a", "CONTENT-security-POLICY-report-ONLY", "b"), "a?b?"},
		{list("x", "a", holds, "b", "y", "c"), "b!"},

		{list(holds, ""), ""}, // those without rules are left out
		{list(holds, "", reports, ""), ""},
		{list(holds, ","), ""},
		{list(holds, " ,\t;,; ;\n"), ""},
		{list(holds, ",a,"), "a!"},
		{list(holds, ";,a; ;,,b,;"), "a!b!"},
		{list(holds, "", holds, "a", holds, " "), "a!"},
		{list(reports, "a, ;,b"), "a?b?"},

		{list(holds, "a 1; a 2, a 3"), "a 1!a 3!"}, // a name may be in each of them
		{list(holds, "a;b, c"), "a; b!c!"},
		{list(holds, "A B, C D"), "a B!c D!"},
		{list(holds, "a \"b, c\" d"), "a \"b!c\" d!"}, // in quotes too
		{list(holds, "a \"b", holds, "c\" d"), "a \"b!c\" d!"},
		{list(holds, "a 'b,c'"), "a 'b!c'!"},
		{list(holds, "a \\,b"), "a \\!b!"},
		{list(holds, "a \"\\\",b"), "a \"\\\"!b!"},
		{list(holds, "a\t,\rb\n"), "a!b!"},
		{list(holds, "a \xff,\x00"), "a \xff!\x00!"},
		{list(holds, "a;", holds, "b"), "a!b!"},
		{list(holds, "a", holds, ";b"), "a!b!"},

		{list(holds+" ", "a"), ""}, // other names
		{list(" "+holds, "a"), ""},
		{list("", "a"), ""},
		{list("content-security", "a", "content-security-policy-", "b", "x-"+holds, "c", reports+"s", "d"), ""},
		{list("content-security-policy-report", "a", "content_security_policy", "b", "contentsecuritypolicy", "c"), ""},
		{list("content-\u017fecurity-policy", "a"), ""},
		{list(holds+","+holds, "a"), ""},
		{list("a", holds), ""},
	} {
		if got := shown(policy.From(c.l)); got != c.want {
			t.Errorf("From(%q): %q, not %q", c.l, got, c.want)
		}
	}
}

// TestFromMost: each policy may have MaxRules rules, however many there are.
func TestFromMost(t *testing.T) {
	many := numbered(40)
	got := policy.From(list(reports, many, holds, many+","+many, holds, many))
	if len(got) != 4 {
		t.Fatalf("%d policies", len(got))
	}
	for i, p := range got {
		if !same(p, parseAgain(many, i == 3)) || len(p.Rules) != api.MaxRules {
			t.Errorf("policy %d: %v", i, p)
		}
	}
	l := make([]api.Header, 100)
	for i := range l {
		l[i] = api.Header{Name: holds, Value: strings.Repeat("a,", 50)}
	}
	if got := policy.From(l); len(got) != 5000 {
		t.Errorf("%d policies", len(got))
	}
}

// fromAgain: P10.1, header by header.
func fromAgain(l []api.Header) []policy.Policy {
	var out []policy.Policy
	for i, name := range []string{holds, reports} {
		for _, h := range l {
			if lower(h.Name) != name {
				continue
			}
			for _, piece := range strings.Split(h.Value, ",") {
				if p := parseAgain(piece, i == 1); len(p.Rules) > 0 {
					out = append(out, p)
				}
			}
		}
	}
	return out
}

func TestFromAgain(t *testing.T) {
	r := rand.New(rand.NewSource(102))
	names := []string{holds, reports, holds, reports, "Content-Security-Policy", strings.ToUpper(reports), "x", "", holds + " "}
	n := 0
	for range 30000 {
		l := make([]api.Header, r.Intn(6))
		for i := range l {
			l[i] = api.Header{Name: names[r.Intn(len(names))], Value: someText(r, append(parts(), ",", ", ", "\\"), 10)}
		}
		want := fromAgain(l)
		n += len(want)
		if got := policy.From(l); !slices.EqualFunc(got, want, same) {
			t.Fatalf("From(%q): %v, not %v", l, got, want)
		}
	}
	if n < 50000 {
		t.Errorf("too few: %d", n)
	}
}

func TestText(t *testing.T) {
	for _, c := range []struct {
		l    []policy.Rule
		want string
	}{
		{nil, ""},
		{rules([]string{"a"}), "a"},
		{rules([]string{"a", "b"}), "a b"},
		{rules([]string{"a", "b", "C", "d"}), "a b C d"},
		{rules([]string{"a"}, []string{"b"}), "a; b"},
		{rules([]string{"a", "1", "2"}, []string{"b"}, []string{"c", "3"}), "a 1 2; b; c 3"},
		{rules([]string{"a", "1"}, []string{"a", "2"}), "a 1; a 2"}, // as it is given, though Parse would not tell it
		{rules([]string{"A", "b;c", "d e"}), "A b;c d e"},
		{rules([]string{""}), ""},
		{rules([]string{"", ""}), " "},
		{rules([]string{""}, []string{""}), "; "},
		{rules([]string{"\xff", "\x00"}), "\xff \x00"},
	} {
		for _, report := range []bool{false, true} {
			if got := policy.Text(policy.Policy{Rules: c.l, Report: report}); got != c.want {
				t.Errorf("Text(%q): %q, not %q", c.l, got, c.want)
			}
		}
	}
	if got := policy.Text(policy.Parse("Img-Src a  b; ;img-src c;x", false)); got != "img-src a b; x" {
		t.Errorf("Text: %q", got)
	}
}

// P10.4

func mustStay(t *testing.T, s string, report bool) {
	t.Helper()
	p := policy.Parse(s, report)
	if got := policy.Parse(policy.Text(p), report); !same(got, p) {
		t.Fatalf("of %q: %v, then %v", s, p, got)
	}
}

// TestWrittenAgain: W2 too.
func TestWrittenAgain(t *testing.T) {
	for _, s := range []string{"", ";", "x", "Img-Src a  b; ;img-src c;x", "A B\tC;\rd", "a\x0bB;\xff \x00;É", numbered(31), numbered(32), numbered(33), "a 'b;c'", "a,b c,d"} {
		mustStay(t, s, false)
		mustStay(t, s, true)
	}
	r := rand.New(rand.NewSource(103))
	for i := range 30000 {
		mustStay(t, someText(r, parts(), 20), i%2 == 0)
		mustStay(t, someText(r, append(parts(), ";", ";", ";"), 200), i%2 == 0)
	}
}

// TestHeadersWrittenAgain: so are the policies of headers, and a header of their texts tells them.
func TestHeadersWrittenAgain(t *testing.T) {
	r := rand.New(rand.NewSource(104))
	for range 20000 {
		l := policy.From(list(holds, someText(r, parts(), 20), reports, someText(r, parts(), 20), holds, someText(r, parts(), 20)))
		var m []api.Header
		for _, p := range l {
			mustStay(t, policy.Text(p), p.Report)
			name := map[bool]string{false: holds, true: reports}[p.Report]
			m = append(m, api.Header{Name: name, Value: policy.Text(p)})
		}
		if got := policy.From(m); !slices.EqualFunc(got, l, same) {
			t.Fatalf("%v, then %v", l, got)
		}
	}
}
