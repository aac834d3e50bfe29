package headers_test

import (
	"math/rand"
	"regexp"
	"slices"
	"strings"
	"testing"

	"ostiary/api"
	"ostiary/headers"
)

// list: headers of these names and values, by turns.
func list(words ...string) []api.Header {
	var out []api.Header
	for i := 0; i+1 < len(words); i += 2 {
		out = append(out, api.Header{Name: words[i], Value: words[i+1]})
	}
	return out
}

// oneByte: a text of just that byte (string(rune(c)) would be two bytes above 127).
func oneByte(c int) string { return string([]byte{byte(c)}) }

func some(r *rand.Rand, of []string) string { return of[r.Intn(len(of))] }

// someOf: a text of at most so many of these bytes.
func someOf(r *rand.Rand, of string, most int) string {
	b := make([]byte, r.Intn(most+1))
	for i := range b {
		b[i] = of[r.Intn(len(of))]
	}
	return string(b)
}

// lower: A to Z as a to z, told another way than by infra.
func lower(s string) string {
	return strings.NewReplacer("A", "a", "B", "b", "C", "c", "D", "d", "E", "e", "F", "f", "G", "g", "H", "h", "I", "i", "J", "j", "K", "k", "L", "l", "M", "m", "N", "n", "O", "o", "P", "p", "Q", "q", "R", "r", "S", "s", "T", "t", "U", "u", "V", "v", "W", "w", "X", "x", "Y", "y", "Z", "z").Replace(s)
}

// someList: of few names, in either size, so that several are one.
func someList(r *rand.Rand, most int) []api.Header {
	names := []string{"a", "A", "b", "B", "ab", "Ab", "set-cookie", "Set-Cookie", "set-cookie2", "", "x-y", "X-Y", "\xff", "é", "z"}
	values := []string{"", "1", "2", "a, b", " x ", "\"q,\"", "\x00", "é"}
	out := make([]api.Header, r.Intn(most+1))
	for i := range out {
		out[i] = api.Header{Name: some(r, names), Value: some(r, values)}
	}
	return out
}

// P5.1

func TestValueEachByte(t *testing.T) {
	for c := range 256 {
		b := oneByte(c)
		atEnds := c == 9 || c == 10 || c == 13 || c == 32
		inside := c != 0 && c != 10 && c != 13
		for s, want := range map[string]string{b: b, b + b + "x": b + b + "x", "x" + b + b: "x" + b + b} {
			if atEnds {
				want = strings.Trim(want, b)
			} else if !inside {
				want = ""
			}
			if v, ok := headers.Value(s); v != want || ok != (atEnds || inside) {
				t.Errorf("Value(%q): %q, %v", s, v, ok)
			}
		}
		want := "x" + b + "y"
		if !inside {
			want = ""
		}
		if v, ok := headers.Value("x" + b + "y"); v != want || ok != inside {
			t.Errorf("Value of byte %d inside: %q, %v", c, v, ok)
		}
	}
}

func TestValueTexts(t *testing.T) {
	for s, want := range map[string]string{
		"":                    "",
		" \t\r\n":             "",
		" a ":                 "a",
		"\r\n\t a\t b \n\r":   "a\t b",
		"\x0c a \x0b":         "\x0c a \x0b", // blank elsewhere, not here
		" \x0c ":              "\x0c",
		"\u00a0a\u2003":       "\u00a0a\u2003",
		"\u0085 \xff\xc3 ":    "\u0085 \xff\xc3",
		"\x01\x1f\x7f":        "\x01\x1f\x7f",
		"a, b; c=\"d\\\"\"":   "a, b; c=\"d\\\"\"",
		"longer than a word":  "longer than a word",
		"\xff longer, broken": "\xff longer, broken",
	} {
		if v, ok := headers.Value(s); v != want || !ok {
			t.Errorf("Value(%q): %q, %v", s, v, ok)
		}
	}
	for _, s := range []string{"\x00", " \x00 ", "a\x00", "\x00a", "a\nb", "a\rb", "a\r\nb", " a \n b ", "a much longer text with \x00 in it", "a much longer text\r\nx: y", "\xff\n\xff"} {
		if v, ok := headers.Value(s); v != "" || ok {
			t.Errorf("Value(%q): %q, %v", s, v, ok)
		}
	}
}

func TestValueAgain(t *testing.T) {
	ends := regexp.MustCompile(`\A[\t\n\r ]*|[\t\n\r ]*\z`)
	bad := regexp.MustCompile(`[\x00\n\r]`)
	r := rand.New(rand.NewSource(51))
	for range 20000 {
		s := someOf(r, "\t\n\r  \x0b\x0c\x00ab,", 8)
		want, fine := ends.ReplaceAllString(s, ""), true
		if bad.MatchString(want) {
			want, fine = "", false
		}
		v, ok := headers.Value(s)
		if v != want || ok != fine {
			t.Fatalf("Value(%q): %q, %v", s, v, ok)
		}
		if again, fine := headers.Value(v); again != v || !fine {
			t.Fatalf("Value(%q): %q, not the same again", v, again)
		}
	}
}

func TestGet(t *testing.T) {
	l := list("A", "1", "b", "2", "a", "3")
	for _, c := range []struct {
		l          []api.Header
		name, want string
		ok         bool
	}{
		{l, "a", "1, 3", true},
		{l, "A", "1, 3", true},
		{l, "B", "2", true},
		{l, "c", "", false},
		{l, "", "", false},
		{l, "a ", "", false},
		{l, "ab", "", false},
		{nil, "a", "", false},
		{nil, "", "", false},
		{[]api.Header{}, "a", "", false},
		{list("x", ""), "X", "", true},
		{list("x", "", "x", ""), "x", ", ", true},
		{list("x", "", "x", "a", "x", ""), "x", ", a, ", true},
		{list("x", "a,b", "X", " c "), "x", "a,b,  c ", true}, // values as they are
		{list("x", "2", "x", "1", "x", "2"), "x", "2, 1, 2", true},
		{list("", "1", "a", "2", "", "3"), "", "1, 3", true},
		{list("Set-Cookie", "a=1", "set-cookie", "b=2"), "SET-COOKIE", "a=1, b=2", true},
		{list("\u212a", "1"), "k", "", false}, // the Kelvin sign is no ASCII letter
		{list("É", "1"), "é", "", false},
		{list("\xff", "1", "\xfe", "2"), "\xff", "1", true},
		{list("[", "1"), "{", "", false},
		{list("a\x00", "1"), "a", "", false},
	} {
		if v, ok := headers.Get(c.l, c.name); v != c.want || ok != c.ok {
			t.Errorf("Get(%q, %q): %q, %v", c.l, c.name, v, ok)
		}
	}
}

func TestSplitTexts(t *testing.T) {
	for s, want := range map[string][]string{
		`x, "y, z" , w`:       {`x`, `"y, z"`, `w`},
		``:                    {``},
		` `:                   {``},
		`,`:                   {``, ``},
		` , `:                 {``, ``},
		`,,`:                  {``, ``, ``},
		`a,`:                  {`a`, ``},
		`,a`:                  {``, `a`},
		`a;b`:                 {`a;b`},
		`a b`:                 {`a b`},
		`"`:                   {`"`},
		`""`:                  {`""`},
		`"",""`:               {`""`, `""`},
		`"a,b`:                {`"a,b`}, // to the end
		`x,"a,b`:              {`x`, `"a,b`},
		`a"b,c"d,e`:           {`a"b,c"d`, `e`}, // quotes may begin anywhere
		`"a" "b,c",d`:         {`"a" "b,c"`, `d`},
		`"a","b`:              {`"a"`, `"b`},
		`"a"",b`:              {`"a"",b`},  // a third one opens again
		`a\,b`:                {`a\`, `b`}, // outside of quotes a \ is a byte like others
		`\"a,b",c`:            {`\"a,b"`, `c`},
		`\\"a,b",c`:           {`\\"a,b"`, `c`},
		`"a\",b",c`:           {`"a\",b"`, `c`},
		`"a\\",b`:             {`"a\\"`, `b`},
		`"a\\\",b",c`:         {`"a\\\",b"`, `c`}, // a \ behind one that is itself behind one
		`"a\\\\",b`:           {`"a\\\\"`, `b`},
		`"\"`:                 {`"\"`},
		`"\",a`:               {`"\",a`},
		`"\\",a`:              {`"\\"`, `a`},
		`"\a\",b",c`:          {`"\a\",b"`, `c`},
		`"a\`:                 {`"a\`},
		`"a\,b",c`:            {`"a\,b"`, `c`},
		`"a" , "\"," , b`:     {`"a"`, `"\","`, `b`},
		`'a,b'`:               {`'a`, `b'`},
		`(a,b)`:               {`(a`, `b)`},
		`" a "`:               {`" a "`},
		"\t a \t,\tb\t":       {"a", "b"},
		"a\tb ,\t c\n":        {"a\tb", "c\n"},
		"\na\n,\ra\r":         {"\na\n", "\ra\r"}, // 9 and 32 alone are taken off
		"\x0ca\x0b,\x00":      {"\x0ca\x0b", "\x00"},
		"\u00a0a,\u2003b\xff": {"\u00a0a", "\u2003b\xff"},
		"é,\xc3":              {"é", "\xc3"},
		"“a,b”":               {"“a", "b”"},
	} {
		if p, ok := headers.Split(list("q", s), "Q"); !slices.Equal(p, want) || !ok {
			t.Errorf("Split(%q): %q, %v", s, p, ok)
		}
	}
}

func TestSplitLists(t *testing.T) {
	for _, c := range []struct {
		l    []api.Header
		name string
		want []string
		ok   bool
	}{
		{nil, "q", nil, false},
		{[]api.Header{}, "", nil, false},
		{list("a", "1"), "q", nil, false},
		{list("q", "a", "Q", "b,c"), "q", []string{"a", "b", "c"}, true},
		{list("q", "", "q", ""), "q", []string{"", ""}, true},
		{list("q", "a", "x", "y", "q", "b"), "q", []string{"a", "b"}, true},
		{list("q", "\"a", "q", "b\",c"), "q", []string{"\"a, b\"", "c"}, true}, // Get's text is what is cut
		{list("q", "\"a\\", "q", "b\",c"), "q", []string{"\"a\\, b\"", "c"}, true},
		{list("", "a,b"), "", []string{"a", "b"}, true},
	} {
		if p, ok := headers.Split(c.l, c.name); !slices.Equal(p, c.want) || ok != c.ok {
			t.Errorf("Split(%q, %q): %q, %v", c.l, c.name, p, ok)
		}
	}
}

func TestSplitEachByte(t *testing.T) {
	for c := range 256 {
		b := oneByte(c)
		want := []string{"x" + b + "y", "z"}
		switch c {
		case ',':
			want = []string{"x", "y", "z"}
		case '"':
			want = []string{"x\"y,z"}
		}
		if p, _ := headers.Split(list("q", "x"+b+"y,z"), "q"); !slices.Equal(p, want) {
			t.Errorf("byte %d inside: %q", c, p)
		}
		if c == ',' || c == '"' {
			continue
		}
		end := b
		if c == 9 || c == 32 {
			end = ""
		}
		if p, _ := headers.Split(list("q", b+"x"+b+","+b), "q"); !slices.Equal(p, []string{end + "x" + end, end}) {
			t.Errorf("byte %d at the ends: %q", c, p)
		}
	}
}

// keepsOpen: is there a `\` right ahead of i (behind the quotes' beginning) that is itself not behind one?
func keepsOpen(s string, open, i int) bool {
	return i-1 > open && s[i-1] == '\\' && !keepsOpen(s, open, i-1)
}

// splitAgain: the chapter's words, read once more: a place is in quotes, if they have begun ahead of it and not ended.
func splitAgain(s string) []string {
	open, from := -1, 0
	var out []string
	for i := range len(s) {
		switch {
		case s[i] == '"' && open < 0:
			open = i
		case s[i] == '"' && !keepsOpen(s, open, i):
			open = -1
		case s[i] == ',' && open < 0:
			out = append(out, s[from:i])
			from = i + 1
		}
	}
	out = append(out, s[from:])
	for i := range out {
		for strings.HasPrefix(out[i], " ") || strings.HasPrefix(out[i], "\t") {
			out[i] = out[i][1:]
		}
		for strings.HasSuffix(out[i], " ") || strings.HasSuffix(out[i], "\t") {
			out[i] = out[i][:len(out[i])-1]
		}
	}
	return out
}

func TestSplitAgain(t *testing.T) {
	r := rand.New(rand.NewSource(52))
	piece := regexp.MustCompile(`(?s)\A(?:[^",]|"(?:[^"\\]|\\.)*(?:"|\\?\z))*`)
	for range 100000 {
		s := someOf(r, "\"\"\\\\,, \ta", 12)
		p, ok := headers.Split(list("q", s), "q")
		if !ok || !slices.Equal(p, splitAgain(s)) {
			t.Fatalf("Split(%q): %q, not %q", s, p, splitAgain(s))
		}
		rest := s
		for i := range p {
			end := len(piece.FindString(rest))
			if strings.Trim(rest[:end], "\t ") != p[i] || (end < len(rest)) != (i+1 < len(p)) {
				t.Fatalf("Split(%q): %q at %q", s, p[i], rest)
			}
			if end < len(rest) {
				rest = rest[end+1:]
			}
		}
	}
}

// TestSplitIsOfGet: what several headers say is cut as the one text that Get tells.
func TestSplitIsOfGet(t *testing.T) {
	r := rand.New(rand.NewSource(53))
	for range 20000 {
		l := make([]api.Header, r.Intn(5))
		for i := range l {
			l[i] = api.Header{Name: some(r, []string{"q", "Q", "x"}), Value: someOf(r, "\"\\, a", 5)}
		}
		text, has := headers.Get(l, "q")
		p, ok := headers.Split(l, "q")
		if ok != has || !ok && len(p) > 0 || ok && !slices.Equal(p, splitAgain(text)) {
			t.Fatalf("Split(%q): %q, %v", l, p, ok)
		}
	}
}
