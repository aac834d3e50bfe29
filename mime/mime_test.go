package mime_test

import (
	"math/rand"
	"regexp"
	"slices"
	"strings"
	"testing"

	"ostiary/mime"
)

// kind: a Type of these texts, its parameters' names and values by turns.
func kind(major, minor string, words ...string) mime.Type {
	t := mime.Type{Major: major, Minor: minor}
	for i := 0; i+1 < len(words); i += 2 {
		t.Params = append(t.Params, mime.Param{Name: words[i], Value: words[i+1]})
	}
	return t
}

func same(a, b mime.Type) bool {
	return a.Major == b.Major && a.Minor == b.Minor && slices.Equal(a.Params, b.Params)
}

// oneByte: a text of just that byte (string(rune(c)) would be two bytes above 127).
func oneByte(c int) string { return string([]byte{byte(c)}) }

func blank(c int) bool { return c == 9 || c == 10 || c == 13 || c == 32 }

func letter(c int) bool { return 'a' <= c && c <= 'z' || 'A' <= c && c <= 'Z' }

func token(c int) bool {
	return letter(c) || '0' <= c && c <= '9' || c > 0 && c < 127 && strings.Contains("!#$%&'*+-.^_`|~", oneByte(c))
}

// small: A to Z as a to z, told another way than by infra.
func small(c int) string {
	if 'A' <= c && c <= 'Z' {
		c += 32
	}
	return oneByte(c)
}

// someText: at most so many of these pieces.
func someText(r *rand.Rand, of []string, most int) string {
	s := ""
	for range r.Intn(most + 1) {
		s += of[r.Intn(len(of))]
	}
	return s
}

// P6.1

func TestParse(t *testing.T) {
	for s, want := range map[string]mime.Type{
		`Text/HTML ; Charset="a\"b" ;x`: kind("text", "html", "charset", `a"b`),
		`a/b;c=`:                        kind("a", "b"),
		`a/b`:                           kind("a", "b"),
		`A/B`:                           kind("a", "b"),
		`*/*`:                           kind("*", "*"),
		"\t\n\r a/b\r\n\t ":             kind("a", "b"),
		"a/b \t\r\n;c=d":                kind("a", "b", "c", "d"),
		`a/b;`:                          kind("a", "b"),
		`a/b ; `:                        kind("a", "b"),
		`a/b;;;`:                        kind("a", "b"),
		`a/b;;;c=d`:                     kind("a", "b", "c", "d"),
		`a/b;c=d`:                       kind("a", "b", "c", "d"),
		`a/b;C=D`:                       kind("a", "b", "c", "D"), // a value's letters stay
		`a/b;c=d;e=f`:                   kind("a", "b", "c", "d", "e", "f"),
		`a/b;e=f;c=d`:                   kind("a", "b", "e", "f", "c", "d"), // in their order
		"a/b;\t\r\n c=d":                kind("a", "b", "c", "d"),
		"a/b;c=d\t\r\n ;e=f":            kind("a", "b", "c", "d", "e", "f"),
		`a/b;c=d e`:                     kind("a", "b", "c", "d e"),
		`a/b;c= d`:                      kind("a", "b", "c", " d"),
		`a/b;c= "d"`:                    kind("a", "b", "c", ` "d"`),
		`a/b;c= ;e=f`:                   kind("a", "b", "e", "f"),
		`a/b;c=` + "\t\r\n" + ` ;e=f`:   kind("a", "b", "e", "f"),
		`a/b;c=;e=f`:                    kind("a", "b", "e", "f"),
		`a/b;c=d=e`:                     kind("a", "b", "c", "d=e"),
		`a/b;c==`:                       kind("a", "b", "c", "="),
		`a/b;c=d"e;f"`:                  kind("a", "b", "c", `d"e`), // quotes count at the beginning alone
		`a/b;c=d\;e=f`:                  kind("a", "b", "c", `d\`, "e", "f"),
		`a/b;c=d/e`:                     kind("a", "b", "c", "d/e"),
		`a/b;c=d,e`:                     kind("a", "b", "c", "d,e"),
	} {
		if x, ok := mime.Parse(s); !ok || !same(x, want) {
			t.Errorf("Parse(%q): %q, %v", s, x, ok)
		}
	}
}

func TestParseNames(t *testing.T) {
	for s, want := range map[string]mime.Type{
		`a/b;c`:              kind("a", "b"),
		`a/b;c;d=e`:          kind("a", "b", "d", "e"),
		`a/b;=c`:             kind("a", "b"),
		`a/b;=c;d=e`:         kind("a", "b", "d", "e"),
		`a/b;c =d`:           kind("a", "b"),
		`a/b;c =d;e=f`:       kind("a", "b", "e", "f"),
		`a/b;c d=e;f=g`:      kind("a", "b", "f", "g"),
		`a/b;c/d=e;f=g`:      kind("a", "b", "f", "g"),
		`a/b;"c"=d;e=f`:      kind("a", "b", "e", "f"),
		`a/b;"c;d=e"`:        kind("a", "b", "d", `e"`), // no quotes in a name
		`a/b;"c;d"=e;f=g`:    kind("a", "b", "f", "g"),
		`a/b;é=d`:            kind("a", "b"),
		"a/b;\x0cc=d":        kind("a", "b"), // blank elsewhere, not here
		"a/b;\x0bc=d":        kind("a", "b"),
		`a/b;c="d;e=f`:       kind("a", "b", "c", "d;e=f"),
		`a/b;c d="e;f=g";h=`: kind("a", "b"), // of a name that does not count the value is read all the same
		`a/b;c d="e;f=g;h=i`: kind("a", "b"),
	} {
		if x, ok := mime.Parse(s); !ok || !same(x, want) {
			t.Errorf("Parse(%q): %q, %v", s, x, ok)
		}
	}
}

func TestParseTwice(t *testing.T) {
	for s, want := range map[string]mime.Type{
		`a/b;c=d;c=e`:             kind("a", "b", "c", "d"),
		`a/b;C=d;c=e`:             kind("a", "b", "c", "d"),
		`a/b;c=d;C="e"`:           kind("a", "b", "c", "d"),
		`a/b;c="";c=e`:            kind("a", "b", "c", ""),
		`a/b;c=;c=e`:              kind("a", "b", "c", "e"), // what does not count is not there yet
		`a/b;c;c=e`:               kind("a", "b", "c", "e"),
		"a/b;c=\x01;c=e":          kind("a", "b", "c", "e"),
		"a/b;c=\"\x7f\";c=e;c=f":  kind("a", "b", "c", "e"),
		`a/b;c=1;d=2;c=3;d=4;e=5`: kind("a", "b", "c", "1", "d", "2", "e", "5"),
		`a/b;cc=1;c=2`:            kind("a", "b", "cc", "1", "c", "2"),
		`a/b;c=d;e=d`:             kind("a", "b", "c", "d", "e", "d"),
	} {
		if x, ok := mime.Parse(s); !ok || !same(x, want) {
			t.Errorf("Parse(%q): %q, %v", s, x, ok)
		}
	}
}

func TestParseQuotes(t *testing.T) {
	for s, want := range map[string]string{
		`""`:           ``,
		`"`:            ``, // without an end: to the end
		`"d"`:          `d`,
		`"d`:           `d`,
		`"d;e"`:        `d;e`,
		`"d;e`:         `d;e`,
		`"d=e"`:        `d=e`,
		`"d,e"`:        `d,e`,
		`" d "`:        ` d `, // in quotes blanks stay
		`" `:           ``,    // at the end of all they are taken off first
		`" ";`:         ` `,
		`"\"`:          `"`,
		`"\""`:         `"`,
		`"\\"`:         `\`,
		`"\\`:          `\`,
		`"\`:           `\`, // a byte behind it that it would stand for is not there
		`"d\`:          `d\`,
		`"d\\\`:        `d\\`,
		`"\d"`:         `d`,
		`"\;"`:         `;`,
		`"\\\""`:       `\"`,
		`"\\\"`:        `\"`,
		`"\n\t"`:       `nt`,
		`"d"e`:         `d`, // what follows is gone over
		`"d" e="f"`:    `d`,
		`"d""e"`:       `d`,
		`"d"\`:         `d`,
		`"d\"e"f"g"`:   `d"e`,
		"\"\t\"":       "\t",
		"\"d\te\"":     "d\te",
		"\"\\\té\"":    "\té",
		"\"\xff\\\xfe": "\xff\xfe",
	} {
		x, ok := mime.Parse("a/b;c=" + s)
		if !ok || !same(x, kind("a", "b", "c", want)) {
			t.Errorf("c=%s: %q, %v", s, x, ok)
		}
	}
	for s, want := range map[string]mime.Type{
		`"d";e=f`:       kind("a", "b", "c", "d", "e", "f"),
		`"d" ; e=f`:     kind("a", "b", "c", "d", "e", "f"),
		`"d"junk;e=f`:   kind("a", "b", "c", "d", "e", "f"),
		`"d""x;e=f"`:    kind("a", "b", "c", "d", "e", `f"`), // behind the quotes others don't count
		`"d"\;e=f`:      kind("a", "b", "c", "d", "e", "f"),
		`"\";e=f`:       kind("a", "b", "c", `";e=f`),
		`"\\";e=f`:      kind("a", "b", "c", `\`, "e", "f"),
		`"\\\";e=f"`:    kind("a", "b", "c", `\";e=f`),
		`"d";;e="f;g"x`: kind("a", "b", "c", "d", "e", "f;g"),
	} {
		if x, ok := mime.Parse("a/b;c=" + s); !ok || !same(x, want) {
			t.Errorf("c=%s: %q, %v", s, x, ok)
		}
	}
}

func TestParseRefused(t *testing.T) {
	for _, s := range []string{"", " ", "\t\n\r ", "a", "a/", "/b", "/", "//", "a//b", "a/b/c", "a /b", "a/ b", "a/\tb", "a\t/b", "a/b c", "a/b c;d=e", "a/ ", " /b", "a/;b", "a/;", "a/ ;b=c", ";a/b", "a;b", "a;/b", "a;b/c", "a;b=c/d", "/b;c=d", "é/b", "a/é", "a/b,c", "a/b=c", "a/b\"", "\"a/b\"", "a=b/c", "a\x00/b", "a/b\x00", "a/b\x7f", "\xff/b", "a/\xff", "\x0ca/b", "a/b\x0c", "a/b\x0c;c=d", "\x0ba/b", "a/b\x0b", "\u00a0a/b", "a/b\u00a0", "a\\/b", "a/b(c)"} {
		if x, ok := mime.Parse(s); ok || x.Major != "" || x.Minor != "" || len(x.Params) > 0 {
			t.Errorf("Parse(%q): %q, %v", s, x, ok)
		}
	}
}

// TestParseEachByte: at each place of a text.
func TestParseEachByte(t *testing.T) {
	for c := range 256 {
		b := oneByte(c)
		check := func(s string, ok bool, want mime.Type) {
			t.Helper()
			if x, got := mime.Parse(s); got != ok || ok && !same(x, want) || !ok && !same(x, mime.Type{}) {
				t.Errorf("Parse(%q): %q, %v", s, x, got)
			}
		}
		check(b+"/x", token(c), kind(small(c), "x"))
		check("x"+b+"x/x", token(c), kind("x"+small(c)+"x", "x"))
		check("x"+b+"/x", token(c), kind("x"+small(c), "x"))
		check(b+"x/x", token(c) || blank(c), kind(strings.Trim(small(c), "\t\n\r ")+"x", "x"))
		check("x/"+b, token(c), kind("x", small(c)))
		check("x/"+b+";", token(c), kind("x", small(c)))
		check("x/"+b+"x", token(c), kind("x", small(c)+"x"))
		check("x/x"+b+"x", token(c) || c == ';', kind("x", map[bool]string{true: "x", false: "x" + small(c) + "x"}[c == ';']))
		check("x/x"+b, token(c) || blank(c) || c == ';', kind("x", "x"+strings.Trim(small(c), "\t\n\r ;")))
		check("x/x"+b+";", token(c) || blank(c) || c == ';', kind("x", "x"+strings.Trim(small(c), "\t\n\r ;")))
	}
}

func TestParameterEachByte(t *testing.T) {
	for c := range 256 {
		b := oneByte(c)
		fits := c == 9 || c >= 32 && c != 127
		check := func(s string, counts bool, words ...string) {
			t.Helper()
			want := kind("x", "y", "last", "0")
			if counts {
				want = kind("x", "y", append(words, "last", "0")...)
			}
			if got, ok := mime.Parse("x/y;" + s + ";last=0"); !ok || !same(got, want) {
				t.Errorf("%q: %q, %v", s, got, ok)
			}
		}
		check(b+"=v", token(c), small(c), "v")
		check("n"+b+"n=v", token(c) || c == '=' || c == ';', byteOf(c, map[int]string{'=': "n", ';': "n"}, "n"+small(c)+"n"), byteOf(c, map[int]string{'=': "n=v"}, "v"))
		check(b+"n=v", token(c) || blank(c) || c == ';', byteOf(c, map[int]string{9: "n", 10: "n", 13: "n", 32: "n", ';': "n"}, small(c)+"n"), "v")
		check("n"+b+"=v", token(c) || c == '=', byteOf(c, map[int]string{'=': "n"}, "n"+small(c)), byteOf(c, map[int]string{'=': "=v"}, "v"))
		if c != '"' { // a quote takes along what follows
			check("n="+b, fits && !blank(c) && c != ';', "n", b)
			check("n="+b+"v", fits && c != ';', "n", b+"v")
		}
		check("n=v"+b+"v", fits, "n", byteOf(c, map[int]string{';': "v"}, "v"+b+"v"))
		check("n=v"+b, fits || blank(c), "n", byteOf(c, map[int]string{9: "v", 10: "v", 13: "v", 32: "v", ';': "v"}, "v"+b))
		if c != '\\' && c != '"' {
			check("n=\""+b+"\"", fits, "n", b)
			check("n=\"v"+b+"v\"", fits, "n", "v"+b+"v")
		}
		check("n=\"\\"+b+"\"", fits, "n", b)
		check("n=\"v\\"+b+"v\"", fits, "n", "v"+b+"v")
		check("n=\"v\""+b, true, "n", "v")
	}
}

// byteOf: what the byte c is given there, or else the other.
func byteOf(c int, of map[int]string, or string) string {
	if s, ok := of[c]; ok {
		return s
	}
	return or
}

// The chapter's words, read once more by patterns.
var (
	atEnds  = regexp.MustCompile(`\A[\t\n\r ]+|[\t\n\r ]+\z`)
	atHead  = regexp.MustCompile("(?s)\\A([-!#$%&'*+.^_`|~0-9A-Za-z]+)/([-!#$%&'*+.^_`|~0-9A-Za-z]+)[\\t\\n\\r ]*(?:;.*)?\\z")
	pieces  = regexp.MustCompile(`(?s);[\t\n\r ]*([^;=]*)(?:=("(?:[^"\\]|\\.)*(?:"|\\?\z)[^;]*|[^";][^;]*|))?`)
	inside  = regexp.MustCompile(`(?s)\A"((?:[^"\\]|\\.)*\\?)(?:"|\z)`)
	escaped = regexp.MustCompile(`(?s)\\(.)`)
	isToken = regexp.MustCompile("\\A[-!#$%&'*+.^_`|~0-9A-Za-z]+\\z")
	unfit   = regexp.MustCompile(`[\x00-\x08\x0a-\x1f\x7f]`)
)

func parseAgain(s string) (mime.Type, bool) {
	s = atEnds.ReplaceAllString(s, "")
	head := atHead.FindStringSubmatch(s)
	if head == nil {
		return mime.Type{}, false
	}
	out := kind(strings.ToLower(head[1]), strings.ToLower(head[2]))
	for _, m := range pieces.FindAllStringSubmatch(s, -1) {
		name, value := strings.ToLower(m[1]), m[2]
		quoted := strings.HasPrefix(value, `"`)
		if quoted {
			value = escaped.ReplaceAllString(inside.FindStringSubmatch(value)[1], "$1")
		} else {
			value = strings.TrimRight(value, "\t\n\r ")
		}
		twice := slices.ContainsFunc(out.Params, func(p mime.Param) bool { return p.Name == name })
		if isToken.MatchString(m[1]) && (quoted || value != "") && !unfit.MatchString(value) && !twice {
			out.Params = append(out.Params, mime.Param{Name: name, Value: value})
		}
	}
	return out, true
}

func TestParseAgain(t *testing.T) {
	r := rand.New(rand.NewSource(61))
	parts := []string{"a", "B", "c", "/", ";", ";", ";", "=", "=", "\"", "\"", "\\", "\\", " ", "\t", "\n", "\r", "\x0c", "é", "\xff", "\x01", "\x7f", ",", ";a=", ";b=\"", "\";"}
	counted, refused := 0, 0
	for i := range 200000 {
		s := someText(r, parts, 10)
		if i%4 > 0 {
			s = "x/y;" + s
		}
		want, fine := parseAgain(s)
		x, ok := mime.Parse(s)
		if ok != fine || !same(x, want) {
			t.Fatalf("Parse(%q): %q, %v, not %q, %v", s, x, ok, want, fine)
		}
		counted += len(x.Params)
		if !ok {
			refused++
		}
	}
	if counted < 20000 || refused < 20000 {
		t.Errorf("too few: %d parameters, %d refused", counted, refused)
	}
}

// P6.2

func TestText(t *testing.T) {
	for _, c := range []struct {
		of   mime.Type
		want string
	}{
		{kind("a", "b"), `a/b`},
		{kind("text", "html", "charset", `a"b`), `text/html;charset="a\"b"`},
		{kind("a", "b", "c", "d"), `a/b;c=d`},
		{kind("a", "b", "c", "d", "e", "f"), `a/b;c=d;e=f`},
		{kind("a", "b", "e", "f", "c", "d"), `a/b;e=f;c=d`},
		{kind("a", "b", "c", ""), `a/b;c=""`},
		{kind("a", "b", "c", "d e"), `a/b;c="d e"`},
		{kind("a", "b", "c", "d;e"), `a/b;c="d;e"`},
		{kind("a", "b", "c", `\`), `a/b;c="\\"`},
		{kind("a", "b", "c", `"`), `a/b;c="\""`},
		{kind("a", "b", "c", `\"`), `a/b;c="\\\""`},
		{kind("a", "b", "c", `"\`), `a/b;c="\"\\"`},
		{kind("a", "b", "c", `d"e"f\\g`), `a/b;c="d\"e\"f\\\\g"`},
		{kind("a", "b", "c", "é"), `a/b;c="é"`},
		{kind("a", "b", "c", "\xff"), "a/b;c=\"\xff\""},
		{kind("a", "b", "c", "\t"), "a/b;c=\"\t\""},
		{kind("a", "b", "c", "'d'"), `a/b;c='d'`},
		{kind("a", "b", "c", " d", "e", "f"), `a/b;c=" d";e=f`},
		// What Parse would not answer is written all the same.
		{kind("", ""), `/`},
		{kind("A", "B", "C", "D"), `A/B;C=D`},
		{kind("a", "b", "c", "d", "c", "e"), `a/b;c=d;c=e`},
		{kind("a b", "\xff", " ", "\x00"), "a b/\xff; =\"\x00\""},
	} {
		if s := mime.Text(c.of); s != c.want {
			t.Errorf("Text(%q): %s, not %s", c.of, s, c.want)
		}
	}
}

func TestTextEachByte(t *testing.T) {
	for c := range 256 {
		b := oneByte(c)
		for _, ends := range []string{"", "x"} {
			value := ends + b + ends
			want := value
			if c == '"' || c == '\\' {
				want = ends + "\\" + b + ends
			}
			if !token(c) {
				want = "\"" + want + "\""
			}
			if s := mime.Text(kind("a", "b", "n", value)); s != "a/b;n="+want {
				t.Errorf("byte %d: %q", c, s)
			}
		}
	}
}

func TestEssence(t *testing.T) {
	for want, of := range map[string]mime.Type{
		"a/b":       kind("a", "b"),
		"text/html": kind("text", "html", "charset", "x", "c", "d"),
		"*/*":       kind("*", "*"),
		"/":         {},
		"a/":        kind("a", ""),
		"/b":        kind("", "b"),
		"A/B":       kind("A", "B"),
		"\xff/é":    kind("\xff", "é", "c", ""),
	} {
		if s := mime.Essence(of); s != want {
			t.Errorf("Essence(%q): %q", of, s)
		}
	}
}

// P6.6

func TestTextIsReadBack(t *testing.T) {
	r := rand.New(rand.NewSource(66))
	parts := []string{"a", "B", ";", "=", "\"", "\\", " ", "\t", "é", "\xff", ",", ";c=", ";d=\"", "\";", ";e", "'"}
	counted := 0
	for range 100000 {
		s := "x/y;" + someText(r, parts, 12)
		x, ok := mime.Parse(s)
		if !ok {
			continue
		}
		counted += len(x.Params)
		text := mime.Text(x)
		if y, ok := mime.Parse(text); !ok || !same(x, y) || mime.Text(y) != text {
			t.Fatalf("%q: %q is written %q, which is %q, %v", s, x, text, y, ok)
		}
	}
	if counted < 20000 {
		t.Errorf("too few: %d parameters", counted)
	}
	for c := range 256 {
		for _, s := range []string{"x/y;n=\"\\" + oneByte(c) + "\"", "x/y;n=v" + oneByte(c) + "v", "x/y;n=\"" + oneByte(c)} {
			x, _ := mime.Parse(s)
			if y, ok := mime.Parse(mime.Text(x)); !ok || !same(x, y) {
				t.Errorf("%q: %q, %q", s, x, y)
			}
		}
	}
}
