package data_test

import (
	"encoding/base64"
	"fmt"
	"math/rand"
	"regexp"
	"slices"
	"strconv"
	"strings"
	"testing"

	"ostiary/api"
	"ostiary/data"
	"ostiary/mime"
	"ostiary/url"
)

const plain = "text/plain;charset=US-ASCII"

func parsed(t *testing.T, s string) api.URL {
	t.Helper()
	u, why := url.Parse(s)
	if why != api.OK {
		t.Fatalf("Parse(%q): %v", s, why)
	}
	return u
}

// kind: a Type of these texts, its parameters' names and values by turns.
func kind(major, minor string, words ...string) mime.Type {
	t := mime.Type{Major: major, Minor: minor}
	for i := 0; i+1 < len(words); i += 2 {
		t.Params = append(t.Params, mime.Param{Name: words[i], Value: words[i+1]})
	}
	return t
}

func same(a, b mime.Type) bool {
	return a.Major == b.Major && a.Minor == b.Minor && slices.Equal(a.Params, b.Params)
}

// oneByte: a text of just that byte (string(rune(c)) would be two bytes above 127).
func oneByte(c int) string { return string([]byte{byte(c)}) }

// someText: at most so many of these pieces.
func someText(r *rand.Rand, of []string, most int) string {
	s := ""
	for range r.Intn(most + 1) {
		s += of[r.Intn(len(of))]
	}
	return s
}

// must: Read answers that kind and that body.
func must(t *testing.T, u api.URL, text, body string) {
	t.Helper()
	x, b, ok := data.Read(u)
	if !ok || mime.Text(x) != text || string(b) != body {
		t.Errorf("Read(%q): %s, %q, %v: not %s, %q", url.Text(u), mime.Text(x), b, ok, text, body)
	}
}

// mustNot: Read refuses, and everything beside the false is its zero value.
func mustNot(t *testing.T, u api.URL) {
	t.Helper()
	x, b, ok := data.Read(u)
	if ok || len(b) > 0 || !same(x, mime.Type{}) {
		t.Errorf("Read(%q): %q, %q, %v", url.Text(u), x, b, ok)
	}
}

// P7.1

func TestRead(t *testing.T) {
	for s, want := range map[string][2]string{
		"data:,a%20b":                {plain, "a b"},
		"data:image/png;base64,YQ==": {"image/png", "a"},
		"data:;charset=x,":           {"text/plain;charset=x", ""},
		"data:a/b;Base64 ,YQ":        {"a/b", "a"},
		"DATA:,x":                    {plain, "x"},
		"data:,":                     {plain, ""},
		"data:,,":                    {plain, ","},
		"data:a/b,c,d":               {"a/b", "c,d"}, // the first `,`
		"data:a/b,c;base64,d":        {"a/b", "c;base64,d"},
		"data:a/b;c=\"d,e\",f":       {"a/b;c=d", "e\",f"}, // quotes hide none
		"data:a/b;c=d;e=\"f g\",x":   {"a/b;c=d;e=\"f g\"", "x"},
		"data:A/B;C=D,X":             {"a/b;c=D", "X"},
		"data: a/b ,x":               {"a/b", "x"},
		"data:   ,x":                 {plain, "x"},
		"data:a/b, x y":              {"a/b", " x y"},
		"data:bad,x":                 {plain, "x"},
		"data:a/,x":                  {plain, "x"},
		"data:a%2Fb,x":               {plain, "x"}, // the kind is not Unpercented
		"data:a/b%3Bc,x":             {"a/b%3bc", "x"},
		"data:a/%62,x":               {"a/%62", "x"},
		"data:a/b;c=%41,x":           {"a/b;c=%41", "x"},
		"data:a/é,x":                 {"a/%c3%a9", "x"}, // as the address has it
		"data:a/b%2Cx,y":             {"a/b%2cx", "y"},
		"data:a/b\x0c,x":             {"a/b%0c", "x"}, // no blank any more in an address
		"data:\x0ca/b,x":             {"%0ca/b", "x"},
		"data:a\t/\nb\r,x":           {"a/b", "x"}, // these are gone before
		"data:a/b;charset=x,":        {"a/b;charset=x", ""},
	} {
		must(t, parsed(t, s), want[0], want[1])
	}
}

func TestReadNone(t *testing.T) {
	for _, s := range []string{
		"data:a", "data:", "data:a/b", "data:;base64", "data:a/b;base64", "data:%2C", "data:a%2cb", "data:?", "data:a?b", "data:?%2C", // no `,`
		"data:x#,y", "data:#,", "data:x?y#,z", // a fragment is no part of it
		"data:/x,y", "data:/,", "data://h/,x", "data://h,x", "data:///,x", "data:/x?,y", "data:/.//,x", // not Opaque
		"http://h/,", "http://h/?,", "https:a/b,x", "ftp://data/,x", "about:,x", "blob:data:,x", "dat:,x", "datas:,x", "data.:,x", "a:data:,x", "xdata:,x", "javascript:,x", "a:;base64,YQ",
	} {
		mustNot(t, parsed(t, s))
	}
}

func TestReadQuery(t *testing.T) {
	for s, want := range map[string][2]string{
		"data:a/b,?":                {"a/b", "?"},
		"data:a/b,c?d":              {"a/b", "c?d"},
		"data:a/b,c?d?e,f":          {"a/b", "c?d?e,f"},
		"data:a/b,c?d#e":            {"a/b", "c?d"},
		"data:a/b,c#d":              {"a/b", "c"},
		"data:a/b,c?#d,e":           {"a/b", "c?"},
		"data:?,x":                  {plain, "x"}, // the first `,` may stand in the query
		"data:x?y,z?w#f":            {plain, "z?w"},
		"data:a/b?c,d":              {plain, "d"}, // `?` is of no Token
		"data:a/b;c=?d,e":           {"a/b;c=\"?d\"", "e"},
		"data:a/b?;base64,YQ":       {plain, "a"},
		"data:a/b;?;base64,YQ":      {"a/b", "a"},
		"data:a/b?; base64,YQ":      {plain, "YQ"}, // the query has its blanks as %20
		"data:?;c=d,":               {plain, ""},
		"data:;c=?d,":               {"text/plain;c=\"?d\"", ""},
		"data:a/b,?%41%zz '\"<>`é":  {"a/b", "?A%zz '\"<>`é"},
		"data:a/b;base64?,YQ":       {"a/b", "YQ"},
		"data:a/b,%3f?%3F":          {"a/b", "???"},
		"data:a/b;c=d?e;f=g,h?i;j":  {"a/b;c=\"d?e\";f=g", "h?i;j"},
		"data:a/b;c=d?;e=f ;g=h ,i": {"a/b;c=\"d?\";e=f%20;g=h%20", "i"},
	} {
		must(t, parsed(t, s), want[0], want[1])
	}
}

func TestReadPercent(t *testing.T) {
	for s, want := range map[string]string{
		"%41":          "A",
		"%4":           "%4",
		"%":            "%",
		"%zz":          "%zz",
		"%%41":         "%A",
		"%2541":        "%41", // once alone
		"%2c%2C":       ",,",
		"%00%0a%0D%09": "\x00\n\r\t",
		"%ff":          "\xff",
		"%C3%A9é":      "éé",
		"a+b":          "a+b",
		"%3bbase64":    ";base64",
		"\x01\x7f":     "\x01\x7f",
		"%23#x":        "#",
		"a b":          "a b",
	} {
		must(t, parsed(t, "data:a/b,"+s), "a/b", want)
	}
	for c := range 256 {
		for _, form := range []string{"%%%02x", "%%%02X"} {
			must(t, parsed(t, fmt.Sprintf("data:,<"+form+">", c)), plain, "<"+oneByte(c)+">")
			must(t, parsed(t, fmt.Sprintf("data:,<?"+form+">", c)), plain, "<?"+oneByte(c)+">")
		}
	}
}

func TestReadBase64(t *testing.T) {
	for s, want := range map[string][2]string{
		";base64,YQ":             {plain, "a"},
		";base64,":               {plain, ""},
		" ;base64 ,YQ":           {plain, "a"},
		";;base64,YQ":            {"text/plain", "a"}, // a `;` is left
		"; ;base64,YQ":           {"text/plain", "a"},
		";x;base64,YQ":           {"text/plain", "a"},
		";c=d;base64,YQ":         {"text/plain;c=d", "a"},
		"a/b;base64,YQ":          {"a/b", "a"},
		"a/b;BASE64,YQ":          {"a/b", "a"},
		"a/b;bAsE64,YQ":          {"a/b", "a"},
		"a/b; base64,YQ":         {"a/b", "a"},
		"a/b;    base64   ,YQ":   {"a/b", "a"},
		"a/b ;base64,YQ":         {"a/b", "a"},
		"a/b;c=d;base64,":        {"a/b;c=d", ""},
		"a/b;c=\"d;base64,YQ":    {"a/b;c=d", "a"}, // quotes hide none
		"a/b;c=\"d\";base64,YQ":  {"a/b;c=d", "a"},
		"bad;base64,YQ":          {plain, "a"},
		"a/b;base64;base64,YQ":   {"a/b", "a"}, // one alone is taken off
		"a/b;c=;base64,YQ":       {"a/b", "a"},
		"a/b;base64,%59Q":        {"a/b", "a"}, // Unpercent first
		"a/b;base64,Y%51%3D%3d":  {"a/b", "a"},
		"a/b;base64,Y Q = =":     {"a/b", "a"},
		"a/b;base64,Y%0AQ%0c%09": {"a/b", "a"},
		"a/b;base64,YWJj":        {"a/b", "abc"},
		"a/b;base64,%2B/%2b/":    {"a/b", "\xfb\xff\xbf"},
		"a/b;base64,//8=":        {"a/b", "\xff\xff"},
		"a/b;base64,YR":          {"a/b", "a"},

		"base64,YQ":              {plain, "YQ"}, // these are no mark
		" base64,YQ":             {plain, "YQ"},
		"a/base64,YQ":            {"a/base64", "YQ"},
		"a/b base64,YQ":          {plain, "YQ"},
		"a/b;base64;,YQ":         {"a/b", "YQ"},
		"a/b;base64;x,YQ":        {"a/b", "YQ"},
		"a/b;base64=,YQ":         {"a/b", "YQ"},
		"a/b;base64=x,YQ":        {"a/b;base64=x", "YQ"},
		"a/b;c=base64,YQ":        {"a/b;c=base64", "YQ"},
		"a/b;xbase64,YQ":         {"a/b", "YQ"},
		"a/b;x base64,YQ":        {"a/b", "YQ"},
		"a/b;base 64,YQ":         {"a/b", "YQ"},
		"a/b;base6,YQ":           {"a/b", "YQ"},
		"a/b;base644,YQ":         {"a/b", "YQ"},
		"a/b;ase64,YQ":           {"a/b", "YQ"},
		"a/b;base64x,YQ":         {"a/b", "YQ"},
		"a/b;base32,YQ":          {"a/b", "YQ"},
		"a/b%3Bbase64,YQ":        {"a/b%3bbase64", "YQ"},
		"a/b;%20base64,YQ":       {"a/b", "YQ"},
		"a/b;base6%34,YQ":        {"a/b", "YQ"},
		"a/b;\x0cbase64,YQ":      {"a/b", "YQ"},
		"a/b;base64\x0c,YQ":      {"a/b", "YQ"},
		"a/b;\x00base64,YQ":      {"a/b", "YQ"},
		"a/b,;base64,YQ":         {"a/b", ";base64,YQ"},
		";base64;base64;c=d,%59": {"text/plain;c=d", "Y"},
		"a/b;ba\u017fe64,YQ":     {"a/b", "YQ"}, // letters of ASCII alone
	} {
		must(t, parsed(t, "data:"+s), want[0], want[1])
	}
	for _, body := range []string{"Y", "YQ=", "YQ===", "=", "==", "====", "Y=Q=", "YWJj=", "YWJj==", "YWJjY", "é", "%ff", "%", "Y-_Q", "Y,Q=", "Y?==", "YW?Jj", "YQ?", "YQ==?", "%2559Q", "%zz", "Y%00Q="} {
		for _, ahead := range []string{";base64", "a/b;base64", "a/b; BASE64 ", "bad;base64", "?;base64", ";c=d;base64"} {
			mustNot(t, parsed(t, "data:"+ahead+","+body))
		}
	}
}

// TestReadUnparsed: bytes that no address has that was parsed; the words of the promise hold for them as well.
func TestReadUnparsed(t *testing.T) {
	for path, want := range map[string][2]string{
		"\t\n\f\r a/b\t\n\f\r ,x":          {"a/b", "x"},
		"\f;base64\f,YQ":                   {plain, "a"},
		"a/b;\tbase64,YQ":                  {"a/b", "YQ"}, // blanks there are 32 alone
		"a/b;\nbase64,YQ":                  {"a/b", "YQ"},
		"a/b;base64\t,Y\tQ":                {"a/b", "a"},
		"\x0ba/b,x":                        {plain, "x"},
		"a/b;c=\xff,\xff\x00\xfe":          {"a/b;c=\"\xff\"", "\xff\x00\xfe"},
		"\xff,#":                           {plain, "#"},
		strings.Repeat(" ", 9) + ";c=d, x": {"text/plain;c=d", " x"},
	} {
		must(t, api.URL{Scheme: "data", Port: -1, Opaque: true, Path: []string{path}}, want[0], want[1])
	}
}

// TestReadJoined: an address that Join answered is as good.
func TestReadJoined(t *testing.T) {
	base := parsed(t, "data:a/b,c?d#e")
	for s, want := range map[string][2]string{"#f": {"a/b", "c?d"}, "": {"a/b", "c?d"}, "data:;x,y": {"text/plain", "y"}} {
		u, why := url.Join(s, base)
		if why != api.OK {
			t.Fatalf("Join(%q): %v", s, why)
		}
		must(t, u, want[0], want[1])
	}
}

var (
	whole  = regexp.MustCompile(`(?s)^data:([^,]*),(.*)$`)
	marked = regexp.MustCompile(`(?s)^(.*); *[bB][aA][sS][eE]64$`)
	two    = regexp.MustCompile(`%[0-9a-fA-F]{2}`)
	blanks = regexp.MustCompile(`[\t\n\f\r ]`)
	ends   = regexp.MustCompile(`^[\t\n\f\r ]+|[\t\n\f\r ]+$`)
	digits = regexp.MustCompile(`^[A-Za-z0-9+/]*$`)
	ended  = regexp.MustCompile(`={1,2}$`)
)

func unpercent(s string) string {
	return two.ReplaceAllStringFunc(s, func(x string) string {
		n, _ := strconv.ParseUint(x[1:], 16, 8)
		return oneByte(int(n))
	})
}

// decode: base64 by the library's reader, which is stricter, and so is handed what is whole.
func decode(s string) (string, bool) {
	s = blanks.ReplaceAllString(s, "")
	if len(s)%4 == 0 {
		s = ended.ReplaceAllString(s, "")
	}
	if !digits.MatchString(s) || len(s)%4 == 1 {
		return "", false
	}
	b, err := base64.RawStdEncoding.DecodeString(s)
	return string(b), err == nil
}

// readAgain: P7.1, told by patterns.
func readAgain(u api.URL) (mime.Type, string, bool) {
	m := whole.FindStringSubmatch(url.Bare(u))
	if m == nil || !u.Opaque {
		return mime.Type{}, "", false
	}
	name, body := ends.ReplaceAllString(m[1], ""), unpercent(m[2])
	if n := marked.FindStringSubmatch(name); n != nil {
		var ok bool
		if body, ok = decode(body); !ok {
			return mime.Type{}, "", false
		}
		name = n[1]
	}
	if name != "" && name[0] == ';' {
		name = "text/plain" + name
	}
	x, ok := mime.Parse(name)
	if !ok {
		x = kind("text", "plain", "charset", "US-ASCII")
	}
	return x, body, true
}

// again: Read and its second reading answer alike; whether they read it.
func again(t *testing.T, u api.URL) bool {
	t.Helper()
	want, body, fine := readAgain(u)
	x, b, ok := data.Read(u)
	if ok != fine || !same(x, want) || string(b) != body {
		t.Fatalf("Read(%q): %q, %q, %v: not %q, %q, %v", url.Text(u), x, b, ok, want, body, fine)
	}
	return ok
}

// TestReadEachByte: every byte at each place of an address.
func TestReadEachByte(t *testing.T) {
	for _, s := range []string{"data:a/b;c=d;base64,YWJj", "data:; base64 ,YQ==", "data:a/b,%41c?d%42#e", "data:?;x,y"} {
		for i := len("data:"); i <= len(s); i++ {
			for c := range 256 {
				again(t, parsed(t, s[:i]+oneByte(c)+s[i:]))
				if i < len(s) {
					again(t, parsed(t, s[:i]+oneByte(c)+s[i+1:]))
				}
			}
		}
	}
}

func TestReadAgain(t *testing.T) {
	r := rand.New(rand.NewSource(71))
	parts := []string{"a/b", ";", ";", ";base64", "; Base64", "base64", " ", "c=d", "charset=x", "?", "text/plain", "\"", "é", "%3B", "/", "b", "YQ", "=="}
	bodies := []string{"YQ", "YWJj", "Y", "=", "==", " ", "%41", "%3d", "%4", "%", ",", "?", "#", "é", "%ff", "+/", "%2B", "%0a", "-", "a"}
	read, base := 0, 0
	for range 100000 {
		s := "data:" + someText(r, parts, 5) + []string{",", ",", ",", ""}[r.Intn(4)] + someText(r, bodies, 4)
		u, why := url.Parse(s)
		if why == api.OK && again(t, u) {
			read++
			if strings.Contains(strings.ToLower(s), "base64,") {
				base++
			}
		}
	}
	if read < 50000 || base < 5000 {
		t.Errorf("too few: %d, %d", read, base)
	}
}

// P7.2

func TestMake(t *testing.T) {
	for _, c := range []struct {
		x    mime.Type
		b    string
		want string
	}{
		{kind("a", "b"), "", "data:a/b;base64,"},
		{kind("a", "b"), "a", "data:a/b;base64,YQ=="},
		{kind("a", "b"), "ab", "data:a/b;base64,YWI="},
		{kind("a", "b"), "abc", "data:a/b;base64,YWJj"},
		{kind("a", "b"), "\xfb\xff\xbf%#?,", "data:a/b;base64,+/+/JSM/LA=="}, // digits are not escaped
		{kind("image", "svg+xml"), "<", "data:image/svg+xml;base64,PA=="},
		{kind("a", "b", "c", "d"), "a", "data:a/b;c=d;base64,YQ=="},
		{kind("a", "b", "c", "d", "e", "f g"), "a", `data:a/b;c=d;e="f g";base64,YQ==`},
		{kind("a", "b", "c", ""), "", `data:a/b;c="";base64,`},
		{kind("a", "b", "c", `"\`), "", `data:a/b;c="\"\\";base64,`},
		{kind("a", "b", "c", "%#?,é"), "a", `data:a/b;c="%25%23%3F%2C%C3%A9";base64,YQ==`},
		{kind("a", "b", "c", "%41"), "", `data:a/b;c=%2541;base64,`},
		{kind("a", "b", "c", "\x00\t\n\x1f ~\x7f\x80\xff"), "", "data:a/b;c=\"%00%09%0A%1F ~%7F%80%FF\";base64,"},
		{kind("%#", "a?,b"), "", "data:%25%23/a%3F%2Cb;base64,"}, // the whole of the type's text
		{kind("a", "b", "%#?,\xff", "d"), "", "data:a/b;%25%23%3F%2C%FF=d;base64,"},
		{kind("A", "B", "C", "D"), "A", "data:A/B;C=D;base64,QQ=="},
		{kind("a", "b;base64,"), "", "data:a/b;base64%2C;base64,"},
		{mime.Type{}, "", "data:/;base64,"},
		{kind("", "", "", ""), "", `data:/;="";base64,`},
	} {
		if s := data.Make(c.x, []byte(c.b)); s != c.want {
			t.Errorf("Make(%q, %q): %s, not %s", c.x, c.b, s, c.want)
		}
	}
	if s := data.Make(kind("a", "b"), nil); s != "data:a/b;base64," {
		t.Errorf("Make of no bytes: %s", s)
	}
}

// makeAgain: P7.2 by the library's own writers.
func makeAgain(x mime.Type, b []byte) string {
	s := "data:"
	for _, c := range []byte(mime.Text(x)) {
		switch {
		case c < 32, c > 126, c == '%', c == '#', c == '?', c == ',':
			s += fmt.Sprintf("%%%02X", c)
		default:
			s += string(rune(c))
		}
	}
	return s + ";base64," + base64.StdEncoding.EncodeToString(b)
}

func TestMakeAgain(t *testing.T) {
	for c := range 256 {
		s := oneByte(c)
		x := kind("a"+s, s+"b", "c"+s, s+s+"d")
		if got := data.Make(x, []byte(s)); got != makeAgain(x, []byte(s)) {
			t.Errorf("Make(%q): %s", x, got)
		}
	}
	r := rand.New(rand.NewSource(72))
	for range 20000 {
		b := make([]byte, r.Intn(20))
		r.Read(b)
		cuts := []int{r.Intn(len(b) + 1), r.Intn(len(b) + 1), r.Intn(len(b) + 1)}
		slices.Sort(cuts)
		x := kind(string(b[:cuts[0]]), string(b[cuts[0]:cuts[1]]), string(b[cuts[1]:cuts[2]]), string(b[cuts[2]:]))
		if got := data.Make(x, b); got != makeAgain(x, b) {
			t.Fatalf("Make(%q, %q): %s", x, b, got)
		}
	}
}

// P7.3

func TestReadOfMake(t *testing.T) {
	letters := strings.Split("abcdefghijklmnopqrstuvwxyzABCDEFGHIJKLMNOPQRSTUVWXYZ0123456789+-.", "")
	r := rand.New(rand.NewSource(73))
	for n := range 5000 {
		text := letters[r.Intn(len(letters))] + someText(r, letters, 8) + "/" + letters[r.Intn(len(letters))] + someText(r, letters, 8)
		x, ok := mime.Parse(text)
		if !ok {
			t.Fatalf("Parse(%q)", text)
		}
		b := make([]byte, n%700)
		r.Read(b)
		y, c, ok := data.Read(parsed(t, data.Make(x, b)))
		if !ok || !same(x, y) || string(b) != string(c) {
			t.Fatalf("Read(Make(%q, %x)): %q, %x, %v", x, b, y, c, ok)
		}
	}
	for _, text := range []string{"base64/base64", "data/data", "./.", "-/-", "+/+", "../..", "0/0", "text/plain"} {
		x, _ := mime.Parse(text)
		must(t, parsed(t, data.Make(x, []byte("\x00,;%41"))), text, "\x00,;%41")
	}
	for c := range 256 {
		must(t, parsed(t, data.Make(kind("a", "b"), []byte{byte(c)})), "a/b", oneByte(c))
	}
}

// TestReadOfMakeParams: parameters whose text is not escaped come back too.
func TestReadOfMakeParams(t *testing.T) {
	for _, text := range []string{"a/b;c=d", "a/b;charset=utf-8;e=f", `a/b;c="d e"`, `a/b;c=""`, `a/b;c="d;base64"`, `a/b;c=base64`} {
		x, ok := mime.Parse(text)
		if !ok {
			t.Fatalf("Parse(%q)", text)
		}
		must(t, parsed(t, data.Make(x, []byte("a"))), text, "a")
	}
}

// TestReadOfMakeLong: the longest address that is parsed, and one that is not.
func TestReadOfMakeLong(t *testing.T) {
	ahead := len("data:a/b;base64,")
	b := make([]byte, (api.MaxText-ahead)/4*3)
	rand.New(rand.NewSource(74)).Read(b)
	if n := len(data.Make(kind("a", "b"), b)); n != api.MaxText {
		t.Fatalf("%d bytes", n)
	}
	must(t, parsed(t, data.Make(kind("a", "b"), b)), "a/b", string(b))
	if _, why := url.Parse(data.Make(kind("a", "bc"), b)); why != api.ErrLong {
		t.Errorf("one byte more: %v", why)
	}
}
