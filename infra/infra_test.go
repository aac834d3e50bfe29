package infra_test

import (
	"bytes"
	"math"
	"math/big"
	"math/rand"
	"strings"
	"testing"
	"unicode/utf8"

	"ostiary/infra"
)

const letters = "ABCDEFGHIJKLMNOPQRSTUVWXYZabcdefghijklmnopqrstuvwxyz"

const digits = "0123456789"

const tokenBytes = letters + digits + "!#$%&'*+-.^_`|~"

// oneByte: a text of just that byte (string(rune(c)) would be two bytes above 127).
func oneByte(c int) string { return string([]byte{byte(c)}) }

// someBytes: of any value, the edges and what the calls look for more often than the rest.
func someBytes(r *rand.Rand, most int) []byte {
	const often = "%=%41\t\n\f\r \x0b\xef\xbb\xbf\x00\x1f\x7f\x80\xff09azAZfFgG+/"
	b := make([]byte, r.Intn(most+1))
	for i := range b {
		if r.Intn(2) == 0 {
			b[i] = often[r.Intn(len(often))]
		} else {
			b[i] = byte(r.Intn(256))
		}
	}
	return b
}

// P1.1

func TestLowerEachByte(t *testing.T) {
	for c := range 256 {
		want := oneByte(c)
		if i := strings.IndexByte(letters[:26], byte(c)); i >= 0 {
			want = letters[26+i : 27+i]
		}
		if got := infra.Lower(oneByte(c)); got != want {
			t.Errorf("Lower(%q): %q, not %q", oneByte(c), got, want)
		}
	}
}

func TestLowerTexts(t *testing.T) {
	for s, want := range map[string]string{
		"":             "",
		"Content-TYPE": "content-type",
		"@AZ[`az{":     "@az[`az{",
		"ÄÖK":          "ÄÖk",
		"\u212aK":      "\u212ak", // the Kelvin sign is no ASCII letter
		"A\xffB":       "a\xffb",
		"A\x00B":       "a\x00b",
	} {
		if got := infra.Lower(s); got != want {
			t.Errorf("Lower(%q): %q, not %q", s, got, want)
		}
	}
}

func TestStripEachByte(t *testing.T) {
	for c := range 256 {
		b := oneByte(c)
		blank := c == 9 || c == 10 || c == 12 || c == 13 || c == 32
		alone, ends := b, b+"x"+b+"y"+b
		if blank {
			alone, ends = "", "x"+b+"y"
		}
		if got := infra.Strip(b); got != alone {
			t.Errorf("Strip(%q): %q", b, got)
		}
		if got := infra.Strip(b + "x" + b + "y" + b); got != ends {
			t.Errorf("Strip of byte %d at the ends: %q", c, got)
		}
	}
}

func TestStripTexts(t *testing.T) {
	for s, want := range map[string]string{
		"":                   "",
		"a":                  "a",
		" \t\n\f\r":          "",
		"  a":                "a",
		"a  ":                "a",
		"\r\n a b\tc \f":     "a b\tc",
		"\x0b a \x0b":        "\x0b a \x0b",
		"\u00a0a\u2003":      "\u00a0a\u2003", // blank to Unicode, not here
		" \xff ":             "\xff",
		"\x00 \x00":          "\x00 \x00",
		"\u0085\u0085 a\r\r": "\u0085\u0085 a",
	} {
		if got := infra.Strip(s); got != want {
			t.Errorf("Strip(%q): %q, not %q", s, got, want)
		}
	}
}

func TestDecodeTexts(t *testing.T) {
	const mark = "\xef\xbb\xbf"
	for s, want := range map[string]string{
		"":                     "",
		"plain":                "plain",
		"\xff":                 "\ufffd",
		"\xff\xfe":             "\ufffd\ufffd", // one each, not one a run
		mark:                   "",
		mark + "a":             "a",
		mark + mark + "a":      "\ufeffa", // the first alone is left out
		"a" + mark:             "a\ufeff",
		" " + mark:             " \ufeff",
		"\xef\xbb":             "\ufffd\ufffd",
		"\xef\xbba":            "\ufffd\ufffda",
		mark + "\xff":          "\ufffd",
		"\xc3\xa9\xe2\x82\xac": "é€",
		"\xf0\x9f\x98\x80":     "\U0001f600",
		"\xf0\x9f\x98":         "\ufffd\ufffd\ufffd",
		"\xc0\x80":             "\ufffd\ufffd",                 // longer than it need be
		"\xed\xa0\x80":         "\ufffd\ufffd\ufffd",           // half of a pair
		"\xf4\x90\x80\x80":     "\ufffd\ufffd\ufffd\ufffd",     // above the last rune
		"\xef\xbf\xbd":         "\ufffd",                       // a valid rune that looks like a fault
		"\x00a\x80\x7f":        "\x00a\ufffd\x7f",              // a follower without a head
		"\xe2\x82\xe2\x82\xac": "\ufffd\ufffd€",                // a rune cut short by another
		"\xf8\x88\x80\x80\x80": strings.Repeat("\ufffd", 5),    // five bytes are no rune
		"\xc2\x80\xdf\xbf":     "\u0080\u07ff",                 // the edges of two bytes
		"\xf4\x8f\xbf\xbf\xc3": "\U0010ffff" + "\ufffd",        // the last rune, and a head alone
		"\xe0\x9f\xbf":         strings.Repeat("\ufffd", 3),    // below the edge of three
		"\xf0\x8f\xbf\xbf":     strings.Repeat("\ufffd", 4),    // below the edge of four
		"\xed\x9f\xbf\xbf":     "\ud7ff" + "\ufffd",            // the last one ahead of the pairs
		"\xef\xbf\xbe\xef\xbf": "\ufffe" + "\ufffd" + "\ufffd", // a rune of no character is a rune
		"\xc3\x28":             "\ufffd(",                      // the byte behind is read anew
		"\xe2\x28\xa1":         "\ufffd(\ufffd",                // so in the middle
		"\xef\xbb\xbe":         "\ufefe",                       // a neighbour of the mark
	} {
		if got := infra.Decode([]byte(s)); got != want {
			t.Errorf("Decode(%q): %q, not %q", s, got, want)
		}
	}
	if infra.Decode(nil) != "" {
		t.Error("Decode(nil)")
	}
}

func TestDecodeAnswersValidText(t *testing.T) {
	r := rand.New(rand.NewSource(11))
	for range 2000 {
		b := someBytes(r, 12)
		want := string([]rune(string(bytes.TrimPrefix(b, []byte("\xef\xbb\xbf")))))
		if got := infra.Decode(b); got != want || !utf8.ValidString(got) {
			t.Fatalf("Decode(%q): %q, not %q", b, got, want)
		}
	}
}

func TestTokenEachByte(t *testing.T) {
	for c := range 256 {
		b := oneByte(c)
		want := strings.Contains(tokenBytes, b)
		for _, s := range []string{b, "a" + b, b + "a", "a" + b + "a"} {
			if infra.Token(s) != want {
				t.Errorf("Token(%q): %v", s, !want)
			}
		}
	}
}

func TestTokenTexts(t *testing.T) {
	for s, want := range map[string]bool{
		"":                        false,
		"X-Custom_1.2":            true,
		tokenBytes:                true,
		"two words":               false,
		"é":                       false,
		"a,b":                     false,
		"a\x00":                   false,
		"\"quoted\"":              false,
		"GET ":                    false,
		"name:":                   false,
		tokenBytes + "=":          false,
		"[" + tokenBytes:          false,
		"\u212a":                  false,
		"a\ufeff":                 false,
		strings.Repeat("a", 5000): true,
	} {
		if infra.Token(s) != want {
			t.Errorf("Token(%q): %v", s, !want)
		}
	}
}

// P1.2

func TestBase64Answers(t *testing.T) {
	for s, want := range map[string]string{
		"":                        "",
		" \t\n\f\r":               "",
		"Y Q==":                   "a",
		"YQ":                      "a",
		"YQ==":                    "a",
		"YQ= =":                   "a",
		" Y\tQ\n=\f=\r":           "a",
		"YWI":                     "ab",
		"YWI=":                    "ab",
		"YWJj":                    "abc",
		"YWJjYQ":                  "abca",
		"YWJjYQ==":                "abca",
		"YWJjYWI":                 "abcab",
		"YWJjYWI=":                "abcab",
		"YR":                      "a", // bits beyond are not looked at
		"Yf==":                    "a",
		"YWJ":                     "ab",
		"YWL=":                    "ab",
		"AAAA":                    "\x00\x00\x00",
		"////":                    "\xff\xff\xff",
		"+/+/":                    "\xfb\xff\xbf",
		strings.Repeat("YWJj", 9): strings.Repeat("abc", 9),
	} {
		b, ok := infra.Base64(s)
		if !ok || string(b) != want {
			t.Errorf("Base64(%q): %q, %v, not %q", s, b, ok, want)
		}
	}
}

func TestBase64Refuses(t *testing.T) {
	for _, s := range []string{
		"Y", "YQ=", "Y===", "=", "==", "===", "====", "YWI==", "YWJj=", "YWJj==", "YWJj===", "YWJj====",
		"YWJjY", "YWJjY===", "=YQ=", "Y=Q=", "YQ=Q", "=YWJ", "YQ==YQ==", "YWI=YWI=", "Y Q=", " Y ", "YQ\x0b=",
		"YW-_", "YWJ\x00", "YWJ\xff", "é===", "éY==", "YWJ,", "YQ%3D%3D", "YWJj\x80YWI", "YWJjYWJjYWJj!",
	} {
		b, ok := infra.Base64(s)
		if ok || len(b) != 0 {
			t.Errorf("Base64(%q): %q, %v", s, b, ok)
		}
	}
}

func TestBase64EachByte(t *testing.T) {
	const alphabet = letters + digits + "+/"
	const blanks = "\t\n\f\r "
	for c := range 256 {
		s := "AA" + oneByte(c) + "A"
		b, ok := infra.Base64(s)
		value := strings.IndexByte(alphabet, byte(c))
		switch {
		case value >= 0:
			if !ok || len(b) != 3 || int(b[0])<<16|int(b[1])<<8|int(b[2]) != value<<6 {
				t.Errorf("Base64(%q): %x, %v", s, b, ok)
			}
		case strings.Contains(blanks, oneByte(c)):
			if !ok || string(b) != "\x00\x00" {
				t.Errorf("Base64(%q): %x, %v", s, b, ok)
			}
		case ok || len(b) != 0:
			t.Errorf("Base64(%q): %x, %v", s, b, ok)
		}
	}
}

func TestEncode64(t *testing.T) {
	for s, want := range map[string]string{
		"":             "",
		"a":            "YQ==",
		"ab":           "YWI=",
		"abc":          "YWJj",
		"abcd":         "YWJjZA==",
		"\x00":         "AA==",
		"\x00\x00":     "AAA=",
		"\xff":         "/w==",
		"\xff\xff":     "//8=",
		"\xff\xff\xff": "////",
		"\xfb\xff\xbf": "+/+/",
		"\x00\x10\x83\x10\x51\x87\x20\x92\x8b\x30\xd3\x8f\x41\x14\x93\x51\x55\x97\x61\x96\x9b\x71\xd7\x9f" +
			"\x82\x18\xa3\x92\x59\xa7\xa2\x9a\xab\xb2\xdb\xaf\xc3\x1c\xb3\xd3\x5d\xb7\xe3\x9e\xbb\xf3\xdf\xbf": letters + digits + "+/",
	} {
		if got := infra.Encode64([]byte(s)); got != want {
			t.Errorf("Encode64(%q): %q, not %q", s, got, want)
		}
	}
	if infra.Encode64(nil) != "" {
		t.Error("Encode64(nil)")
	}
}

// P1.3

func setMembers() map[int]string {
	return map[int]string{
		infra.Control:      "",
		infra.Fragment:     " \"<>`",
		infra.Query:        " \"#<>",
		infra.SpecialQuery: " \"#<>'",
		infra.Path:         " \"#<>?^`{}",
		infra.Userinfo:     " \"#<>?^`{}/:;=@[\\]|",
	}
}

func TestPercentEachByteOfEachSet(t *testing.T) {
	const sixteen = "0123456789ABCDEF"
	for set, more := range setMembers() {
		for c := range 256 {
			s := oneByte(c)
			want := s
			if c < 32 || c > 126 || strings.Contains(more, s) {
				want = "%" + sixteen[c/16:c/16+1] + sixteen[c%16:c%16+1]
			}
			if got := infra.Percent(s, set); got != want {
				t.Errorf("Percent(%q, %d): %q, not %q", s, set, got, want)
			}
		}
	}
}

func TestPercentOfOtherSets(t *testing.T) {
	all := make([]byte, 256)
	for c := range all {
		all[c] = byte(c)
	}
	for _, set := range []int{0, -1, infra.Userinfo + 1, 64, math.MaxInt, math.MinInt} {
		if got := infra.Percent(string(all), set); got != string(all) {
			t.Errorf("Percent by %d: %q", set, got)
		}
	}
}

func TestSetsHaveTheirNumbers(t *testing.T) {
	got := []int{infra.Control, infra.Fragment, infra.Query, infra.SpecialQuery, infra.Path, infra.Userinfo}
	for i, n := range got {
		if n != i+1 {
			t.Errorf("set %d is %d", i+1, n)
		}
	}
}

func TestPercentTexts(t *testing.T) {
	for _, row := range []struct {
		text string
		set  int
		want string
	}{
		{"a b%", infra.Path, "a%20b%"},
		{"", infra.Userinfo, ""},
		{"%41%zz", infra.Userinfo, "%41%zz"},
		{"é", infra.Control, "%C3%A9"},
		{"a\r\nb", infra.Query, "a%0D%0Ab"},
		{"it's", infra.Query, "it's"},
		{"it's", infra.SpecialQuery, "it%27s"},
		{"it's", infra.Userinfo, "it's"},
		{"user:pa/ss@", infra.Userinfo, "user%3Apa%2Fss%40"},
		{"#`", infra.Fragment, "#%60"},
		{"#`", infra.Query, "%23`"},
	} {
		if got := infra.Percent(row.text, row.set); got != row.want {
			t.Errorf("Percent(%q, %d): %q, not %q", row.text, row.set, got, row.want)
		}
	}
}

func TestUnpercentEachPair(t *testing.T) {
	const sixteen = "0123456789abcdefABCDEF"
	value := func(c int) int {
		i := strings.IndexByte(sixteen, byte(c))
		if i > 15 {
			return i - 6
		}
		return i
	}
	for high := range 256 {
		for low := range 256 {
			s := "%" + oneByte(high) + oneByte(low)
			want := s
			if value(high) >= 0 && value(low) >= 0 {
				want = oneByte(value(high)*16 + value(low))
			}
			if got := infra.Unpercent(s); got != want {
				t.Fatalf("Unpercent(%q): %q, not %q", s, got, want)
			}
		}
	}
}

func TestUnpercentTexts(t *testing.T) {
	for s, want := range map[string]string{
		"":             "",
		"plain +":      "plain +",
		"%41%zz%4":     "A%zz%4",
		"%":            "%",
		"%%":           "%%",
		"%4":           "%4",
		"a%4":          "a%4",
		"%%41":         "%A",
		"%4%41":        "%4A",
		"%2541":        "%41", // what was made is not read again
		"%25%34%31":    "%41",
		"%00":          "\x00",
		"%fF%Ff%0a%0A": "\xff\xff\n\n",
		"%C3%a9":       "é",
		"%u0041":       "%u0041",
		"% 41":         "% 41",
		"%+1%-1%0x":    "%+1%-1%0x",
		"\xff%41\xff":  "\xffA\xff",
		"414%1":        "414%1",
	} {
		if got := infra.Unpercent(s); got != want {
			t.Errorf("Unpercent(%q): %q, not %q", s, got, want)
		}
	}
}

// P1.4

func TestIntAnswers(t *testing.T) {
	for s, want := range map[string]int64{
		"0":                            0,
		"000":                          0,
		"7":                            7,
		"007":                          7,
		"1234567890":                   1234567890,
		"922337203685477580":           922337203685477580,
		"9223372036854775799":          math.MaxInt64 - 8,
		"9223372036854775806":          math.MaxInt64 - 1,
		"9223372036854775807":          math.MaxInt64,
		"9223372036854775808":          math.MaxInt64,
		"9223372036854775809":          math.MaxInt64,
		"9223372036854775810":          math.MaxInt64,
		"18446744073709551615":         math.MaxInt64,
		"18446744073709551616":         math.MaxInt64, // 2^64: wrapped round it would be 0
		"18446744073709551617":         math.MaxInt64,
		"99999999999999999999":         math.MaxInt64,
		"92233720368547758070":         math.MaxInt64,
		strings.Repeat("9", 5000):      math.MaxInt64,
		"1" + strings.Repeat("0", 500): math.MaxInt64,
		strings.Repeat("0", 500) + "1": 1,
	} {
		if n, ok := infra.Int(s); n != want || !ok {
			t.Errorf("Int(%q): %d, %v, not %d", s, n, ok, want)
		}
	}
}

func TestIntRefuses(t *testing.T) {
	for _, s := range []string{
		"", "-1", "+1", "-0", " 1", "1 ", "1\n", "1.0", "1e3", "0x10", "1_000", "1,0", "a", "1a", "/", ":", "1/", "1:",
		"٣", "1\x00", "\xb1", "99999999999999999999x", "99999999999999999999-", "9223372036854775807 ",
	} {
		if n, ok := infra.Int(s); n != 0 || ok {
			t.Errorf("Int(%q): %d, %v", s, n, ok)
		}
	}
}

func TestIntAgainstGreatNumbers(t *testing.T) {
	r := rand.New(rand.NewSource(14))
	most := big.NewInt(math.MaxInt64)
	for range 3000 {
		b := make([]byte, 1+r.Intn(22))
		for i := range b {
			b[i] = digits[r.Intn(10)]
		}
		want, _ := new(big.Int).SetString(string(b), 10)
		if want.Cmp(most) > 0 {
			want = most
		}
		if n, ok := infra.Int(string(b)); n != want.Int64() || !ok {
			t.Fatalf("Int(%q): %d, %v", b, n, ok)
		}
	}
}

// P1.5

func TestBase64OfEncode64(t *testing.T) {
	r := rand.New(rand.NewSource(15))
	for n := range 300 {
		b := make([]byte, n)
		r.Read(b)
		s := infra.Encode64(b)
		for _, form := range []string{s, strings.TrimRight(s, "="), strings.Join(strings.Split(s, ""), " \n")} {
			if c, ok := infra.Base64(form); !ok || !bytes.Equal(b, c) {
				t.Fatalf("Base64(%q) of %x: %x, %v", form, b, c, ok)
			}
		}
		if len(s)%4 != 0 {
			t.Fatalf("Encode64(%x): %q", b, s)
		}
	}
}

func TestUnpercentOfPercent(t *testing.T) {
	r := rand.New(rand.NewSource(16))
	for range 2000 {
		s := strings.ReplaceAll(string(someBytes(r, 20)), "%", "")
		for set := range setMembers() {
			p := infra.Percent(s, set)
			if got := infra.Unpercent(p); got != s {
				t.Fatalf("Unpercent(%q) of %q by %d: %q", p, s, set, got)
			}
		}
	}
}

// The rules that hold everywhere.

// TestArgumentsStay: R2: bytes that are handed in are not changed, nor is their spare room, and that room is not read (R5).
func TestArgumentsStay(t *testing.T) {
	r := rand.New(rand.NewSource(2))
	for range 500 {
		text, room := someBytes(r, 10), someBytes(r, 10)
		whole := append(append([]byte{}, text...), room...)
		given := whole[:len(text)]
		alone := append(make([]byte, 0, len(text)), text...)
		if infra.Decode(given) != infra.Decode(alone) || infra.Encode64(given) != infra.Encode64(alone) {
			t.Fatalf("%q: the room behind it, %q, is read", text, room)
		}
		if !bytes.Equal(whole, append(append([]byte{}, text...), room...)) {
			t.Fatalf("%q: changed to %q", text, whole)
		}
	}
}

// TestAnswersAreNew: R2: nothing that is written into an answer, its spare room included, is to be seen in another one, and nothing of an argument is kept.
func TestAnswersAreNew(t *testing.T) {
	for _, s := range []string{"", "YQ", "YWI", "YWJj", strings.Repeat("YWJj", 40)} {
		first, _ := infra.Base64(s)
		want := string(first)
		for i := range first[:cap(first)] {
			first[:cap(first)][i] = '!'
		}
		second, ok := infra.Base64(s)
		if !ok || string(second) != want {
			t.Errorf("Base64(%q): %q behind a written answer", s, second)
		}
	}
	b := []byte("abc")
	text, code := infra.Decode(b), infra.Encode64(b)
	copy(b, "xyz")
	if text != "abc" || code != "YWJj" {
		t.Errorf("an argument that is written later: %q, %q", text, code)
	}
}

// TestAnyBytes: R1, R3, R4: whatever is given, each call ends, answers the same again, and zero values beside a false.
func TestAnyBytes(t *testing.T) {
	r := rand.New(rand.NewSource(1))
	for range 5000 {
		b := someBytes(r, 16)
		s, set := string(b), r.Intn(10)-1
		one, ok1 := infra.Base64(s)
		two, ok2 := infra.Base64(s)
		n1, is1 := infra.Int(s)
		n2, is2 := infra.Int(s)
		if ok1 != ok2 || !bytes.Equal(one, two) || n1 != n2 || is1 != is2 {
			t.Fatalf("%q: two answers", s)
		}
		if !ok1 && len(one) != 0 || !is1 && n1 != 0 {
			t.Fatalf("%q: %q, %d beside a false", s, one, n1)
		}
		if len(infra.Lower(s)) != len(s) || infra.Lower(infra.Lower(s)) != infra.Lower(s) {
			t.Fatalf("Lower(%q): %q", s, infra.Lower(s))
		}
		if x := infra.Strip(s); infra.Strip(x) != x || !strings.Contains(s, x) {
			t.Fatalf("Strip(%q): %q", s, x)
		}
		if len(infra.Unpercent(s)) > len(s) || len(infra.Percent(s, set)) < len(s) || infra.Token(s) != infra.Token(s) {
			t.Fatalf("%q: Unpercent, Percent, Token", s)
		}
	}
}
