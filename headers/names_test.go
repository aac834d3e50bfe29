package headers_test

import (
	"math"
	"math/big"
	"math/rand"
	"regexp"
	"slices"
	"strings"
	"testing"

	"ostiary/headers"
)

const letters = "ABCDEFGHIJKLMNOPQRSTUVWXYZabcdefghijklmnopqrstuvwxyz"

const digits = "0123456789"

func forbidden() []string {
	return []string{"host", "cookie", "origin", "referer", "content-length", "connection", "date", "via", "te", "upgrade", "expect", "dnt", "accept-charset", "accept-encoding", "access-control-request-headers", "access-control-request-method", "keep-alive", "trailer", "transfer-encoding"}
}

func safe() []string {
	return []string{"accept", "accept-language", "content-language", "content-type", "range"}
}

// P5.4

func TestForbidden(t *testing.T) {
	for _, s := range forbidden() {
		for _, name := range []string{s, strings.ToUpper(s), strings.ToUpper(s[:1]) + s[1:], s[:1] + strings.ToUpper(s[1:])} {
			if !headers.Forbidden(name) {
				t.Errorf("%q may be set", name)
			}
		}
		for _, name := range []string{s + "s", s + "-", s + " ", " " + s, "x" + s, s[:len(s)-1], s[1:], s + "\x00", s + s} {
			if headers.Forbidden(name) {
				t.Errorf("%q may not be set", name)
			}
		}
	}
}

func TestForbiddenBeginnings(t *testing.T) {
	for _, s := range []string{"proxy-", "sec-"} {
		for _, name := range []string{s, s + "x", s + "-", s + "authorization", s + "fetch-site", s + " ", s + "\xff", strings.ToUpper(s) + "X", strings.ToUpper(s[:1]) + s[1:] + "X"} {
			if !headers.Forbidden(name) {
				t.Errorf("%q may be set", name)
			}
		}
		for _, name := range []string{s[:len(s)-1], s[1:], s[:len(s)-1] + "x", s[:len(s)-1] + "_x", "x" + s, "x-" + s + "x", " " + s, s[:len(s)-1] + " -x"} {
			if headers.Forbidden(name) {
				t.Errorf("%q may not be set", name)
			}
		}
	}
}

func TestNotForbidden(t *testing.T) {
	for _, s := range append(safe(), "", "x", "-", "authorization", "cookie2", "set-cookie", "user-agent", "if-none-match", "cache-control", "referrer", "accept-", "access-control-request-private-network", "content-encoding", "transfer", "keep", "\u212aeep-alive", "do\u017ft", "ho\u017ft", "h\x00st", "\xff") {
		if headers.Forbidden(s) {
			t.Errorf("%q may not be set", s)
		}
	}
}

// P5.5

func TestSafeEachByte(t *testing.T) {
	const risky = "\"():<>?@[\\]{}"
	const language = letters + digits + " *,-.;="
	for c := range 256 {
		b := oneByte(c)
		fine := c != 127 && (c >= 32 || c == 9) && !strings.Contains(risky, b)
		told := strings.Contains(language, b)
		for _, at := range []string{b, "a" + b, b + "a", "a" + b + "a"} {
			if headers.Safe("accept", at) != fine {
				t.Errorf("accept: %q: %v", at, !fine)
			}
			if headers.Safe("accept-language", at) != told || headers.Safe("content-language", at) != told {
				t.Errorf("a language: %q: %v", at, !told)
			}
			if headers.Safe("content-type", "text/plain;"+at) != fine {
				t.Errorf("content-type: %q behind its essence: %v", at, !fine)
			}
			if headers.Safe("range", "bytes=1-2"+at) != (strings.Trim(at, digits) == "") {
				t.Errorf("range: %q behind it", at)
			}
			if headers.Safe("x", at) || headers.Safe("", at) {
				t.Errorf("another name: %q", at)
			}
		}
		// Of the Blanks 10, 12 and 13 are none that may stand in it.
		around := c == 9 || c == 32
		if headers.Safe("content-type", b+"text/plain"+b) != around || headers.Safe("content-type", b+b+"text/plain"+b+b+";q") != around {
			t.Errorf("content-type: byte %d around its essence: %v", c, !around)
		}
	}
}

func TestSafeTexts(t *testing.T) {
	for _, c := range []struct {
		name, value string
		want        bool
	}{
		{"Accept", "text/html,*/*;q=0.8", true},
		{"accept", "", true},
		{"accept", "a\tb\x80\xff", true},
		{"accept", " \t ", true},
		{"accept", "é", true},
		{"accept", "a\nb", false},
		{"accept", "a\n", false}, // the value as it is, not its Value
		{"accept ", "x", false},
		{"accept-", "x", false},
		{"ACCEPT-Language", "de-DE, en;q=0.7, *;q=.5", true},
		{"accept-language", "", true},
		{"accept-language", "a\tb", false},
		{"accept-language", "a_b", false},
		{"Content-LANGUAGE", "é", false},
		{"content-language", "a/b", false},
		{"Content-Type", "text/plain;q", true},
		{"CONTENT-TYPE", "text/plain", true},
		{"content-type", "TEXT/Plain", true},
		{"content-type", " \ttext/plain\t ", true},
		{"content-type", "text/plain ; charset=utf-8", true},
		{"content-type", "text/plain;", true},
		{"content-type", "text/plain;;", true},
		{"content-type", "text/plain;a;text/html", true},
		{"content-type", "text/plain;a/b", true},
		{"content-type", "text/plain;\xff", true},
		{"content-type", "text/plain;charset=\"x\"", false},
		{"content-type", "text/plain, text/plain", false},
		{"content-type", "text/plain x", false},
		{"content-type", "text /plain", false},
		{"content-type", "text/plainx", false},
		{"content-type", "xtext/plain", false},
		{"content-type", "text", false},
		{"content-type", "text/", false},
		{"content-type", "", false},
		{"content-type", ";", false},
		{"content-type", ";text/plain", false},
		{"content-type", "text/html", false},
		{"content-type", "text/html;text/plain", false},
		{"content-type", "application/json", false},
		{"content-type", "multipart/form-data", true},
		{"content-type", "Multipart/Form-Data;boundary=x", true},
		{"content-type", "multipart/form-data;boundary=a:b", false},
		{"content-type", "multipart/mixed", false},
		{"content-type", "application/x-www-form-urlencoded", true},
		{"content-type", "application/X-WWW-form-urlencoded;charset=utf-8", true},
		{"content-type", "text/p\u212aain", false},
		{"range", "bytes=-5", false},
		{"range", "bytes=5-", true},
		{"Range", "bytes=0-", true},
		{"RANGE", "bytes=1-2", true},
		{"range", "bytes=0-0", true},
		{"range", "bytes=2-1", false},
		{"range", "Bytes=1-2", false},
		{"range", " bytes=1-2", false},
		{"range", "bytes=-", false},
		{"range", "", false},
		{"authorization", "x", false},
		{"x", "", false},
		{"", "", false},
		{"dpr", "1", false},
		{"content-length", "1", false},
		{"set-cookie", "x", false},
	} {
		if headers.Safe(c.name, c.value) != c.want {
			t.Errorf("Safe(%q, %q): %v", c.name, c.value, !c.want)
		}
	}
}

func TestSafeLength(t *testing.T) {
	for name, begin := range map[string]string{"accept": "x", "accept-language": "x", "content-language": "x", "content-type": "text/plain;", "range": "bytes=1-1"} {
		for n, want := range map[int]bool{127: true, 128: true, 129: false, 130: false, 1 << 20: false} {
			if value := begin + strings.Repeat("9", n-len(begin)); headers.Safe(name, value) != want {
				t.Errorf("%s of %d bytes: %v", name, n, !want)
			}
		}
	}
	// Blanks at the ends count.
	if headers.Safe("accept", "x"+strings.Repeat(" ", 128)) || headers.Safe("content-type", strings.Repeat(" ", 119)+"text/plain") || !headers.Safe("content-type", strings.Repeat(" ", 118)+"text/plain") {
		t.Error("blanks at the ends")
	}
	if headers.Safe("accept", strings.Repeat("é", 65)) || !headers.Safe("accept", strings.Repeat("é", 64)) {
		t.Error("bytes count, not runes")
	}
}

func TestRange(t *testing.T) {
	for s, want := range map[string][2]int64{
		"bytes=0-":                       {0, -1},
		"bytes=7-":                       {7, -1},
		"bytes=-7":                       {-1, 7},
		"bytes=-0":                       {-1, 0},
		"bytes=0-0":                      {0, 0},
		"bytes=3-3":                      {3, 3},
		"bytes=3-4":                      {3, 4},
		"bytes=9-10":                     {9, 10}, // as numbers, not as texts
		"bytes=007-08":                   {7, 8},
		"bytes=9223372036854775807-":     {math.MaxInt64, -1},
		"bytes=9223372036854775808-":     {math.MaxInt64, -1},
		"bytes=007-99999999999999999999": {7, math.MaxInt64},
		"bytes=9223372036854775806-9223372036854775807":  {math.MaxInt64 - 1, math.MaxInt64},
		"bytes=99999999999999999999-9223372036854775807": {math.MaxInt64, math.MaxInt64}, // both are 2^63 - 1
		"bytes=-99999999999999999999":                    {-1, math.MaxInt64},
	} {
		if from, to, ok := headers.Range(s); from != want[0] || to != want[1] || !ok {
			t.Errorf("Range(%q): %d, %d, %v", s, from, to, ok)
		}
	}
	for _, s := range []string{
		"", "-", "1-2", "=1-2", "byte=1-2", "bytes", "bytes1-2", "bytes=", "bytes=-", "bytes=--", "bytes=1", "bytes=1--", "bytes=--1", "bytes=-1-", "bytes=-1-2", "bytes=1--2", "bytes=1-2-", "bytes=1-2-3",
		"Bytes=1-2", "BYTES=1-2", "bytes==1-2", "bytes =1-2", "bytes= 1-2", "bytes=1 -2", "bytes=1- 2", "bytes=1-2 ", " bytes=1-2", "bytes=1-2\n", "\tbytes=1-2",
		"bytes=2-1", "bytes=1-0", "bytes=10-9", "bytes=9223372036854775807-9223372036854775806", "bytes=99999999999999999999-1",
		"bytes=a-", "bytes=-a", "bytes=1-b", "bytes=+1-2", "bytes=1-+2", "bytes=0x1-2", "bytes=1_0-", "bytes=1.0-2", "bytes=1-2,3-4", "bytes=1-,2-", "bytes=1-2,", "bytes=\u0661-", "bytes=1\u20132", "bytes=\xff-", "bytes=1-2\x00",
		"items=1-2", "xbytes=1-2", "bytes=bytes=1-2", "-bytes=1", "1-bytes=",
	} {
		if from, to, ok := headers.Range(s); from != 0 || to != 0 || ok {
			t.Errorf("Range(%q): %d, %d, %v", s, from, to, ok)
		}
	}
}

// held: the number that digits are, at most 2^63 - 1; -1, if there are none.
func held(digits string) int64 {
	if digits == "" {
		return -1
	}
	n, _ := new(big.Int).SetString(digits, 10)
	if !n.IsInt64() {
		return math.MaxInt64
	}
	return n.Int64()
}

func TestRangeAgain(t *testing.T) {
	form := regexp.MustCompile(`\Abytes=([0-9]*)-([0-9]*)\z`)
	parts := []string{"0", "1", "2", "9", "10", "00", "-", "-", " ", "a", "9223372036854775807", "9223372036854775808", "="}
	r := rand.New(rand.NewSource(57))
	told, refused := 0, 0
	for range 50000 {
		s := some(r, []string{"bytes=", "bytes=", "bytes=", "Bytes=", ""})
		for range r.Intn(5) {
			s += some(r, parts)
		}
		var from, to int64
		m := form.FindStringSubmatch(s)
		fine := m != nil
		if fine {
			from, to = held(m[1]), held(m[2])
			fine = m[1] != "" && m[2] == "" || m[1] == "" && m[2] != "" || m[1] != "" && m[2] != "" && from <= to
		}
		if !fine {
			from, to = 0, 0
			refused++
		} else {
			told++
		}
		if a, b, ok := headers.Range(s); a != from || b != to || ok != fine {
			t.Fatalf("Range(%q): %d, %d, %v", s, a, b, ok)
		}
		if want := fine && m[1] != ""; headers.Safe("Range", s) != want {
			t.Fatalf("Safe of %q: %v", s, !want)
		}
	}
	if told < 1000 || refused < 1000 {
		t.Errorf("%d told, %d refused", told, refused)
	}
}

// P5.6

func TestSafeIsNotForbidden(t *testing.T) {
	values := []string{"", "x", "text/plain", "bytes=1-2", "bytes=5-", "1", "a b", "*"}
	for _, name := range forbidden() {
		for _, v := range values {
			if headers.Safe(name, v) || headers.Safe("proxy-"+name, v) || headers.Safe("Sec-"+name, v) {
				t.Errorf("%q, %q: Safe, and Forbidden", name, v)
			}
		}
	}
	found := []string{}
	r := rand.New(rand.NewSource(58))
	parts := slices.Concat(forbidden(), safe(), []string{"proxy-", "sec-", "-", "accept", "content", "language", "type", "x", ""})
	for range 100000 {
		name := some(r, parts) + some(r, parts) + some(r, parts)
		if !slices.ContainsFunc(values, func(v string) bool { return headers.Safe(name, v) }) {
			continue
		}
		if headers.Forbidden(name) {
			t.Fatalf("%q: Safe, and Forbidden", name)
		}
		if !slices.Contains(found, name) {
			found = append(found, name)
		}
	}
	slices.Sort(found)
	if !slices.Equal(found, safe()) {
		t.Errorf("Safe names: %q", found)
	}
}
