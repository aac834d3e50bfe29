package host_test

import (
	"math/big"
	"math/rand"
	"net/netip"
	"strings"
	"testing"

	"ostiary/api"
	"ostiary/host"
)

// The chapter's forbidden bytes, written out once more.
const forbidden = "\x00\x09\x0a\x0d\x20#/:<>?@[\\]^|"

// oneByte: a text of just that byte (string(rune(c)) would be two bytes above 127).
func oneByte(c int) string { return string([]byte{byte(c)}) }

// someText: made of what the calls look for, with any byte between at times.
func someText(r *rand.Rand, most int) string {
	often := []string{
		".", ".", ":", ":", "::", "0", "00", "1", "7", "8", "9", "12", "255", "256", "65535", "65536", "0x", "0X", "f", "F",
		"g", "ffff", "xn--", "xn-", "a", "Z", "[", "]", "%", "%41", "%30", "%2e", "%5b", "1.2.3.4", "-", "_", "x",
	}
	var b strings.Builder
	for range r.Intn(most + 1) {
		if r.Intn(12) == 0 {
			b.WriteByte(byte(r.Intn(256)))
		} else {
			b.WriteString(often[r.Intn(len(often))])
		}
	}
	return b.String()
}

func wantHost(t *testing.T, s string, special bool, want string) {
	t.Helper()
	if h, why := host.Parse(s, special); h != want || why != api.OK {
		t.Errorf("Parse(%q, %v): %q, %v, not %q", s, special, h, why, want)
	}
}

func wantNoHost(t *testing.T, s string, special bool) {
	t.Helper()
	if h, why := host.Parse(s, special); h != "" || why != api.ErrHost {
		t.Errorf("Parse(%q, %v): %q, %v, not ErrHost", s, special, h, why)
	}
}

// P2.1

func TestParseRunsAndExamples(t *testing.T) {
	wantHost(t, "EXAMPLE.com", true, "example.com")
	wantHost(t, "0x7f.1", true, "127.0.0.1")
	wantNoHost(t, "a b", true)
	wantHost(t, "[1:0:0:2::]", true, "[1:0:0:2::]")
	wantHost(t, "[::1.2.3.4]", false, "[::102:304]")
	wantNoHost(t, "", true)
	wantHost(t, "", false, "")
	wantNoHost(t, "xn--a.b", true)
}

func TestParseEachByteOfASpecialHost(t *testing.T) {
	for c := range 256 {
		b := oneByte(c)
		may := c >= 33 && c <= 126 && b != "%" && !strings.Contains(forbidden, b)
		digits := "%" + string("0123456789abcdef"[c>>4]) + string("0123456789ABCDEF"[c&15])
		for _, form := range []string{b, digits} {
			for _, s := range []string{"h" + form + "z", "h" + form, form + "z"} {
				if form == "[" && strings.HasPrefix(s, "[") {
					continue // read as pieces: TestParseBrackets
				}
				if !may {
					wantNoHost(t, s, true)
					continue
				}
				wantHost(t, s, true, strings.ToLower(strings.Replace(s, form, b, 1)))
			}
		}
	}
}

func TestParseEachByteOfAnotherHost(t *testing.T) {
	for c := range 256 {
		b := oneByte(c)
		for _, s := range []string{"H" + b + "z", "H" + b} {
			if strings.Contains(forbidden, b) {
				wantNoHost(t, s, false)
				continue
			}
			form := b
			if c < 32 || c > 126 {
				form = "%" + string("0123456789ABCDEF"[c>>4]) + string("0123456789ABCDEF"[c&15])
			}
			wantHost(t, s, false, strings.Replace(s, b, form, 1))
		}
	}
}

func TestParseSpecial(t *testing.T) {
	for s, want := range map[string]string{
		"a":                        "a",
		"A-B_c.D~":                 "a-b_c.d~",
		"%61%4D":                   "am",
		"a%2eb":                    "a.b",
		"%31%2E2":                  "1.0.0.2", // Unpercented ahead of all
		"0X7F.1":                   "127.0.0.1",
		"%30%58ff":                 "0.0.0.255",
		"1":                        "0.0.0.1",
		"1.":                       "0.0.0.1",
		"1.2.3.4":                  "1.2.3.4",
		"1.2.3.4.":                 "1.2.3.4",
		"01.02.03.04":              "1.2.3.4",
		".":                        ".",
		"..":                       "..",
		"a.":                       "a.",
		".a":                       ".a",
		"a.1..":                    "a.1..", // its last label is empty
		"1.2.3.4.5.a":              "1.2.3.4.5.a",
		"09.a":                     "09.a",
		"a.0xg":                    "a.0xg",
		"xn-":                      "xn-",
		"xn-a":                     "xn-a",
		"axn--a":                   "axn--a",
		"a-xn--a.bxn--":            "a-xn--a.bxn--",
		"x%6E-a":                   "xn-a",
		strings.Repeat("a.", 5000): strings.Repeat("a.", 5000), // no limit of its own
		"!\"$&'()*+,-;=_`{}~":      "!\"$&'()*+,-;=_`{}~",
	} {
		wantHost(t, s, true, want)
	}
	for _, s := range []string{
		"%", "a%", "%4", "%zz", "a%2", "%25", "%2541", "%%341", "%00", "%20", "%7f", "%80", "%C3%A9", "é", "\xff", "a\x7f",
		"xn--", "XN--a", "a.xn--b", "a.Xn--b.c", "xn--.a", "%78n--a", "a%2Exn--", "a.xn-%2d", ".xn--",
		"%5b::1]", "%5B::1%5D", "a[", "a]", "]", " [::1]", "a[::1]",
		"1.2.3.4.5", "1.2.3.4.5.", "09", "a.1", "a.1.", "0x100000000", "1.2.3.256", "1..2", ".1", "a.0x", "1.a.2", "0x.09",
	} {
		wantNoHost(t, s, true)
	}
}

func TestParseOther(t *testing.T) {
	for s, want := range map[string]string{
		"EXAMPLE":     "EXAMPLE",
		"%41%zz%":     "%41%zz%", // not Unpercented
		"1.2.3.4.5":   "1.2.3.4.5",
		"09":          "09",
		"0x7f.1":      "0x7f.1",
		"xn--a":       "xn--a",
		"é":           "%C3%A9",
		"\x01\x1f~":   "%01%1F~",
		"\x7f\x80":    "%7F%80",
		"\x0b\x0c":    "%0B%0C", // Control bytes that are not forbidden
		"a%20b%00":    "a%20b%00",
		"\"'`{}!$&()": "\"'`{}!$&()",
		"[::ABCD]":    "[::abcd]",
	} {
		wantHost(t, s, false, want)
	}
	for _, s := range []string{" ", "a[", "a]", "]", "a[::1]", "\xff\x00", "é/", "a:1", "u@h"} {
		wantNoHost(t, s, false)
	}
}

func TestParseBrackets(t *testing.T) {
	for _, special := range []bool{true, false} {
		for s, want := range map[string]string{
			"[::]":                  "[::]",
			"[1:2:3:4:5:6:7:8]":     "[1:2:3:4:5:6:7:8]",
			"[ABCD::00Ef]":          "[abcd::ef]",
			"[::255.255.255.255]":   "[::ffff:ffff]",
			"[0:0:0:0:0:0:0:0]":     "[::]",
			"[1:0:0:2:0:0:0:3]":     "[1:0:0:2::3]",
			"[1:2:3:4:5:6:0.0.0.1]": "[1:2:3:4:5:6:0:1]",
		} {
			wantHost(t, s, special, want)
		}
		for _, s := range []string{"[", "[]", "[[", "[]]", "[[::]]", "[::1", "[::1]a", "[::1]:80", "[::1].", "[ ::1]", "[%3a:1]", "[::1%5D", "[::%31]", "[1.2.3.4]", "[a]", "[::1%eth0]", "[0:0:0:0:0:ffff:1.2.3]"} {
			wantNoHost(t, s, special)
		}
	}
}

// P2.2

func TestNumbered(t *testing.T) {
	for s, want := range map[string]bool{
		"": false, ".": false, "..": false, "0": true, "1": true, "0123456789": true, "08": true, "1.": true, "1..": false,
		"a.1": true, "a.1.": true, "a.1..": false, ".1": true, "..1.": true, "1.a": false, "1.a.": false, "1a": false, "a1": false,
		"0x": true, "0X": true, "0x.": true, "a.0x": true, "0x0123456789abcdefABCDEF": true, "0xg": false, "0Xg": false, "0x/": false, "0x:": false,
		"0x@": false, "0x`": false, "0xG": false, "00x": false, "x": false, "0xx": false, "0x0x": false, "1x": false, "1x1": false, "x1": false,
		"/": false, ":": false, "1/": false, ":1": false, "-1": false, "+1": false, "1 ": false, " 1": false, "1\x00": false, "\xb1": false,
		"٣": false, "f": false, "ff": false, "0x 1": false, "4294967296": true, "1.2.3.4.5": true, strings.Repeat("9", 100): true,
		"0x" + strings.Repeat("f", 100): true, "a b.1": true, "\xff.0xA": true, "1.0x.": true, "%31": false, "1e1": false,
	} {
		if host.Numbered(s) != want {
			t.Errorf("Numbered(%q): not %v", s, want)
		}
	}
}

func TestNumberedEachByte(t *testing.T) {
	const digits, more = "0123456789", "abcdefABCDEF"
	for c := range 256 {
		b := oneByte(c)
		decimal, hexadecimal := strings.Contains(digits, b), strings.Contains(digits+more, b)
		if b == "." {
			continue
		}
		if host.Numbered("7"+b+"7") != decimal || host.Numbered("a."+b) != decimal {
			t.Errorf("Numbered of byte %d", c)
		}
		if host.Numbered("0x"+b) != hexadecimal || host.Numbered("0X7"+b+"7.") != hexadecimal {
			t.Errorf("Numbered of byte %d behind 0x", c)
		}
		if host.Numbered("0"+b) != (decimal || b == "x" || b == "X") {
			t.Errorf("Numbered of byte %d behind 0", c)
		}
	}
}

// P2.3

func TestFourAnswers(t *testing.T) {
	for s, want := range map[string]uint32{
		"256": 256, "0": 0, "00": 0, "0.": 0, "0.0.0.0": 0, "1.": 1, "1.2.3.4": 0x01020304, "1.2.3.4.": 0x01020304,
		"1.2": 0x01000002, "1.2.3": 0x01020003, "255.255.255.255": 0xffffffff, "4294967295": 0xffffffff, "4294967295.": 0xffffffff,
		"255.16777215": 0xffffffff, "255.255.65535": 0xffffffff, "0.0.0.255": 255, "0.0.65535": 65535, "0.16777215": 16777215,
		"0x": 0, "0X": 0, "0x.0X.0x.0X": 0, "1.0x": 0x01000000, "0x.1": 1, "0xffffffff": 0xffffffff, "0XAbCdEf": 0xabcdef, "0x7f.1": 0x7f000001,
		"07": 7, "010": 8, "0377.1": 0xff000001, "037777777777": 0xffffffff, "0300.0250.01": 0xc0a80001, "000000000000000000000000000001": 1,
		"0x00000000000000000000000000000000ff.0": 0xff000000, "10.0x10.010.10": 0x0a10080a, "9": 9, "90": 90,
	} {
		if n, why := host.Four(s); n != want || why != api.OK {
			t.Errorf("Four(%q): %d, %v, not %d", s, n, why, want)
		}
	}
}

func TestFourRefuses(t *testing.T) {
	for _, s := range []string{
		"", ".", "..", "1..", "1..2", ".1", "1.2.3.4.5", "1.2.3.4.5.", "1.2.3.4..", "0.0.0.0.0", "09", "09.", "08", "018", "0008", "1.09", "08.1",
		"0xg", "0x0x", "0xx", "00x1", "x1", "0o7", "0b1", "a", "1a", "a.1", "1.a", "ff", "-1", "+1", "-0", "0x-1", "0x+1", "0-1", " 1", "1 ", "1_0", "0x_f", "1e1",
		"256.1", "256.1.1", "1.256.1", "256.1.1.1", "1.256.1.1", "1.1.256.1", "1.1.1.256", "1.1.65536", "1.16777216", "4294967296",
		"0x100.1", "0400.1", "0x100000000", "040000000000", "1.0x1000000", "1.2.0x10000", "1.2.3.0x100", "1.2.3.0400",
		"18446744073709551616", "18446744073709551617", "0x10000000000000000", "0x10000000000000001", "02000000000000000000001",
		"0x100000001.1", "18446744073709551617.1", "1.2.3.18446744073709551617", strings.Repeat("9", 1000), "1.1.1.1" + strings.Repeat(".1", 1000),
		"4294967295.1", "/", ":", "1/", "1:", "٣", "\xb1", "1\x00", "%31", "1,2", "0xG", "0x`", "0x@", strings.Repeat("9", 1000) + "x",
	} {
		if n, why := host.Four(s); n != 0 || why != api.ErrHost {
			t.Errorf("Four(%q): %d, %v, not ErrHost", s, n, why)
		}
	}
}

func TestFourEachByte(t *testing.T) {
	for c := range 256 {
		b := oneByte(c)
		if b == "." {
			continue
		}
		for mark, digits := range map[string]string{"1": "0123456789", "0": "01234567", "0x": "0123456789abcdef", "0X": "0123456789ABCDEF"} {
			at := strings.Index(digits, b)
			if len(digits) == 16 && at < 0 {
				at = strings.Index(digits, swapped(b))
			}
			if mark == "0" && (b == "x" || b == "X") {
				at = 0 // the other mark
			}
			n, why := host.Four(mark + b)
			want := uint32(max(at, 0))
			if mark == "1" && at >= 0 {
				want += 10
			}
			if n != want || (why == api.OK) != (at >= 0) || why != api.OK && why != api.ErrHost {
				t.Errorf("Four(%q): %d, %v", mark+b, n, why)
			}
		}
	}
}

// swapped: a small letter as a great one, and back.
func swapped(s string) string {
	if low := strings.ToLower(s); low != s {
		return low
	}
	return strings.ToUpper(s)
}

// fourByGreatNumbers: P2.3 once more, by numbers without an end.
func fourByGreatNumbers(s string) (uint32, bool) {
	labels := strings.Split(s, ".")
	if n := len(labels); n > 1 && labels[n-1] == "" {
		labels = labels[:n-1]
	}
	if len(labels) > 4 {
		return 0, false
	}
	sum := new(big.Int)
	for i, label := range labels {
		base, digits := 10, label
		if strings.HasPrefix(strings.ToLower(label), "0x") {
			base, digits = 16, "0"+label[2:]
		} else if len(label) > 1 && label[0] == '0' {
			base = 8
		}
		n, ok := new(big.Int).SetString(digits, base)
		if !ok || strings.ContainsAny(digits, "+-_") {
			return 0, false
		}
		most, place := int64(256), 8*(3-i)
		if i == len(labels)-1 {
			most, place = 1<<(8*(5-len(labels))), 0
		}
		if n.Cmp(big.NewInt(most)) >= 0 {
			return 0, false
		}
		sum.Add(sum, n.Lsh(n, uint(place)))
	}
	return uint32(sum.Uint64()), true
}

func TestFourAgainstGreatNumbers(t *testing.T) {
	r := rand.New(rand.NewSource(23))
	words := []string{"0", "1", "9", "07", "08", "255", "256", "0377", "0400", "0xff", "0X100", "0x", "65535", "65536", "16777215", "16777216", "4294967295", "4294967296", "", "00", "0x00000000001", "-1", "1_0", "g", "99999999999999999999"}
	met := 0
	for range 20000 {
		parts := make([]string, 1+r.Intn(6))
		for i := range parts {
			parts[i] = words[r.Intn(len(words))]
			if r.Intn(2) == 0 {
				parts[i] = words[r.Intn(3)]
			}
		}
		s := strings.Join(parts, ".")
		want, ok := fourByGreatNumbers(s)
		n, why := host.Four(s)
		if n != want || (why == api.OK) != ok {
			t.Fatalf("Four(%q): %d, %v, not %d, %v", s, n, why, want, ok)
		}
		if ok {
			met++
		}
	}
	if met < 1000 {
		t.Errorf("%d answers alone", met)
	}
}

func TestText4(t *testing.T) {
	for n, want := range map[uint32]string{0: "0.0.0.0", 1: "0.0.0.1", 0xff000a01: "255.0.10.1", 0x01020304: "1.2.3.4", 1<<32 - 1: "255.255.255.255", 0x7f000001: "127.0.0.1", 256: "0.0.1.0", 0x64006300: "100.0.99.0"} {
		if got := host.Text4(n); got != want {
			t.Errorf("Text4(%d): %q, not %q", n, got, want)
		}
	}
}

// P2.4

func TestSixAnswers(t *testing.T) {
	for s, want := range map[string][8]uint16{
		"::":                       {},
		"0:0:0:0:0:0:0:0":          {},
		"0000::0000":               {},
		"::1":                      {7: 1},
		"1::":                      {0: 1},
		"1::2":                     {0: 1, 7: 2},
		"1:2:3:4:5:6:7:8":          {1, 2, 3, 4, 5, 6, 7, 8},
		"1:2:3:4:5:6:7::":          {1, 2, 3, 4, 5, 6, 7, 0},
		"::2:3:4:5:6:7:8":          {0, 2, 3, 4, 5, 6, 7, 8},
		"1:2:3::5:6:7:8":           {1, 2, 3, 0, 5, 6, 7, 8},
		"1:2::7:8":                 {1, 2, 0, 0, 0, 0, 7, 8},
		"ffff:FFFF:0fFf:ab::":      {0xffff, 0xffff, 0xfff, 0xab},
		"0001:0020:0300:4000::":    {1, 0x20, 0x300, 0x4000},
		"::1.2.3.4":                {6: 0x102, 7: 0x304},
		"::0.0.0.0":                {},
		"::255.255.255.255":        {6: 0xffff, 7: 0xffff},
		"::10.100.0.9":             {6: 0xa64, 7: 9},
		"::ffff:1.2.3.4":           {5: 0xffff, 6: 0x102, 7: 0x304},
		"1:2:3:4:5:6:1.2.3.4":      {1, 2, 3, 4, 5, 6, 0x102, 0x304},
		"1:2:3:4:5::1.2.3.4":       {1, 2, 3, 4, 5, 0, 0x102, 0x304},
		"::3:4:5:6:1.2.3.4":        {0, 0, 3, 4, 5, 6, 0x102, 0x304},
		"1::1.2.3.4":               {0: 1, 6: 0x102, 7: 0x304},
		"::2:3:4:5:6:1.2.3.4":      {0, 2, 3, 4, 5, 6, 0x102, 0x304},
		"0123:4567:89ab:cdef::":    {0x123, 0x4567, 0x89ab, 0xcdef},
		"::CDEF:89AB:4567:0123":    {4: 0xcdef, 5: 0x89ab, 6: 0x4567, 7: 0x123},
		"0:0:0:0:0:0:127.0.0.1":    {6: 0x7f00, 7: 1},
		"1:0:0:2::":                {0: 1, 3: 2},
		"dead:beef:0:0:0:0:0:0001": {0: 0xdead, 1: 0xbeef, 7: 1},
	} {
		if x, why := host.Six(s); x != want || why != api.OK {
			t.Errorf("Six(%q): %x, %v, not %x", s, x, why, want)
		}
	}
}

func TestSixRefuses(t *testing.T) {
	for _, s := range []string{
		"", ":", ":::", "::::", "1", "ffff", "1:2", "1:2:3:4:5:6:7", "1:2:3:4:5:6:7:8:9", "1:2:3:4:5:6:7:8:", ":1:2:3:4:5:6:7:8", ":1:2:3:4:5:6:7", "1:2:3:4:5:6:7:",
		"1::2::3", "::1::", "1::2::", "::::1", "1:::2", ":::1", "1:::", ":1", "1:", ":1::", "::1:", ":1::2", "1::2:",
		"1:2:3:4:5:6:7:8::", "::1:2:3:4:5:6:7:8", "1:2:3:4::5:6:7:8", "1:2:3:4:5:6:7::8", "1::2:3:4:5:6:7:8", "1:2:3:4:5:6:7:8::9", strings.Repeat("1:", 1000) + ":", "::" + strings.Repeat("1:", 1000) + "1",
		"12345::", "00001::", "::12345", "00000::", "1:2:3:4:5:6:7:00008", "g::", "::g", "G::", "::@", "::`", "::/", "::x", "0x1::",
		"::1.2.3", "::1.2", "::1.", "::.", "::1.2.3.", "::.2.3.4", "::1..3.4", "::1.2.3.4.", "::1.2.3.4.5", "::1.2.3.256", "::256.2.3.4", "::1.999.3.4", "::1.2.3.1000", "::1.2.18446744073709551617.4",
		"::01.2.3.4", "::1.02.3.4", "::1.2.3.04", "::00.0.0.0", "::0.0.0.00", "::0x1.2.3.4", "::a.2.3.4", "::1.2.3.a", "::1.2.f.4", "::-1.2.3.4", "::+1.2.3.4", "::1.2.3.4 ", "::1.2.3.4a", "::1.2.3.4%", "::1234.1.1.1", "::12345.1.1.1",
		"1.2.3.4", "1.2.3.4::", "1.2.3.4::1", "1::1.2.3.4:5", "::1.2.3.4:", "::1.2.3.4::", "1.2.3.4:1:2:3:4:5:6", "1:2:3:4:5:1.2.3.4:6", "::1.2.3.4:1.2.3.4",
		"1:2:3:4:5:1.2.3.4", "1:2:3:4:5:6:7:1.2.3.4", "1:2:3:4:5:6:7:8:1.2.3.4", "1:2:3:4:5:6::1.2.3.4", "::1:2:3:4:5:6:1.2.3.4", "::1:2:3:4:5:6:7:1.2.3.4", "1:2:3:4:5:6:7::1.2.3.4", "1:2:3:4:5:6:1.2.3.4::",
		" ::", ":: ", "::1 ", ":: 1", "::-1", "::+1", "::1_0", "::1%a", "::1%25a", "[::1]", "::1]", "::1\x00", "\xff::", "::\xb1", "::٣", "fe80::1%1", "1;2::", "::,",
	} {
		if x, why := host.Six(s); x != [8]uint16{} || why != api.ErrHost {
			t.Errorf("Six(%q): %x, %v, not ErrHost", s, x, why)
		}
	}
}

func TestSixEachByte(t *testing.T) {
	for c := range 256 {
		b := oneByte(c)
		at := strings.Index("0123456789abcdef", strings.ToLower(b))
		x, why := host.Six("::7" + b)
		if at < 0 {
			if b != ":" && (why != api.ErrHost || x != [8]uint16{}) {
				t.Errorf("Six of byte %d: %x, %v", c, x, why)
			}
			continue
		}
		if why != api.OK || x != [8]uint16{7: 0x70 | uint16(at)} {
			t.Errorf("Six of byte %d: %x, %v", c, x, why)
		}
	}
}

// TestSixAgainstAddresses: the library reads the same form, and a zone beside it, which no text here has.
func TestSixAgainstAddresses(t *testing.T) {
	r := rand.New(rand.NewSource(24))
	words := []string{"0", "1", "f", "F0", "abc", "1234", "0000", "12345", "", "1.2.3.4", "0.0.0.0", "1.2.3", "01.2.3.4", "255.255.255.256", "g"}
	met := 0
	for range 60000 {
		parts := make([]string, 1+r.Intn(9))
		for i := range parts {
			parts[i] = words[r.Intn(7)]
			if r.Intn(8) == 0 {
				parts[i] = words[r.Intn(len(words))]
			}
		}
		s := strings.Join(parts, ":")
		if r.Intn(3) > 0 {
			cut := r.Intn(len(parts) + 1)
			s = strings.Join(parts[:cut], ":") + "::" + strings.Join(parts[cut:], ":")
		}
		a, err := netip.ParseAddr(s)
		ok := err == nil && a.Is6()
		var want [8]uint16
		if ok {
			for i, b := range a.As16() {
				want[i/2] = want[i/2]<<8 | uint16(b)
			}
			met++
		}
		if x, why := host.Six(s); x != want || (why == api.OK) != ok {
			t.Fatalf("Six(%q): %x, %v, not %x, %v", s, x, why, want, err)
		}
	}
	if met < 10000 {
		t.Errorf("%d answers alone", met)
	}
}

func TestText6(t *testing.T) {
	for x, want := range map[[8]uint16]string{
		{}:                              "::",
		{7: 1}:                          "::1",
		{0: 1}:                          "1::",
		{1, 2, 3, 4, 5, 6, 7, 8}:        "1:2:3:4:5:6:7:8",
		{1, 0, 3, 4, 5, 6, 7, 8}:        "1:0:3:4:5:6:7:8", // one nought alone
		{0, 2, 3, 4, 5, 6, 7, 8}:        "0:2:3:4:5:6:7:8",
		{1, 2, 3, 4, 5, 6, 7, 0}:        "1:2:3:4:5:6:7:0",
		{0, 1, 0, 1, 0, 1, 0, 1}:        "0:1:0:1:0:1:0:1",
		{0, 0, 3, 4, 5, 6, 7, 8}:        "::3:4:5:6:7:8",
		{1, 2, 3, 4, 5, 6, 0, 0}:        "1:2:3:4:5:6::",
		{1, 2, 0, 0, 5, 6, 7, 8}:        "1:2::5:6:7:8",
		{1, 0, 0, 4, 0, 0, 7, 8}:        "1::4:0:0:7:8",    // the first of two
		{0, 0, 3, 0, 0, 6, 0, 0}:        "::3:0:0:6:0:0",   // the first of three
		{0, 0, 3, 0, 0, 0, 7, 8}:        "0:0:3::7:8",      // the longest of two
		{1, 0, 0, 0, 5, 0, 0, 0}:        "1::5:0:0:0",      // the first of the longest
		{0, 0, 0, 4, 5, 6, 0, 0}:        "::4:5:6:0:0",     // the longest is the first
		{0, 1, 0, 0, 1, 0, 0, 0}:        "0:1:0:0:1::",     // the longest is the last
		{0, 1, 0, 0, 1, 0, 1, 0}:        "0:1::1:0:1:0",    // single ones around it
		{0x1, 0x20, 0x300, 0x4000}:      "1:20:300:4000::", // no noughts ahead, those behind stay
		{0xABCD, 0xEF, 7: 0xFFFF}:       "abcd:ef::ffff",
		{5: 0xffff, 6: 0x102, 7: 0x304}: "::ffff:102:304",
	} {
		if got := host.Text6(x); got != want {
			t.Errorf("Text6(%x): %q, not %q", x, got, want)
		}
	}
}

// TestText6EachPattern: every way in which noughts may lie, against the library (the addresses that it writes with dots are none of these).
func TestText6EachPattern(t *testing.T) {
	for pattern := range 256 {
		var x [8]uint16
		var b [16]byte
		for i := range x {
			if pattern>>i&1 == 1 {
				x[i] = uint16(0x1a << i)
			}
			b[2*i], b[2*i+1] = byte(x[i]>>8), byte(x[i])
		}
		if got, want := host.Text6(x), netip.AddrFrom16(b).String(); got != want {
			t.Errorf("Text6(%x): %q, not %q", x, got, want)
		}
	}
}

// P2.5

func TestAnswersAreParsedToThemselves(t *testing.T) {
	r := rand.New(rand.NewSource(25))
	met := map[bool]int{}
	for range 40000 {
		s, special := someText(r, 6), r.Intn(2) == 0
		if r.Intn(4) == 0 {
			s = "[" + s + "]"
		}
		h, why := host.Parse(s, special)
		if why != api.OK {
			continue
		}
		met[special]++
		if again, why := host.Parse(h, special); again != h || why != api.OK {
			t.Fatalf("Parse(%q, %v) of %q: %q, %v", h, special, s, again, why)
		}
	}
	if met[true] < 1000 || met[false] < 1000 {
		t.Errorf("answers: %v", met)
	}
}

func TestTextsAreReadAgain(t *testing.T) {
	r := rand.New(rand.NewSource(26))
	for range 5000 {
		n := r.Uint32() >> r.Intn(32)
		s := host.Text4(n)
		if m, why := host.Four(s); m != n || why != api.OK || !host.Numbered(s) {
			t.Fatalf("Four(%q): %d, %v, not %d", s, m, why, n)
		}
		wantHost(t, s, true, s)
		var x [8]uint16
		for i := range x {
			if r.Intn(2) == 0 {
				x[i] = uint16(r.Uint32() >> (16 + r.Intn(16)))
			}
		}
		s = host.Text6(x)
		if y, why := host.Six(s); y != x || why != api.OK {
			t.Fatalf("Six(%q): %x, %v, not %x", s, y, why, x)
		}
		wantHost(t, "["+s+"]", true, "["+s+"]")
		wantHost(t, "["+s+"]", false, "["+s+"]")
	}
}

// The rules that hold everywhere.

// TestAnyText: R1, R3, R4: whatever is given, each call ends, answers the same again, refuses by ErrHost alone, and zero values beside it.
func TestAnyText(t *testing.T) {
	r := rand.New(rand.NewSource(1))
	for range 20000 {
		s, special := someText(r, 8), r.Intn(2) == 0
		h1, why1 := host.Parse(s, special)
		h2, why2 := host.Parse(s, special)
		n1, four1 := host.Four(s)
		n2, four2 := host.Four(s)
		x1, six1 := host.Six(s)
		x2, six2 := host.Six(s)
		if h1 != h2 || why1 != why2 || n1 != n2 || four1 != four2 || x1 != x2 || six1 != six2 || host.Numbered(s) != host.Numbered(s) {
			t.Fatalf("%q: two answers", s)
		}
		for _, why := range []api.Errno{why1, four1, six1} {
			if why != api.OK && why != api.ErrHost {
				t.Fatalf("%q: %v", s, why)
			}
		}
		if why1 != api.OK && h1 != "" || four1 != api.OK && n1 != 0 || six1 != api.OK && x1 != [8]uint16{} {
			t.Fatalf("%q: %q, %d, %x beside a refusal", s, h1, n1, x1)
		}
	}
}

// TestLongTexts: R1: the calls end, and soon, on texts without a limit.
func TestLongTexts(t *testing.T) {
	const n = 1 << 20
	for _, s := range []string{".", ":", "1", "0", "1.", "1:", "%", "%41", "[", "]", "0x", "xn--", "::", "\xff", "f", "9"} {
		long := strings.Repeat(s, n)
		host.Parse(long, true)
		host.Parse(long, false)
		host.Parse("["+long+"]", true)
		host.Numbered(long)
		host.Four(long)
		host.Six(long)
	}
}
