package age_test

import (
	"math"
	"slices"
	"strings"
	"testing"

	"ostiary/age"
	"ostiary/api"
)

const (
	control = "cache-control"
	most    = math.MaxInt64
	least   = math.MinInt64
)

// list: headers of names and values in turn.
func list(words ...string) []api.Header {
	var l []api.Header
	for i := 0; i+1 < len(words); i += 2 {
		l = append(l, api.Header{Name: words[i], Value: words[i+1]})
	}
	return l
}

func oneByte(c int) string { return string([]byte{byte(c)}) }

// P16.1

var nothing = age.Control{Max: -1}

func mustParse(t *testing.T, l []api.Header, want age.Control) {
	t.Helper()
	if got := age.Parse(l); got != want {
		t.Errorf("Parse(%q): %+v, not %+v", l, got, want)
	}
}

// TestParseRun: the chapter's, and its first example.
func TestParseRun(t *testing.T) {
	mustParse(t, list(control, `Max-Age="5", no-cache=x`), age.Control{NoCache: true, Max: 5})
	mustParse(t, nil, nothing)
	if age.Fresh(nil, 0, 0) {
		t.Error("fresh without headers")
	}
}

func TestParseNoStoreAndNoCache(t *testing.T) {
	store, cache := age.Control{NoStore: true, Max: -1}, age.Control{NoCache: true, Max: -1}
	for _, form := range []string{"@", " @ ", "\t@\t", "\n@\r", "\f@\f", "@=", "@ =", "\r@\n=\f", "@=x", "@ = x", "@=0", "@=false", `@=""`, `@="`, `@="a, max-age=5"`, `@="a\", max-age=5"`, "@==", "@=a=b", "@=\xff\x00", ",@", "@,", "x,@,y", "x , @ , y=z", "@,@", "@=1,@=2", "max-age,@", `"x",@`} {
		for name, want := range map[string]age.Control{"no-store": store, "NO-STORE": store, "No-Store": store, "nO-sTORe": store, "no-cache": cache, "NO-CACHE": cache, "No-Cache": cache, "nO-cACHe": cache} {
			mustParse(t, list(control, strings.ReplaceAll(form, "@", name)), want)
		}
	}
	mustParse(t, list(control, "no-store,no-cache"), age.Control{NoStore: true, NoCache: true, Max: -1})
	mustParse(t, list(control, "no-cache=no-store"), cache)
	mustParse(t, list(control, "no-store=no-cache"), store)
	mustParse(t, list(control, `no-store="no-cache, max-age=5"`), store)
	mustParse(t, list(control, "no-cache, max-age=5, no-store"), age.Control{NoStore: true, NoCache: true, Max: 5})
}

// TestParseNeitherName: names that are near to those that count.
func TestParseNeitherName(t *testing.T) {
	for _, name := range []string{"", "=", "=no-store", "=5", "no-stores", "no-stor", "xno-store", "no store", "no- store", "no_store", "nostore", "no-store;", "no-store;x", "no-store no-cache", "no-store:x", "no-store\x00", "\x00no-store", "no-store\v", "\u00a0no-cache", "no-cache\u0085", `"no-store"`, `"no-cache"=x`, `"no-store, no-cache"`, `"no-store`, `'no-store'`, `no-store"`, "no-cach\xc3\xa9", "no-\u212aache", "no-\u017ftore", "private", "public", "must-revalidate", "only-if-cached", "store", "cache", "x=no-store", "x=no-cache", "max-age no-store", "NoStore", "NoCache"} {
		mustParse(t, list(control, name), nothing)
		mustParse(t, list(control, name+"=5"), nothing)
	}
	for _, name := range []string{"s-maxage", "max-ages", "xmax-age", "max-stale", "min-fresh", "maxage", "max_age", "max age", "max- age", "max", "age", "Max", `"max-age"`, "max-age:", "max-age;", "x=max-age", "", "max-age\x00", "\u00a0max-age"} {
		mustParse(t, list(control, name+"=5"), nothing)
		mustParse(t, list(control, name+"=5, max-age=7"), age.Control{Max: 7})
	}
}

func TestParseMaxAge(t *testing.T) {
	for value, want := range map[string]int64{
		"5":                                 5,
		"0":                                 0,
		"00":                                0,
		"007":                               7,
		"7200":                              7200,
		"7201":                              7201,
		"2147483648":                        1 << 31,
		"9223372036854775806":               most - 1,
		"9223372036854775807":               most,
		"9223372036854775808":               most,
		"18446744073709551616":              most,
		"99999999999999999999":              most,
		" 5":                                5,
		"5 ":                                5,
		"\t5\t":                             5,
		"\n\f\r 5 \r\f\n":                   5,
		`"5"`:                               5,
		` "5" `:                             5,
		"\r\n\"5\"\f":                       5,
		`"0"`:                               0,
		`"99999999999999999"`:               99999999999999999,
		strings.Repeat("0", 4096) + "1":     1,
		strings.Repeat("9", 4096):           most,
		`"` + strings.Repeat("9", 99) + `"`: most,
	} {
		for _, name := range []string{"max-age", "MAX-AGE", "Max-Age", "mAX-aGe", " max-age ", "\tmax-age\t", "\r\nmax-age\f"} {
			mustParse(t, list(control, name+"="+value), age.Control{Max: want})
		}
	}
}

// TestParseMaxAgeNoNumber: Max is none, and what comes behind counts.
func TestParseMaxAgeNoNumber(t *testing.T) {
	for _, value := range []string{"", "=", "=5", "= 5", "= ", "=\"\"", "x", "-1", "-0", "+5", "5.0", "5.", ".5", "5s", "s5", "5 5", "5;", "5;x", "0x5", "1e3", "1_0", "5=", "5=5", `"`, `""`, `"5`, `5"`, `"5""`, `""5"`, `""5""`, `"5"x`, `x"5"`, `" 5"`, `"5 "`, "\"\t5\"", `"-1"`, `"x"`, `"5, 5"`, `"\5"`, `"5\"`, `'5'`, `'5`, `"5'`, `'"5"'`, `5"5`, "\v5", "5\x00", "\x005", "\u00a05", "\u0665", "\uff15", "\xff"} {
		l := list(control, "max-age="+value)
		mustParse(t, l, nothing)
		if !strings.Contains(value, `"`) { // else the quotes may go on
			mustParse(t, list(control, "max-age="+value+", max-age=7"), age.Control{Max: 7})
		}
		mustParse(t, list(control, "max-age=7, max-age="+value), age.Control{Max: 7})
		mustParse(t, append(list(control, "max-age=7"), l...), age.Control{Max: 7})
	}
	mustParse(t, list(control, "max-age"), nothing)
	mustParse(t, list(control, "max-age 5"), nothing)
	mustParse(t, list(control, "max-age:5"), nothing)
	mustParse(t, list(control, "max-age, 5"), nothing)
	mustParse(t, list(control, "max-age, =5"), nothing)
	mustParse(t, list(control, "max-age, max-age=5"), age.Control{Max: 5})
}

func TestParseSeveralMaxAges(t *testing.T) {
	for value, want := range map[string]int64{
		"max-age=5, max-age=7":                       5,
		"max-age=7, max-age=5":                       7,
		"max-age=5,MAX-AGE=7,max-age=9":              5,
		"max-age=0, max-age=7":                       0,
		"max-age=7, max-age=0":                       7,
		"max-age=x, max-age=7, max-age=9":            7,
		"max-age=x, max-age=-1, max-age=, max-age=3": 3,
		"max-age=x, max-age=y":                       -1,
		"max-age=\"x\", max-age=\"8\", max-age=9":    8,
		"max-age=\"5, max-age=7\"":                   -1,
		"max-age=\"5, max-age=7":                     -1,
		"max-age=\"5\\\", max-age=7\", max-age=9":    9,
		"max-age=\"5\\\\\", max-age=7":               7,
		"max-age=99999999999999999999, max-age=1":    most,
		"x=5, max-age=6":                             6,
		"s-maxage=5, max-age=6":                      6,
	} {
		mustParse(t, list(control, value), age.Control{Max: want})
	}
}

func TestParseNoneOneSeveralHeaders(t *testing.T) {
	mustParse(t, []api.Header{}, nothing)
	mustParse(t, list("x", "no-store", "cache", "no-cache", control+"s", "no-store", " "+control, "no-cache", "pragma", "no-cache", "age", "5", "max-age", "5", "no-store", "", "", "no-store"), nothing)
	for _, value := range []string{"", " ", ",", ",,", " , ", "=", "=,=", `"`, `""`} {
		mustParse(t, list(control, value), nothing)
		mustParse(t, list(control, value, control, value), nothing)
	}
	for _, name := range []string{control, "Cache-Control", "CACHE-CONTROL"} {
		mustParse(t, list("x", "no-store", name, "max-age=5", "y", "no-cache"), age.Control{Max: 5})
		mustParse(t, list(name, "no-cache", control, "max-age=3"), age.Control{NoCache: true, Max: 3})
		mustParse(t, list(control, "max-age=3", name, "max-age=4, no-store"), age.Control{NoStore: true, Max: 3})
		mustParse(t, list(control, "max-age=x", "y", "z", name, "max-age=4", control, "no-cache"), age.Control{NoCache: true, Max: 4})
	}
	mustParse(t, list(control, "", control, "no-store", control, ""), age.Control{NoStore: true, Max: -1})
	mustParse(t, list(control, "max-age=", control, "5"), nothing)    // two headers are parted by a comma
	mustParse(t, list(control, `x="y`, control, "no-store"), nothing) // quotes that are open go on in the next one
	mustParse(t, list(control, `x="y`, control, `z", no-store`), age.Control{NoStore: true, Max: -1})
}

// TestParseEachByte: what stands at the ends of names and values, and inside.
func TestParseEachByte(t *testing.T) {
	for c := range 256 {
		b := oneByte(c)
		blank := strings.Contains("\t\n\f\r ", b)
		want := nothing
		if blank {
			want = age.Control{NoStore: true, Max: 5}
		}
		if c != ',' && c != '"' && c != '=' {
			mustParse(t, list(control, b+"no-store"+b+", "+b+"max-age"+b+"=5"), want)
			mustParse(t, list(control, "no-store"+b+"=x, max-age"+b+"="+b+"5"+b), want)
			mustParse(t, list(control, `x`+b+`, max-age="`+b+`5"`), number(b+"5"))
			mustParse(t, list(control, `max-age="5`+b+`"`), number("5"+b))
			mustParse(t, list(control, "max-age=5"+b+"5"), number("5"+b+"5"))
		}
		mustParse(t, list(control, "no-"+b+"store, no"+b+"-cache, max"+b+"-age=5"), nothing)
	}
}

// number: what max-age of that text of two or three bytes says.
func number(s string) age.Control {
	n := int64(0)
	for _, c := range []byte(s) {
		if c < '0' || c > '9' {
			return nothing
		}
		n = 10*n + int64(c-'0')
	}
	return age.Control{Max: n}
}

// P16.2

func TestAdd(t *testing.T) {
	for _, row := range []struct{ a, b, want int64 }{
		{0, 0, 0},
		{1, 2, 3},
		{most, 1, most}, // the chapter's second example
		{most, 0, most},
		{most - 1, 1, most},
		{most - 1, 2, most},
		{most - 2, 1, most - 1},
		{most, most, most},
		{most, -1, most - 1},
		{most, -most, 0},
		{most, 1 - most, 1},
		{most, least, 0},
		{1 << 62, 1 << 62, most},
		{1 << 62, 1<<62 - 1, most},
		{1 << 62, 1<<62 - 2, most - 1},
		{0, -1, 0},
		{1, -1, 0},
		{2, -1, 1},
		{1, -2, 0},
		{-1, -1, 0},
		{0, least, 0},
		{least, least, 0},
		{least, -1, 0},
		{-most, -1, 0},
		{-most, -2, 0},
		{-1 << 62, -1 << 62, 0},
		{-1<<62 - 1, -1 << 62, 0},
		{-most, most - 1, 0},
	} {
		if got := age.Add(row.a, row.b); got != row.want {
			t.Errorf("Add(%d, %d): %d, not %d", row.a, row.b, got, row.want)
		}
		if got := age.Add(row.b, row.a); got != row.want {
			t.Errorf("Add(%d, %d): %d, not %d", row.b, row.a, got, row.want)
		}
	}
}

func mustAge(t *testing.T, l []api.Header, stored, now, want int64) {
	t.Helper()
	if got := age.Age(l, stored, now); got != want {
		t.Errorf("Age(%.200q, %d, %d): %d, not %d", l, stored, now, got, want)
	}
}

// times: stored, now, and how long it is between them.
func times() [][3]int64 {
	return [][3]int64{
		{0, 0, 0}, {0, 1, 1}, {3, 5, 2}, {5, 5, 0}, {5, 4, 0}, {5, 3, 0}, {5, 0, 0},
		{-5, 0, 5}, {-5, -3, 2}, {-3, -5, 0}, {-1, 1, 2}, {1, -1, 0}, {-7, 7, 14},
		{0, most, most}, {1, most, most - 1}, {-1, most, most}, {-1, most - 1, most}, {-1, most - 2, most - 1}, {-5, most, most},
		{most, most, 0}, {most, 0, 0}, {most, least, 0}, {most - 1, most, 1}, {most, most - 1, 0},
		{least, most, most}, {least, 0, most}, {least, -1, most}, {least, -2, most - 1}, {least, 1, most}, {least, least, 0}, {least, least + 1, 1},
		{least + 1, 0, most}, {least + 1, -1, most - 1}, {least + 1, least, 0}, {0, least, 0}, {1, least, 0}, {-1, least, 0},
		{-1 << 62, 1 << 62, most}, {-1<<62 + 1, 1 << 62, most}, {-1<<62 + 2, 1 << 62, most - 1}, {1 << 62, -1 << 62, 0},
	}
}

// TestAgeTimes: stored ahead of now, at it and behind it.
func TestAgeTimes(t *testing.T) {
	for _, row := range times() {
		stored, now, gone := row[0], row[1], row[2]
		mustAge(t, nil, stored, now, gone)
		mustAge(t, list("age", "0"), stored, now, gone)
		mustAge(t, list("age", "x"), stored, now, gone)
		mustAge(t, list("age", "9223372036854775807"), stored, now, most)
		seven := gone + 7
		if gone > most-7 {
			seven = most
		}
		mustAge(t, list("Age", " 7 "), stored, now, seven)
	}
	mustAge(t, list("age", "9223372036854775806"), 0, 0, most-1)
	mustAge(t, list("age", "9223372036854775806"), 0, 1, most)
	mustAge(t, list("age", "9223372036854775806"), 0, 2, most)
	mustAge(t, list("age", "1"), 0, most-1, most)
	mustAge(t, list("age", "1"), 1, most-1, most-1)
}

func TestAgeTold(t *testing.T) {
	for value, want := range map[string]int64{
		"7": 7, "0": 0, "007": 7, " 7": 7, "7 ": 7, "\t7\t": 7, "\n\f\r7\r\f\n ": 7,
		"7200": 7200, "9223372036854775807": most, "9223372036854775808": most, "99999999999999999999": most, strings.Repeat("9", 4096): most,
		"": 0, " ": 0, "x": 0, "-1": 0, "-7": 0, "+7": 0, "7.0": 0, "7s": 0, "7 7": 0, "7,": 0, ",7": 0, "7, 7": 0, "7,8": 0, `"7"`: 0, `"7`: 0, "'7'": 0, "0x7": 0, "7e1": 0, "7=7": 0, "=7": 0, "7;": 0, "\v7": 0, "7\x00": 0, "\u00a07": 0, "\u0667": 0, "\xff": 0,
	} {
		for _, name := range []string{"age", "Age", "AGE", "aGe"} {
			mustAge(t, list(name, value), 0, 0, want)
			mustAge(t, list("x", "3", name, value, "ages", "5", "y", "4"), 9, 2, want)
			if want < most {
				mustAge(t, list(name, value), 3, 5, want+2)
			}
		}
	}
}

func TestAgeNoneAndSeveral(t *testing.T) {
	mustAge(t, []api.Header{}, 0, 3, 3)
	mustAge(t, list("x", "7", "ages", "7", "ag", "7", " age", "7", "age ", "7", "", "7", "max-age", "7", control, "max-age=7, age=7"), 0, 3, 3)
	mustAge(t, list("age", "1", "age", "2"), 0, 3, 3) // as one text they are no number
	mustAge(t, list("age", "1", "Age", "1"), 0, 3, 3)
	mustAge(t, list("age", "1", "x", "y", "age", ""), 0, 3, 3)
	mustAge(t, list("age", "", "age", "1"), 0, 3, 3)
	mustAge(t, list("age", "", "age", ""), 0, 3, 3)
}

func mustFresh(t *testing.T, l []api.Header, stored, now int64, want bool) {
	t.Helper()
	if got := age.Fresh(l, stored, now); got != want {
		t.Errorf("Fresh(%.200q, %d, %d): %v", l, stored, now, got)
	}
}

// TestFreshRun: the chapter's.
func TestFreshRun(t *testing.T) {
	l := list(control, "max-age=5")
	mustFresh(t, l, 0, 4, true)
	mustFresh(t, l, 0, 5, false)
}

// TestFreshTimes: just while the age is below Max.
func TestFreshTimes(t *testing.T) {
	for _, row := range times() {
		stored, now, gone := row[0], row[1], row[2]
		mustFresh(t, nil, stored, now, false)
		mustFresh(t, list(control, "max-age=0"), stored, now, false)
		mustFresh(t, list(control, "max-age=1"), stored, now, gone < 1)
		mustFresh(t, list(control, "max-age=2"), stored, now, gone < 2)
		mustFresh(t, list(control, "max-age=5"), stored, now, gone < 5)
		mustFresh(t, list(control, "max-age=9223372036854775806"), stored, now, gone < most-1)
		mustFresh(t, list(control, "max-age=9223372036854775807"), stored, now, gone < most)
		mustFresh(t, list(control, "max-age=99999999999999999999"), stored, now, gone < most)
		mustFresh(t, list(control, "max-age=99999999999999999999", "age", "99999999999999999999"), stored, now, false)
	}
}

func TestFreshHeaders(t *testing.T) {
	for value, want := range map[string]bool{
		"":                           false,
		"x":                          false,
		"max-age":                    false,
		"max-age=x":                  false,
		"max-age=-1":                 false,
		"max-age=\"5":                false,
		"max-age=5":                  true,
		"MAX-AGE = \"5\"":            true,
		"max-age=5, max-age=0":       true,
		"max-age=0, max-age=5":       false,
		"max-age=x, max-age=5":       true,
		"no-cache":                   false,
		"max-age=5, no-cache":        false,
		"No-Cache , max-age=5":       false,
		"max-age=5, no-cache=x":      false,
		"max-age=5, no-cache=\"\"":   false,
		"max-age=5, x=no-cache":      true,
		"max-age=5, \"no-cache\"":    true,
		"no-store":                   false,
		"max-age=5, no-store":        true, // it says what may be kept, not what is fresh
		"no-store, no-cache":         false,
		"s-maxage=5":                 false,
		"max-age=5, s-maxage=0":      true,
		"max-age=5, must-revalidate": true,
	} {
		mustFresh(t, list(control, value), 0, 0, want)
		mustFresh(t, list("x", "y", "Cache-Control", value, "expires", "0"), 7, 0, want)
		mustFresh(t, list(control, value), 0, 5, false)
		mustFresh(t, list(control, value, "age", "4"), 0, 0, want)
		mustFresh(t, list(control, value, "age", "5"), 0, 0, false)
		mustFresh(t, list("Age", "\t3 ", control, value), 5, 6, want)
		mustFresh(t, list("Age", "\t3 ", control, value), 5, 7, false)
		mustFresh(t, list("age", "9", control, value, "age", "9"), 5, 9, want)
		mustFresh(t, list("age", "-9", control, value), 5, 10, false)
	}
	mustFresh(t, list(control, "max-age=5", control, "no-cache"), 0, 0, false)
	mustFresh(t, list(control, "max-age=5", "pragma", "no-cache"), 0, 0, true)
	mustFresh(t, list("x", "max-age=5"), 0, 0, false)
}

// P16.3

func mustVary(t *testing.T, l []api.Header, want ...string) {
	t.Helper()
	if got, ok := age.Vary(l); !slices.Equal(got, want) || !ok {
		t.Errorf("Vary(%.200q): %q, %v, not %q", l, got, ok, want)
	}
}

func mustNotVary(t *testing.T, l []api.Header) {
	t.Helper()
	if got, ok := age.Vary(l); len(got) > 0 || ok {
		t.Errorf("Vary(%.200q): %q, %v", l, got, ok)
	}
}

// TestVaryRun: the chapter's, and its third example.
func TestVaryRun(t *testing.T) {
	mustVary(t, list("vary", "B, a, b"), "a", "b")
	mustVary(t, nil)
}

func TestVaryNames(t *testing.T) {
	for value, want := range map[string][]string{
		"":                     nil,
		" ":                    nil,
		"\t":                   nil,
		",":                    nil,
		",,":                   nil,
		" ,\t, ":               nil,
		"x":                    {"x"},
		"X":                    {"x"},
		" x ":                  {"x"},
		"\tAccept-Encoding\t":  {"accept-encoding"},
		"x,":                   {"x"},
		",x":                   {"x"},
		",,x,,":                {"x"},
		"x,x":                  {"x"},
		"x,X,x , X":            {"x"},
		"b,a":                  {"a", "b"},
		"a,b":                  {"a", "b"},
		"c, B, a, b, C, A, c":  {"a", "b", "c"},
		"a,b,a":                {"a", "b"},
		"b,a,b,a":              {"a", "b"},
		"ab,a,b,aa":            {"a", "aa", "ab", "b"},
		"a10,a9,a1":            {"a1", "a10", "a9"},
		"_,B,a,^,~,-,0":        {"-", "0", "^", "_", "a", "b", "~"}, // ordered as small letters
		"Z,_":                  {"_", "z"},
		"a b, a":               {"a", "a b"},
		"a;b":                  {"a;b"},
		"a=b":                  {"a=b"},
		`"a, b", c`:            {`"a, b"`, "c"},
		`"*", c`:               {`"*"`, "c"},
		`"x, *"`:               {`"x, *"`},
		`"x, *`:                {`"x, *`},
		`"`:                    {`"`},
		`""`:                   {`""`},
		`"A\", B", "a\", b"`:   {`"a\", b"`},
		"**":                   {"**"},
		"*x, x*, x-*":          {"*x", "x*", "x-*"},
		"* *":                  {"* *"},
		"\n*":                  {"\n*"}, // just 9 and 32 are left out at the ends
		"*\r":                  {"*\r"},
		"\f":                   {"\f"},
		"\n, \n":               {"\n"},
		"\xff,é,z,É,\x00":      {"\x00", "z", "\xc3\x89", "\xc3\xa9", "\xff"}, // letters of ASCII alone have two sizes
		"\u212a, k, K":         {"k", "\u212a"},
		"vary":                 {"vary"},
		"accept, cookie, host": {"accept", "cookie", "host"},
	} {
		for _, name := range []string{"vary", "Vary", "VARY"} {
			mustVary(t, list(name, value), want...)
			mustVary(t, list("x", "q", name, value, "varys", "*", "var", "*"), want...)
		}
	}
}

func TestVaryStar(t *testing.T) {
	for _, value := range []string{"*", " *", "* ", "\t*\t", "*,", ",*", "*,*", "a, *", "*, a", "a,*,b", "a, b, c, *", `"x", *`, `"a\"", *`, `"a\\", *`} {
		for _, name := range []string{"vary", "Vary", "VARY"} {
			mustNotVary(t, list(name, value))
			mustNotVary(t, list(name, value, "vary", "a"))
			mustNotVary(t, list("vary", "a", "x", "y", name, value))
		}
	}
}

func TestVaryNoneAndSeveral(t *testing.T) {
	mustVary(t, []api.Header{})
	mustVary(t, list("x", "a", "varys", "*", "var", "b", " vary", "*", "", "*", control, "vary=a"))
	mustVary(t, list("vary", "b", "vary", "a"), "a", "b")
	mustVary(t, list("vary", "b, c", "x", "z", "Vary", "C, a, B"), "a", "b", "c")
	mustVary(t, list("vary", "", "vary", ""))
	mustVary(t, list("vary", "", "vary", "a", "vary", ""), "a")
	mustVary(t, list("vary", `"x`, "vary", "*"), `"x, *`) // quotes that are open go on in the next one
	mustVary(t, list("vary", `"X`, "vary", `Y", b`), `"x, y"`, "b")
	mustNotVary(t, list("vary", "a", "vary", "*"))
}

// P16.4

// TestFreshBefore: what is fresh was fresh at each time before, at the ends of the clock too.
func TestFreshBefore(t *testing.T) {
	var clock []int64
	for _, row := range times() {
		for _, d := range []int64{-6, -5, -4, -1, 0, 1, 4, 5, 6} {
			clock = append(clock, row[0]+d, row[1]+d) // past an end it goes on at the other one
		}
	}
	slices.Sort(clock)
	clock = slices.Compact(clock)
	for _, words := range []string{"", "max-age=0", "max-age=1", "max-age=5", "max-age=5, no-cache", "max-age=9223372036854775807", "max-age=4611686018427387904"} {
		for _, told := range []string{"", "4", "x", "4611686018427387904", "9223372036854775806"} {
			l := list(control, words, "age", told)
			for _, stored := range clock {
				was := true
				for i, now := range clock {
					is := age.Fresh(l, stored, now)
					if is && !was {
						t.Fatalf("%q, stored %d: fresh at %d, not at %d", l, stored, now, clock[i-1])
					}
					was = is
				}
			}
		}
	}
}
