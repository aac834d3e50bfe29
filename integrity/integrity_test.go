package integrity_test

import (
	"crypto/sha256"
	"crypto/sha512"
	"encoding/base64"
	"math"
	"math/rand"
	"regexp"
	"slices"
	"strconv"
	"strings"
	"testing"

	"ostiary/api"
	"ostiary/integrity"
)

// sizes: all that there are.
var sizes = []int{256, 384, 512}

// oneByte: a text of just that byte (string(rune(c)) would be two bytes above 127).
func oneByte(c int) string { return string([]byte{byte(c)}) }

// someText: at most so many of these pieces, one behind the other.
func someText(r *rand.Rand, of []string, most int) string {
	var out strings.Builder
	for range r.Intn(most + 1) {
		out.WriteString(of[r.Intn(len(of))])
	}
	return out.String()
}

// items: of bits, wants and options by turns.
func items(words ...any) []integrity.Item {
	var out []integrity.Item
	for i := 0; i+2 < len(words); i += 3 {
		out = append(out, integrity.Item{Bits: words[i].(int), Want: words[i+1].(string), Option: words[i+2].(string)})
	}
	return out
}

// sum: the digest by another's hand.
func sum(bits int, body []byte) []byte {
	switch bits {
	case 256:
		x := sha256.Sum256(body)
		return x[:]
	case 384:
		x := sha512.Sum384(body)
		return x[:]
	}
	x := sha512.Sum512(body)
	return x[:]
}

// asked: what a page would write to ask for that body, told without Make.
func asked(bits int, body string) string {
	return "sha" + strconv.Itoa(bits) + "-" + base64.StdEncoding.EncodeToString(sum(bits, []byte(body)))
}

func mustParse(t *testing.T, s string, want []integrity.Item) {
	t.Helper()
	if got := integrity.Parse(s); !slices.Equal(got, want) {
		t.Errorf("Parse(%q): %v, not %v", s, got, want)
	}
}

func mustHold(t *testing.T, s, body string, want bool) {
	t.Helper()
	if got := integrity.Holds(s, []byte(body)); got != want {
		t.Errorf("Holds(%q, %q): %v", s, body, got)
	}
}

// P9.1

func TestParse(t *testing.T) {
	for s, want := range map[string][]integrity.Item{
		"sha256-a?b SHA512-c md5-d":  items(256, "a", "b", 512, "c", ""),
		"sha256":                     nil,
		"":                           nil,
		" \t\n\f\r":                  nil,
		"sha256-a":                   items(256, "a", ""),
		"sha384-a":                   items(384, "a", ""),
		"sha512-a":                   items(512, "a", ""),
		"\t\n\f\r sha384-a\t\n\f\r ": items(384, "a", ""),
		"sha256-a\tsha384-b\nsha512-c\fsha256-d\rsha384-e f": items(256, "a", "", 384, "b", "", 512, "c", "", 256, "d", "", 384, "e", ""),
		"sha512-b sha256-a sha512-b":                         items(512, "b", "", 256, "a", "", 512, "b", ""), // in their order, twice if twice

		"sha256-":           items(256, "", ""), // parts may be empty
		"sha256-?":          items(256, "", ""),
		"sha256-a?":         items(256, "a", ""),
		"sha256-?b":         items(256, "", "b"),
		"sha256- a":         items(256, "", ""),
		"sha256-a ?b":       items(256, "a", ""),
		"sha256-a? b":       items(256, "a", ""),
		"sha256--":          items(256, "-", ""),
		"sha256-a-b-c":      items(256, "a-b-c", ""), // the first one cuts
		"sha256-a?b?c":      items(256, "a", "b?c"),
		"sha256-a??":        items(256, "a", "?"),
		"sha256-a?b-c":      items(256, "a", "b-c"),
		"sha256-a-b?c-d?e":  items(256, "a-b", "c-d?e"),
		"sha256-sha512-a":   items(256, "sha512-a", ""),
		"sha256-a,sha512-b": items(256, "a,sha512-b", ""),
		"sha256-a?sha512-b": items(256, "a", "sha512-b"),

		"SHA256-A?B":          items(256, "A", "B"), // the name alone by Lower
		"Sha384-a sHA512-b":   items(384, "a", "", 512, "b", ""),
		"sha256-\x00\xff\x0b": items(256, "\x00\xff\x0b", ""),
		"sha256-é?\xc3":       items(256, "é", "\xc3"),
		"sha256-+/==":         items(256, "+/==", ""),

		"sha256?-a":       nil, // `?` cuts ahead of `-`
		"?sha256-a":       nil,
		"sha256?":         nil,
		"?":               nil,
		"-":               nil,
		"-sha256-a":       nil,
		"-256":            nil,
		"sha256_a":        nil,
		"sha256=a":        nil,
		"sha-256-a":       nil,
		"sha2-a":          nil,
		"sha1-a":          nil,
		"sha224-a":        nil,
		"sha0256-a":       nil,
		"sha2560-a":       nil,
		"sha512/256-a":    nil,
		"sha3-256-a":      nil,
		"256-a":           nil,
		"sha-a":           nil,
		"md5-d":           nil,
		"xsha256-a":       nil,
		"'sha256-a'":      nil, // as a policy writes it, not here
		"\x0bsha256-a":    nil, // no blank
		"\u00a0sha256-a":  nil,
		"sha256\x00-a":    nil,
		"\u017fha256-a":   nil, // letters of ASCII alone
		"sha256\u2010a":   nil,
		"sha256 -a":       nil,
		"sha 256-a":       nil,
		"junk sha256-a ?": items(256, "a", ""),
	} {
		mustParse(t, s, want)
	}
}

// TestParseCutsAt: these five bytes cut, and no other.
func TestParseCutsAt(t *testing.T) {
	for c := range 256 {
		b := oneByte(c)
		want := items(256, "a"+b+"sha512-b", "")
		switch c {
		case 9, 10, 12, 13, 32:
			want = items(256, "a", "", 512, "b", "")
		case '?':
			want = items(256, "a", "sha512-b")
		}
		mustParse(t, "sha256-a"+b+"sha512-b", want)
	}
	for _, s := range []string{"\u0085", "\u00a0", "\u1680", "\u2003", "\u2028", "\u3000", "\ufeff", "\xc0\xa0", "\xe0\x80\xa0", "\x0b", "\x1c"} {
		mustParse(t, "sha256-a"+s+"b?c"+s, items(256, "a"+s+"b", "c"+s))
	}
}

var (
	cuts  = regexp.MustCompile(`[\t\n\f\r ]+`)
	shape = regexp.MustCompile(`(?s)^[sS][hH][aA](256|384|512)-([^?]*)(?:\?(.*))?$`)
)

// parseAgain: P9.1, told by patterns.
func parseAgain(s string) []integrity.Item {
	var out []integrity.Item
	for _, piece := range cuts.Split(s, -1) {
		if m := shape.FindStringSubmatch(piece); m != nil {
			bits, _ := strconv.Atoi(m[1])
			out = append(out, integrity.Item{Bits: bits, Want: m[2], Option: m[3]})
		}
	}
	return out
}

// again: Parse and its second reading answer alike; how many items.
func again(t *testing.T, s string) int {
	t.Helper()
	want := parseAgain(s)
	if got := integrity.Parse(s); !slices.Equal(got, want) {
		t.Fatalf("Parse(%q): %v, not %v", s, got, want)
	}
	return len(want)
}

// TestParseEachByte: every byte at each place of a text.
func TestParseEachByte(t *testing.T) {
	for _, s := range []string{"sha256-a?b", "SHA384-x sha512-y", "md5-a?b \tShA256-c-d?e?f"} {
		for i := range len(s) + 1 {
			for c := range 256 {
				again(t, s[:i]+oneByte(c)+s[i:])
				if i < len(s) {
					again(t, s[:i]+oneByte(c)+s[i+1:])
				}
			}
		}
	}
}

func TestParseAgain(t *testing.T) {
	r := rand.New(rand.NewSource(91))
	parts := []string{"sha256-", "sha384-", "SHA512-", "Sha256-a", " sha512-", "sha384", "sha", "md5-", "256", "-", "?", "?", " ", " ", " ", "\t", "\n", "\f", "\r", "\x0b", "a", "é", "\xff", "\x00", "\u2003"}
	n := 0
	for range 200000 {
		n += again(t, someText(r, parts, 10))
	}
	if n < 50000 {
		t.Errorf("too few: %d", n)
	}
}

func TestStrongest(t *testing.T) {
	for _, c := range []struct{ l, want []integrity.Item }{
		{nil, nil},
		{items(256, "a", "b"), items(256, "a", "b")},
		{items(256, "a", "", 512, "b", "", 384, "c", "", 512, "d", "e"), items(512, "b", "", 512, "d", "e")},
		{items(512, "a", "", 384, "b", "", 256, "c", ""), items(512, "a", "")},
		{items(256, "a", "", 384, "b", "", 512, "c", ""), items(512, "c", "")},
		{items(384, "b", "", 256, "a", "", 384, "a", ""), items(384, "b", "", 384, "a", "")}, // in their order
		{items(384, "a", "", 384, "a", ""), items(384, "a", "", 384, "a", "")},               // twice if twice
		{items(256, "", "", 256, "", ""), items(256, "", "", 256, "", "")},
		{items(0, "a", ""), items(0, "a", "")}, // Bits that Parse doesn't tell
		{items(-5, "a", "", -1, "b", "", -3, "c", "", -1, "d", ""), items(-1, "b", "", -1, "d", "")},
		{items(0, "a", "", -1, "b", ""), items(0, "a", "")},
		{items(513, "a", "", 512, "b", ""), items(513, "a", "")},
		{items(math.MinInt, "a", "", math.MinInt, "b", ""), items(math.MinInt, "a", "", math.MinInt, "b", "")},
		{items(math.MinInt, "a", "", math.MaxInt, "b", "", 512, "c", ""), items(math.MaxInt, "b", "")},
	} {
		if got := integrity.Strongest(c.l); !slices.Equal(got, c.want) {
			t.Errorf("Strongest(%v): %v, not %v", c.l, got, c.want)
		}
	}
}

// strongestAgain: P9.1, by sorting.
func strongestAgain(l []integrity.Item) []integrity.Item {
	l = slices.Clone(l)
	slices.SortStableFunc(l, func(a, b integrity.Item) int {
		if a.Bits > b.Bits {
			return -1
		}
		if a.Bits < b.Bits {
			return 1
		}
		return 0
	})
	for i, x := range l {
		if x.Bits != l[0].Bits {
			return l[:i]
		}
	}
	return l
}

func TestStrongestAgain(t *testing.T) {
	r := rand.New(rand.NewSource(92))
	bits := []int{256, 384, 512, 256, 384, 512, 0, -1, 1, math.MinInt, math.MaxInt}
	for range 20000 {
		l := make([]integrity.Item, r.Intn(12))
		for i := range l {
			l[i] = integrity.Item{Bits: bits[r.Intn(1+r.Intn(len(bits)))], Want: strconv.Itoa(i), Option: strconv.Itoa(r.Intn(3))}
		}
		if got := integrity.Strongest(l); !slices.Equal(got, strongestAgain(l)) {
			t.Fatalf("Strongest(%v): %v", l, got)
		}
	}
}

// TestWrittenAgain: W2: what was parsed, written and parsed again is the same.
func TestWrittenAgain(t *testing.T) {
	r := rand.New(rand.NewSource(93))
	parts := []string{"sha256-", "SHA384-", "sha512-", "a", "?", "-", " ", "\n", "é", "\xff", "md5-"}
	for range 20000 {
		l := integrity.Parse(someText(r, parts, 9))
		var s string
		for _, x := range l {
			s += " sha" + strconv.Itoa(x.Bits) + "-" + x.Want + "?" + x.Option
		}
		mustParse(t, s, l)
	}
}

// P9.2

func TestHolds(t *testing.T) {
	const x = "x"
	mustHold(t, "", x, true)
	mustHold(t, "md5-x", x, true)
	mustHold(t, "sha256-", x, false)
	for _, s := range []string{" ", "sha256", "sha1-x sha224-y", "?sha256-a", "sha256?-a", "junk", "\xff", "-"} {
		mustHold(t, s, x, true)
		mustHold(t, s, "", true)
	}
	for _, s := range []string{"sha256-", "sha384-", "sha512-", "sha256-?x", "sha256-=", "sha256-==", "sha256-====", "sha512-YQ==", "md5-x sha256-", "sha256-eA", "sha256-eA=="} {
		mustHold(t, s, x, false)
		mustHold(t, s, "", false)
	}
}

// known: digests that are known elsewhere, and what they are of.
var known = []struct {
	bits       int
	body, text string
}{
	{256, "", "sha256-47DEQpj8HBSa+/TImW+5JCeuQeRkm5NMpJWZG3hSuFU="},
	{256, "abc", "sha256-ungWv48Bz+pBQUDeXa4iI7ADYaOWF3qctBD/YfIAFa0="},
	{384, "", "sha384-OLBgp1GsljhM2TJ+sbHjaiH9txEUvgdDTAzHv2P24donTt6/529l+9Ua0vFImLlb"},
	{384, "alert('Hello, world.');", "sha384-H8BRh8j48O9oYatfu5AZzq6A9RINhZO5H16dQZngK7T62em8MUt1FLm52t+eX6xO"},
	{512, "abc", "sha512-3a81oZNherrMQXNJriBBMRLm+k6JqX6iCp7u5ktV05ohkpkqJ0/BqDa6PCOj/uu9RU1EI2Q86A4qmslPpUyknw=="},
}

func TestHoldsKnown(t *testing.T) {
	for _, c := range known {
		mustHold(t, c.text, c.body, true)
		mustHold(t, c.text+"?ct=a/b", c.body, true)
		mustHold(t, c.text, c.body+"\x00", false)
	}
}

// TestHoldsShapes: how one right digest may be written, and how not.
func TestHoldsShapes(t *testing.T) {
	const body = "a body\x00\xff"
	for _, bits := range sizes {
		s := asked(bits, body)
		bare := strings.TrimRight(s, "=")
		name, digits, _ := strings.Cut(bare, "-")
		for _, fine := range []string{s, s + "?", s + "?x", s + "?x?-y", bare, bare + "?=", strings.ToUpper(name) + "-" + digits, " \t" + s + "\n\f\r", s + " junk", "md5-x " + s, s + " " + s} {
			mustHold(t, fine, body, true)
			mustHold(t, fine, body+"x", false)
			mustHold(t, fine, "", false)
			mustHold(t, fine, strings.ToUpper(body), false)
		}
		for _, wrong := range []string{bare[:len(bare)-1], bare + "A", bare + "AAAA", bare + "=====", bare + "-", bare + "é", bare + "\x0b", bare + "\x00", s + "=", name + "-" + digits[4:], name + "--" + digits, name + "-" + digits[:4] + " " + digits[4:], name + "-?" + digits, name + "-=" + digits, name + "-" + strings.ToLower(digits), name + "-%" + digits, bare[:len(bare)-4] + "\xff\xff\xff\xff"} {
			mustHold(t, wrong, body, false)
		}
		for _, other := range sizes {
			if other != bits {
				mustHold(t, strings.Replace(s, strconv.Itoa(bits), strconv.Itoa(other), 1), body, false)
			}
		}
	}
}

// TestHoldsSpareBits: digits may carry bits beyond the last byte, which nobody looks at; 384 bits leave none.
func TestHoldsSpareBits(t *testing.T) {
	const digits = "ABCDEFGHIJKLMNOPQRSTUVWXYZabcdefghijklmnopqrstuvwxyz0123456789+/"
	for bits, beyond := range map[int]int{256: 4, 384: 1, 512: 16} {
		s := strings.TrimRight(asked(bits, "b"), "=")
		holds := 0
		for _, d := range strings.Split(digits, "") {
			if integrity.Holds(s[:len(s)-1]+d, []byte("b")) {
				holds++
			}
		}
		if holds != beyond {
			t.Errorf("sha%d holds by %d last digits, not %d", bits, holds, beyond)
		}
	}
}

// TestHoldsEachBit: one bit that is not as it should be, wherever it is.
func TestHoldsEachBit(t *testing.T) {
	for _, bits := range sizes {
		right := sum(bits, []byte("b"))
		for i := range bits {
			wrong := slices.Clone(right)
			wrong[i/8] ^= 1 << (i % 8)
			mustHold(t, "sha"+strconv.Itoa(bits)+"-"+base64.StdEncoding.EncodeToString(wrong), "b", false)
		}
		for n := range right {
			mustHold(t, "sha"+strconv.Itoa(bits)+"-"+base64.StdEncoding.EncodeToString(right[:n]), "b", false)
			mustHold(t, "sha"+strconv.Itoa(bits)+"-"+base64.StdEncoding.EncodeToString(append(slices.Clone(right), right[:n+1]...)), "b", false)
		}
	}
}

// TestHoldsTwo: of two of one strength either holds; of two of unlike strength the stronger one alone is asked.
func TestHoldsTwo(t *testing.T) {
	const right, wrong = "right", "wrong"
	for _, one := range sizes {
		for _, two := range sizes {
			for _, c := range []struct{ a, b string }{{right, right}, {right, wrong}, {wrong, right}, {wrong, wrong}} {
				want := one >= two && c.a == right || two >= one && c.b == right
				mustHold(t, asked(one, c.a)+" "+asked(two, c.b), right, want)
				mustHold(t, asked(two, c.b)+"\n"+asked(one, c.a), right, want)
			}
		}
	}
	mustHold(t, asked(256, right)+" sha384-x", right, false) // the strongest one is no Base64
	mustHold(t, asked(256, right)+" sha512-", right, false)
	mustHold(t, asked(384, right)+" sha512-é "+asked(256, right), right, false)
	mustHold(t, "sha512-é "+asked(512, right)+" sha512-", right, true)
	mustHold(t, asked(256, right)+" sha1024-x", right, true) // a stronger one that nobody knows
	mustHold(t, asked(256, right)+" sha512", right, true)
	mustHold(t, asked(256, right)+" ?"+asked(512, wrong), right, true)
	mustHold(t, asked(256, right)+"?"+asked(512, wrong), right, true)
}

// decode: forgiving, by the library's reader, which is stricter, and so is handed what is whole. (A Want has no blanks.)
func decode(s string) ([]byte, bool) {
	if len(s)%4 == 0 {
		s = strings.TrimSuffix(strings.TrimSuffix(s, "="), "=")
	}
	b, err := base64.RawStdEncoding.DecodeString(s)
	return b, err == nil
}

// holdsAgain: P9.2 by the second readings.
func holdsAgain(s string, body []byte) bool {
	l := strongestAgain(parseAgain(s))
	for _, x := range l {
		if b, ok := decode(x.Want); ok && string(b) == string(sum(x.Bits, body)) {
			return true
		}
	}
	return len(l) == 0
}

func TestHoldsAgain(t *testing.T) {
	r := rand.New(rand.NewSource(94))
	var parts []string
	for _, bits := range sizes {
		for _, body := range []string{"", "a", "b"} {
			s := asked(bits, body)
			parts = append(parts, s, strings.TrimRight(s, "="), s+"?o", strings.Replace(s, "sha", "SHA", 1))
		}
	}
	parts = append(parts, " ", " ", " ", " ", " ", "\t", "\n", " ", " ", "sha512-", "sha256-", "sha384-x", "md5-x", "?", "=", "x", "é")
	told := [2]int{}
	for range 60000 {
		s := someText(r, parts, 7)
		body := []byte([]string{"", "a", "b", "c"}[r.Intn(4)])
		want := holdsAgain(s, body)
		if integrity.Holds(s, body) != want {
			t.Fatalf("Holds(%q, %q): %v", s, body, !want)
		}
		if want && len(integrity.Parse(s)) > 0 {
			told[0]++
		} else if !want {
			told[1]++
		}
	}
	if told[0] < 5000 || told[1] < 5000 {
		t.Errorf("too few: %d", told)
	}
}

// P9.3

func TestMake(t *testing.T) {
	for _, c := range known {
		if s, why := integrity.Make(c.bits, []byte(c.body)); s != c.text || why != api.OK {
			t.Errorf("Make(%d, %q): %s, %v", c.bits, c.body, s, why)
		}
	}
	r := rand.New(rand.NewSource(95))
	for n := range 400 {
		b := make([]byte, n)
		r.Read(b)
		for _, bits := range sizes {
			if s, why := integrity.Make(bits, b); s != asked(bits, string(b)) || why != api.OK {
				t.Fatalf("Make(%d, %x): %s, %v", bits, b, s, why)
			}
		}
	}
}

func TestMakeRefuses(t *testing.T) {
	refused := []int{math.MinInt, math.MinInt + 256, math.MaxInt, 1<<32 + 256, 1<<16 + 512, -1 << 62}
	for n := -1100; n <= 1100; n++ {
		if !slices.Contains(sizes, n) {
			refused = append(refused, n)
		}
	}
	for _, bits := range refused {
		for _, body := range [][]byte{nil, []byte("x")} {
			if s, why := integrity.Make(bits, body); s != "" || why != api.ErrArg {
				t.Fatalf("Make(%d, %q): %q, %v", bits, body, s, why)
			}
		}
	}
}

// P9.4

func TestHoldsOfMake(t *testing.T) {
	r := rand.New(rand.NewSource(96))
	for n := range 300 {
		body := make([]byte, n)
		r.Read(body)
		other := append(slices.Clone(body), 'x')
		for i, bits := range sizes {
			s, _ := integrity.Make(bits, body)
			mustHold(t, s, string(body), true)
			mustHold(t, s, string(other), false)
			if n > 0 {
				near := slices.Clone(body)
				near[r.Intn(n)] ^= 1
				mustHold(t, s, string(near), false)
			}
			if l := integrity.Parse(s); len(l) != 1 || l[0].Bits != bits || l[0].Option != "" {
				t.Errorf("Parse(%q): %v", s, l)
			}
			for _, weak := range sizes[:i] {
				for _, b := range [][]byte{body, other, nil} {
					w, _ := integrity.Make(weak, b)
					mustHold(t, s+" "+w, string(body), true)
					mustHold(t, w+" "+s, string(body), true)
					mustHold(t, w+" "+s+" "+w, string(other), false)
				}
			}
		}
	}
}
