package age_test

import (
	"math/big"
	"math/rand"
	"regexp"
	"slices"
	"sort"
	"strings"
	"testing"

	"ostiary/age"
	"ostiary/api"
)

// A second reading of the promises, by patterns and by numbers without an end.

func some(r *rand.Rand, of ...string) string { return of[r.Intn(len(of))] }

// someText: words put behind one another.
func someText(r *rand.Rand, count int, of ...string) string {
	var b strings.Builder
	for range r.Intn(count) {
		b.WriteString(some(r, of...))
	}
	return b.String()
}

// someList: headers of that name, in letters of either size, and others.
func someList(r *rand.Rand, name string, value func() string) []api.Header {
	var l []api.Header
	for range r.Intn(4) {
		l = append(l, api.Header{Name: some(r, name, name, strings.ToUpper(name), strings.ToUpper(name[:1])+name[1:], "x", "x"+name), Value: value()})
	}
	return l
}

// values: what the headers of that name say, parted by `, `.
func values(l []api.Header, name string) string {
	var out []string
	for _, h := range l {
		if strings.EqualFold(h.Name, name) {
			out = append(out, h.Value)
		}
	}
	return strings.Join(out, ", ")
}

// piece: what stands in quotes or not, up to a comma.
var piece = regexp.MustCompile(`(?s)((?:"(?:[^"\\]|\\.)*(?:"|\\?$)|[^",])*)(?:,|$)`)

// pieces: an empty one more at the end, or one less, says the same.
func pieces(l []api.Header, name string) []string {
	var out []string
	for _, m := range piece.FindAllStringSubmatch(values(l, name), -1) {
		out = append(out, strings.Trim(m[1], "\t "))
	}
	return out
}

var (
	noStore = regexp.MustCompile(`^(?i)[\t\n\f\r ]*no-store[\t\n\f\r ]*(?:=|$)`)
	noCache = regexp.MustCompile(`^(?i)[\t\n\f\r ]*no-cache[\t\n\f\r ]*(?:=|$)`)
	maxAge  = regexp.MustCompile(`^(?i)[\t\n\f\r ]*max-age[\t\n\f\r ]*=[\t\n\f\r ]*(?:"([0-9]+)"|([0-9]+))[\t\n\f\r ]*$`)
	whole   = regexp.MustCompile(`^[\t\n\f\r ]*([0-9]+)[\t\n\f\r ]*$`)
)

// held: a number brought between 0 and 2^63 - 1.
func held(n *big.Int) int64 {
	if n.Sign() < 0 {
		return 0
	}
	if !n.IsInt64() {
		return most
	}
	return n.Int64()
}

func digits(s string) int64 {
	n, _ := new(big.Int).SetString(s, 10)
	return held(n)
}

func controlAgain(l []api.Header) age.Control {
	out := age.Control{Max: -1}
	for _, p := range pieces(l, control) {
		out.NoStore = out.NoStore || noStore.MatchString(p)
		out.NoCache = out.NoCache || noCache.MatchString(p)
		if m := maxAge.FindStringSubmatch(p); m != nil && out.Max == -1 {
			out.Max = digits(m[1] + m[2])
		}
	}
	return out
}

func ageAgain(l []api.Header, stored, now int64) int64 {
	sum := new(big.Int)
	if m := whole.FindStringSubmatch(values(l, "age")); m != nil {
		sum.SetInt64(digits(m[1]))
	}
	gone := new(big.Int).Sub(big.NewInt(now), big.NewInt(stored))
	return held(sum.Add(sum, big.NewInt(held(gone))))
}

func someControl(r *rand.Rand) string {
	one := func() string {
		name := some(r, "no-store", "no-cache", "max-age", "max-age", "MAX-AGE", "No-Cache", "nO-sTORE", "x", "")
		value := some(r, "5", "0", "12", "x", "", `"5"`, `"7`, `7"`, `" 5"`, `"a, b"`, `"\"", 3`, "99999999999999999999", "-1", "5=5")
		blank := func() string { return some(r, "", "", "", " ", "\t", "\n", "\f\r") }
		return blank() + name + blank() + some(r, "=", "=", "=", "", "==") + blank() + value + blank()
	}
	var l []string
	for range r.Intn(4) {
		l = append(l, one())
	}
	if r.Intn(8) == 0 {
		return someText(r, 12, "no-store", "no-cache", "max-age", "=", ",", `"`, `\`, "5", " ", "\n", "x", "\xff")
	}
	return strings.Join(l, some(r, ",", ", ", " ,", ";"))
}

func TestParseAgain(t *testing.T) {
	r := rand.New(rand.NewSource(161))
	seen := map[string]int{}
	for range 100000 {
		l := someList(r, control, func() string { return someControl(r) })
		want := controlAgain(l)
		if got := age.Parse(l); got != want {
			t.Fatalf("Parse(%q): %+v, not %+v", l, got, want)
		}
		for name, is := range map[string]bool{"no-store": want.NoStore, "no-cache": want.NoCache, "none": want.Max < 0, "0": want.Max == 0, "above": want.Max > 0, "most": want.Max == most} {
			if is {
				seen[name]++
			}
		}
	}
	for _, name := range []string{"no-store", "no-cache", "none", "0", "above", "most"} {
		if seen[name] < 1000 {
			t.Errorf("too few: %v", seen)
		}
	}
}

// someTime: near to the ends of the clock, to 0, or anywhere.
func someTime(r *rand.Rand) int64 {
	switch r.Intn(4) {
	case 0:
		return most - r.Int63n(9)
	case 1:
		return least + r.Int63n(9)
	case 2:
		return r.Int63n(19) - 9
	}
	return int64(r.Uint64())
}

func TestAddAgain(t *testing.T) {
	r := rand.New(rand.NewSource(162))
	for range 100000 {
		a, b := someTime(r), someTime(r)
		want := held(new(big.Int).Add(big.NewInt(a), big.NewInt(b)))
		if got := age.Add(a, b); got != want {
			t.Fatalf("Add(%d, %d): %d, not %d", a, b, got, want)
		}
	}
}

func TestAgeAndFreshAgain(t *testing.T) {
	r := rand.New(rand.NewSource(163))
	seen := [2]int{}
	for range 100000 {
		l := someList(r, "age", func() string {
			return some(r, "", " ", "\n") + some(r, "0", "3", "3", "7", "x", "", "-1", "99999999999999999999", "9223372036854775803", "1,2") + some(r, "", " ", "\f")
		})
		l = append(l, someList(r, control, func() string { return some(r, someControl(r), "max-age=5", "max-age=9223372036854775807") })...)
		stored, now := someTime(r), someTime(r)
		if r.Intn(2) == 0 {
			now = stored + r.Int63n(15) - 5
		}
		want := ageAgain(l, stored, now)
		if got := age.Age(l, stored, now); got != want {
			t.Fatalf("Age(%q, %d, %d): %d, not %d", l, stored, now, got, want)
		}
		c := controlAgain(l)
		fresh := !c.NoCache && c.Max > want
		if got := age.Fresh(l, stored, now); got != fresh {
			t.Fatalf("Fresh(%q, %d, %d): %v", l, stored, now, got)
		}
		if fresh {
			seen[1]++
		} else {
			seen[0]++
		}
		if before := now - r.Int63n(10); fresh && before <= now && !age.Fresh(l, stored, before) {
			t.Fatalf("Fresh(%q, %d, %d), but not at %d", l, stored, now, before)
		}
	}
	if slices.Min(seen[:]) < 10000 {
		t.Errorf("too few: %v", seen)
	}
}

// small: letters of ASCII alone.
func small(s string) string {
	b := []byte(s)
	for i, c := range b {
		if 'A' <= c && c <= 'Z' {
			b[i] = c + 32
		}
	}
	return string(b)
}

func TestVaryAgain(t *testing.T) {
	r := rand.New(rand.NewSource(164))
	seen := [2]int{}
	for range 100000 {
		l := someList(r, "vary", func() string {
			return someText(r, 8, "a", "B", "b", "Accept", "accept", "-", "*", ",*,", ",", ",", ", ", " ", "\t", "\n", `"`, `\`, "É", "\xff")
		})
		found := map[string]bool{}
		for _, p := range pieces(l, "vary") {
			found[small(p)] = true
		}
		delete(found, "")
		star := found["*"]
		var want []string
		for name := range found {
			want = append(want, name)
		}
		sort.Strings(want)
		if star {
			want = nil
		}
		got, ok := age.Vary(l)
		if !slices.Equal(got, want) || ok == star {
			t.Fatalf("Vary(%q): %q, %v, not %q", l, got, ok, want)
		}
		if star {
			seen[0]++
		} else if len(want) > 1 {
			seen[1]++
		}
	}
	if slices.Min(seen[:]) < 5000 {
		t.Errorf("too few: %v", seen)
	}
}
