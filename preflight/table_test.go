package preflight_test

import (
	"math"
	"strconv"
	"strings"
	"testing"

	"ostiary/api"
	"ostiary/preflight"
)

const end = math.MaxInt64

// grant: of methods and names, each parted by blanks.
func grant(methods, names string, age int64) preflight.Grant {
	return preflight.Grant{Methods: strings.Fields(methods), Names: strings.Fields(names), Age: age}
}

// all: likewise, of all names.
func all(methods, names string, age int64) preflight.Grant {
	g := grant(methods, names, age)
	g.All = true
	return g
}

// allows: at s and u, without credentials.
func allows(t *preflight.Table, method, unsafe string, now int64) bool {
	return t.Allows("s", "u", false, method, strings.Fields(unsafe), now)
}

// there: which of these methods (in large letters) and names have a row at s and u, without credentials, that holds.
func there(t *preflight.Table, words string, now int64) string {
	var out []string
	for _, word := range strings.Fields(words) {
		is := allows(t, "GET", word, now)
		if strings.ToUpper(word) == word && word != "*" {
			is = allows(t, word, "", now)
		}
		if is {
			out = append(out, word)
		}
	}
	return strings.Join(out, " ")
}

func mustThere(t *testing.T, table *preflight.Table, words string, now int64, want string) {
	t.Helper()
	if got := there(table, words, now); got != want {
		t.Errorf("of %q at %d there are %q, not %q", words, now, got, want)
	}
}

func mustLen(t *testing.T, table *preflight.Table, now int64, want int) {
	t.Helper()
	if got := table.Len(now); got != want {
		t.Errorf("Len(%d): %d, not %d", now, got, want)
	}
}

// P19.3

func TestPutUntil(t *testing.T) {
	for _, c := range []struct{ now, age, until int64 }{
		{0, 1, 1}, {10, 5, 15}, {0, 7200, 7200}, {-20, 5, -15}, {-3, 5, 2}, {math.MinInt64, 1, math.MinInt64 + 1}, {math.MinInt64, end, -1},
		{end - 1, 1, end}, {end - 5, 5, end}, {end - 5, 6, end}, {end - 1, 2, end}, {end, 1, end}, {end, end, end}, {1, end, end}, {0, end, end}, {end - 7199, 7200, end}, {-1, end, end - 1},
		{10, -3, 7}, {math.MinInt64, -1, math.MinInt64}, {math.MinInt64, math.MinInt64, math.MinInt64}, {-1, math.MinInt64, math.MinInt64}, {0, math.MinInt64, math.MinInt64},
	} {
		table := preflight.New()
		table.Put("s", "u", false, all("PUT", "a", c.age), c.now)
		for _, at := range []int64{math.MinInt64, c.until - 1, c.until, c.until + 1, c.now, 0, end - 1, end} {
			rows, words := 0, ""
			if at < c.until {
				rows, words = 3, "PUT a * b"
			}
			mustLen(t, table, at, rows)
			mustThere(t, table, "PUT a * b", at, words)
		}
	}
}

func TestPutKinds(t *testing.T) {
	table := preflight.New()
	mustLen(t, table, math.MinInt64, 0)
	mustLen(t, table, 0, 0)
	table.Put("s", "u", false, preflight.Grant{Age: 9}, 0)
	mustLen(t, table, 0, 0)
	table.Put("s", "u", false, grant("PUT a", "PUT b", 9), 0)
	mustLen(t, table, 0, 4)
	for _, c := range []struct {
		method, unsafe string
		want           bool
	}{
		{"PUT", "", true}, {"a", "", true}, {"b", "", false}, {"put", "", false}, {"A", "", false},
		{"GET", "b", true}, {"GET", "PUT", true}, {"GET", "put", true}, {"GET", "a", false}, {"GET", "B", true},
		{"a", "b put", true}, {"a", "b a", false}, {"*", "", false}, {"GET", "*", false},
	} {
		if allows(table, c.method, c.unsafe, 8) != c.want {
			t.Errorf("%q, %q: %v", c.method, c.unsafe, !c.want)
		}
		if allows(table, c.method, c.unsafe, 9) {
			t.Errorf("%q, %q: its time is over", c.method, c.unsafe)
		}
	}
}

func TestPutAll(t *testing.T) {
	table := preflight.New()
	table.Put("s", "u", false, all("", "", 9), 0)
	mustLen(t, table, 8, 1)
	mustThere(t, table, "PUT a * authorization", 8, "a *")
	table.Put("s", "u", false, all("", "* b", 9), 0) // the star is there already, and is there twice in this one
	mustLen(t, table, 8, 2)
	mustThere(t, table, "PUT a * b authorization", 8, "a * b")
	table = preflight.New()
	table.Put("s", "u", false, grant("", "*", 9), 0) // a name like others, and yet the same row
	mustLen(t, table, 8, 1)
	mustThere(t, table, "PUT a * authorization", 8, "a *")
	table = preflight.New()
	table.Put("s", "u", false, grant("*", "", 9), 0) // of methods, not of names
	mustLen(t, table, 8, 1)
	mustThere(t, table, "PUT DELETE a *", 8, "PUT DELETE")
}

// TestPutAgain: a row that is there is taken out, whether the new one is over sooner or later.
func TestPutAgain(t *testing.T) {
	table := preflight.New()
	table.Put("s", "u", false, grant("PUT", "a b", 9), 0)
	table.Put("s", "u", false, grant("", "a", 3), 2)
	mustLen(t, table, 4, 3)
	mustThere(t, table, "PUT a b", 4, "PUT a b")
	mustThere(t, table, "PUT a b", 5, "PUT b")
	mustLen(t, table, 5, 2)
	table.Put("s", "u", false, grant("PUT PUT", "B b B", 9), 5)
	mustLen(t, table, 5, 2)
	mustThere(t, table, "PUT a b", 13, "PUT b")
	mustLen(t, table, 14, 0)
	mustLen(t, table, 0, 3)
	table.Put("s", "v", false, grant("PUT", "a", 1), 0)
	table.Put("z", "u", false, grant("PUT", "a", 1), 0)
	table.Put("s", "u", true, grant("PUT", "a", 1), 0)
	mustLen(t, table, 0, 9)
	mustLen(t, table, 1, 3)
}

// TestPutAgeZero: there is no new row, and the old one is gone.
func TestPutAgeZero(t *testing.T) {
	table := preflight.New()
	table.Put("s", "u", false, all("PUT DELETE", "a b", 9), 0)
	mustLen(t, table, 0, 5)
	table.Put("s", "u", false, grant("PUT", "A c", 0), 8)
	mustLen(t, table, 0, 3)
	mustThere(t, table, "PUT DELETE b c a", 0, "DELETE b c a")
	table.Put("s", "u", false, all("", "", 0), 0)
	mustLen(t, table, 0, 2)
	mustThere(t, table, "PUT DELETE b c a", 0, "DELETE b")
	table.Put("s", "u", true, grant("DELETE", "b", 0), 0)
	table.Put("z", "u", false, grant("DELETE", "b", 0), 0)
	table.Put("s", "v", false, grant("DELETE", "b", 0), 0)
	table.Put("s", "u", false, grant("b", "DELETE", 0), 0)
	mustLen(t, table, 0, 2)
	table.Put("s", "u", false, grant("DELETE", "b", 0), 0)
	mustLen(t, table, math.MinInt64, 0)
}

// numbered: words of a letter and numbers from one to another.
func numbered(letter string, from, to int) string {
	var out []string
	for n := from; n < to; n++ {
		out = append(out, letter+strconv.Itoa(n))
	}
	return strings.Join(out, " ")
}

// TestPutFull: the first row goes, in one Put and in several.
func TestPutFull(t *testing.T) {
	const full = api.MaxAllowed
	for many := 1; many < 3*full; many++ {
		together, apart := preflight.New(), preflight.New()
		together.Put("s", "u", false, grant("", numbered("a", 0, many), 9), 0)
		for _, name := range strings.Fields(numbered("a", 0, many)) {
			apart.Put("s", "u", false, grant("", name, 9), 0)
		}
		for _, table := range []*preflight.Table{together, apart} {
			mustLen(t, table, 0, min(many, full))
			mustThere(t, table, numbered("a", 0, many), 0, numbered("a", max(many-full, 0), many))
		}
	}
}

// TestPutFullOrder: methods, then names, then the star.
func TestPutFullOrder(t *testing.T) {
	const full = api.MaxAllowed
	table := preflight.New()
	table.Put("s", "u", false, all("M0 M1", numbered("n", 0, full-3), 9), 0)
	words := "M0 M1 " + numbered("n", 0, full-3)
	mustLen(t, table, 0, full)
	table.Put("s", "u", false, grant("X", "", 9), 0)
	mustThere(t, table, "X "+words, 0, "X M1 "+numbered("n", 0, full-3)) // the star allows all names yet
	mustLen(t, table, 0, full)
	table.Put("s", "u", false, grant(strings.ToUpper(numbered("y", 0, full-2)), "", 9), 0)
	mustThere(t, table, "M0 M1 X a n0 *", 0, "X a n0 *") // the star is the first one now
	table.Put("s", "u", false, grant("Z", "", 9), 0)
	mustThere(t, table, "M0 M1 X a n0 * Z", 0, "X Z")
	mustLen(t, table, 0, full)
	table = preflight.New()
	table.Put("s", "u", false, all("B A", "d c", 9), 0)
	table.Put("s", "u", false, grant("", numbered("n", 0, full-4), 9), 0)
	mustThere(t, table, "B A", 0, "A") // in the order of the Grant, not of bytes
	table.Put("s", "u", false, grant("", "a7", 9), 0)
	mustThere(t, table, "B A", 0, "")
	table.Put("t", "u", false, grant("", "a8 a9 a10", 9), 0)
	mustThere(t, table, "d c a7 n0 *", 0, "a7 n0") // d, c and the star went
	mustLen(t, table, 0, full)
}

// TestPutFullStar: of more rows than may be the star is put first as a name, and put again behind all.
func TestPutFullStar(t *testing.T) {
	const full = api.MaxAllowed
	table := preflight.New()
	table.Put("s", "u", false, all("", "* "+numbered("n", 0, full), 9), 0)
	mustLen(t, table, 0, full)
	mustThere(t, table, "* a", 0, "* a")
	table.Put("s", "u", false, grant("", "*", 0), 0)
	mustLen(t, table, 0, full-1)
	mustThere(t, table, numbered("n", 0, full), 0, numbered("n", 1, full))
}

// TestPutFullAgain: a row that is put again makes no other go, and is the last one.
func TestPutFullAgain(t *testing.T) {
	const full = api.MaxAllowed
	table := preflight.New()
	table.Put("s", "u", false, grant("", numbered("n", 0, full), 9), 0)
	table.Put("s", "u", false, grant("", "N0", 9), 0)
	mustThere(t, table, numbered("n", 0, full), 0, numbered("n", 0, full))
	table.Put("s", "u", false, grant("", "x y", 9), 0)
	mustThere(t, table, "x y "+numbered("n", 0, full), 0, "x y n0 "+numbered("n", 3, full))
	table.Put("s", "u", false, grant("", "n5", 0), 0) // makes room for one
	table.Put("s", "u", false, grant("", "z", 9), 0)
	mustThere(t, table, "x y z n0 n3 n4 n5 n6", 0, "x y z n0 n3 n4 n6")
	table.Put("s", "u", false, grant("", "z n4", 9), 0)
	mustThere(t, table, "x y z n0 n3 n4 n5 n6", 0, "x y z n0 n3 n4 n6")
	table.Put("s", "u", false, grant("", "q", 9), 0)
	mustThere(t, table, "q x y z n0 n3 n4 n5 n6", 0, "q x y z n0 n4 n6")
	mustLen(t, table, 0, full)
}

// TestPutFullOver: rows that are over are rows; the first one goes, not the one that is over.
func TestPutFullOver(t *testing.T) {
	const full = api.MaxAllowed
	table := preflight.New()
	table.Put("s", "u", false, grant("", "first", 99), 0)
	table.Put("s", "u", false, grant("", numbered("n", 1, full), 5), 0)
	mustLen(t, table, 50, 1)
	mustLen(t, table, 4, full)
	table.Put("s", "u", false, grant("", "last", 99), 50)
	mustThere(t, table, "first last", 50, "last")
	mustLen(t, table, 50, 1)
	mustLen(t, table, 4, full)
	table.Put("s", "u", false, grant("PUT", "", -1), 0) // over ahead of its time: a row too
	mustLen(t, table, 4, full-1)
	mustLen(t, table, -2, full)
	mustThere(t, table, "PUT last", -2, "PUT last")
}

// P19.4

func TestAllows(t *testing.T) {
	table := preflight.New()
	for _, simple := range []string{"GET", "HEAD", "POST"} {
		for _, now := range []int64{math.MinInt64, 0, end} {
			if !table.Allows("", "", false, simple, nil, now) || !table.Allows("s", "u", true, simple, nil, now) || table.Allows("s", "u", false, simple, []string{"a"}, now) {
				t.Errorf("an empty table, %s", simple)
			}
		}
		for _, s := range sizes(simple) {
			if allows(table, s, "", 0) != (s == simple) {
				t.Errorf("an empty table, %s", s)
			}
		}
	}
	table.Put("s", "u", false, grant("PUT get", "a b c", 5), 10)
	for _, c := range []struct {
		method, unsafe string
		want           bool
	}{
		{"PUT", "", true}, {"get", "", true}, {"PUT", "a", true}, {"PUT", "c a b", true}, {"GET", "b c", true}, {"PUT", "a a A", true}, {"PUT", "A B C", true},
		{"DELETE", "", false}, {"DELETE", "a", false}, {"Put", "", false}, {"head", "", false}, {"", "", false}, {"*", "", false},
		{"PUT", "d", false}, {"PUT", "d a b", false}, {"PUT", "a d b", false}, {"PUT", "a b d", false}, {"GET", "*", false}, {"GET", "put", false}, {"GET", "authorization", false},
	} {
		for _, now := range []int64{math.MinInt64, 0, 9, 10, 14} {
			if allows(table, c.method, c.unsafe, now) != c.want {
				t.Errorf("%q, %q at %d: %v", c.method, c.unsafe, now, !c.want)
			}
		}
		for _, now := range []int64{15, 16, end} {
			if allows(table, c.method, c.unsafe, now) {
				t.Errorf("%q, %q at %d", c.method, c.unsafe, now)
			}
		}
	}
}

// TestAllowsPlace: another origin, address or credentials.
func TestAllowsPlace(t *testing.T) {
	for _, cred := range []bool{false, true} {
		table := preflight.New()
		table.Put("s", "u", cred, all("PUT *", "a *", 9), 0)
		for _, c := range []struct {
			self, url string
			cred      bool
		}{{"s", "u", cred}, {"s", "u", !cred}, {"z", "u", cred}, {"s", "v", cred}, {"u", "s", cred}, {"", "su", cred}, {"su", "", cred}, {"S", "u", cred}, {"s", "U", cred}, {"s", "u#", cred}, {"", "", cred}} {
			want := c.self == "s" && c.url == "u" && c.cred == cred
			if table.Allows(c.self, c.url, c.cred, "PUT", nil, 8) != want || table.Allows(c.self, c.url, c.cred, "GET", []string{"a"}, 8) != want || table.Allows(c.self, c.url, c.cred, "PUT", []string{"a"}, 8) != want {
				t.Errorf("put with %v: %+v", cred, c)
			}
			if !table.Allows(c.self, c.url, c.cred, "GET", nil, 8) || table.Allows(c.self, c.url, c.cred, "PUT", []string{"a"}, 9) {
				t.Errorf("put with %v: %+v", cred, c)
			}
		}
	}
}

// TestAllowsRowsOfSeveral: the rows of one answer may have come by several Grants, and each must hold.
func TestAllowsRowsOfSeveral(t *testing.T) {
	table := preflight.New()
	table.Put("s", "u", false, grant("PUT", "", 3), 0)
	table.Put("s", "u", false, grant("", "a", 5), 0)
	table.Put("s", "u", false, grant("", "b", 9), 0)
	for now, want := range map[int64]string{2: "PUT a b", 3: "a b", 4: "a b", 5: "b", 8: "b", 9: ""} {
		mustThere(t, table, "PUT a b", now, want)
	}
	for now := range int64(10) {
		if allows(table, "PUT", "a b", now) != (now < 3) || allows(table, "GET", "a b", now) != (now < 5) || allows(table, "GET", "b", now) != (now < 9) {
			t.Errorf("at %d", now)
		}
	}
}

func TestAllowsStar(t *testing.T) {
	for _, cred := range []bool{false, true} {
		table := preflight.New()
		table.Put("s", "u", cred, all("*", "*", 9), 0)
		for _, c := range []struct {
			method          string
			unsafe          string
			without, credit bool
		}{
			{"PUT", "", true, false}, {"put", "", true, false}, {"", "", true, false}, {"authorization", "", true, false}, {"*", "", true, true},
			{"GET", "a", true, false}, {"GET", "a b \xff", true, false}, {"GET", "*", true, true}, {"*", "*", true, true}, {"*", "* a", true, false},
			{"GET", "authorization", false, false}, {"GET", "a authorization", false, false}, {"GET", "Authorization a", false, false}, {"PUT", "AUTHORIZATION", false, false},
			{"GET", "proxy-authorization authorizations", true, false},
		} {
			want := c.without && !cred || c.credit
			if table.Allows("s", "u", cred, c.method, strings.Fields(c.unsafe), 8) != want {
				t.Errorf("with %v: %+v", cred, c)
			}
			if table.Allows("s", "u", !cred, c.method, strings.Fields(c.unsafe), 8) || table.Allows("s", "u", cred, c.method, strings.Fields(c.unsafe), 9) {
				t.Errorf("with %v, elsewhere: %+v", cred, c)
			}
		}
		table.Put("s", "u", cred, grant("", "authorization", 9), 0)
		if !table.Allows("s", "u", cred, "GET", []string{"Authorization"}, 8) || table.Allows("s", "u", cred, "PUT", []string{"authorization", "a"}, 8) == cred {
			t.Errorf("with %v: authorization by its name", cred)
		}
	}
	table := preflight.New()
	table.Put("s", "u", false, grant("*", "", 9), 0)
	table.Put("s", "u", false, grant("PUT", "a", 3), 0)
	mustThere(t, table, "PUT DELETE a b", 2, "PUT DELETE a")
	mustThere(t, table, "PUT DELETE a b", 3, "PUT DELETE") // its own row is over, the star's is not
}

// TestAllowsAuthorization: in letters of any size a star does not stand for it.
func TestAllowsAuthorization(t *testing.T) {
	table, named := preflight.New(), preflight.New()
	table.Put("s", "u", false, all("", "", 9), 0)
	named.Put("s", "u", false, grant("", "AUTHORIZATION", 9), 0)
	for _, s := range sizes("authorization") {
		if allows(table, "GET", s, 0) || !allows(named, "GET", s, 0) {
			t.Error(s)
		}
	}
}

func TestDrop(t *testing.T) {
	table := preflight.New()
	table.Drop("s", "u")
	mustLen(t, table, 0, 0)
	put := func() {
		for _, self := range []string{"s", "z"} {
			for _, url := range []string{"u", "v"} {
				table.Put(self, url, false, all("PUT", "a b", 9), 0)
				table.Put(self, url, true, grant("PUT", "a", 5), 0)
			}
		}
	}
	put()
	mustLen(t, table, 0, 24)
	mustLen(t, table, 8, 16)
	for _, other := range [][2]string{{"u", "s"}, {"", ""}, {"s", ""}, {"", "u"}, {"S", "u"}, {"s", "U"}, {"s", "uv"}, {"su", ""}, {"", "su"}, {"*", "*"}} {
		table.Drop(other[0], other[1])
		mustLen(t, table, 0, 24)
	}
	table.Drop("s", "u")
	mustLen(t, table, 0, 18)
	mustLen(t, table, 8, 12)
	for _, self := range []string{"s", "z"} {
		for _, url := range []string{"u", "v"} {
			for _, cred := range []bool{false, true} {
				if table.Allows(self, url, cred, "PUT", []string{"a"}, 0) != (self+url != "su") {
					t.Errorf("%s, %s, %v", self, url, cred)
				}
			}
		}
	}
	table.Drop("s", "u")
	mustLen(t, table, 0, 18)
	table.Drop("z", "v")
	table.Drop("s", "v")
	mustLen(t, table, 0, 6)
	put()
	mustLen(t, table, 0, 24)
	table.Drop("z", "u")
	table.Drop("z", "v")
	table.Drop("s", "u")
	table.Drop("s", "v")
	mustLen(t, table, math.MinInt64, 0)
}

// TestDropMakesRoom: what is dropped counts no more, rows that are over too.
func TestDropMakesRoom(t *testing.T) {
	table := preflight.New()
	table.Put("s", "u", false, grant("", numbered("n", 0, 10), 9), 0)
	table.Put("s", "v", false, grant("", numbered("n", 0, 22), 1), 0)
	table.Drop("s", "v")
	table.Put("s", "w", true, grant("", numbered("n", 0, 22), 9), 5)
	mustLen(t, table, 5, 32)
	mustThere(t, table, numbered("n", 0, 10), 5, numbered("n", 0, 10))
	table.Put("s", "w", true, grant("", "x y", 9), 5)
	mustLen(t, table, 5, 32)
	mustThere(t, table, numbered("n", 0, 10), 5, numbered("n", 2, 10))
}

func TestLen(t *testing.T) {
	table := preflight.New()
	for n := range int64(20) {
		table.Put("s", "u"+strconv.FormatInt(n, 10), n%2 == 0, grant("PUT", "", n+1), 100)
	}
	mustLen(t, table, math.MinInt64, 20)
	mustLen(t, table, 100, 20)
	for n := range int64(30) {
		mustLen(t, table, 100+n, int(max(20-n, 0)))
	}
	mustLen(t, table, end, 0)
	mustLen(t, table, 110, 10) // asking has taken none out
}

// TestApart: two tables know nothing of each other.
func TestApart(t *testing.T) {
	one, two := preflight.New(), preflight.New()
	one.Put("s", "u", false, grant("PUT", "a", 9), 0)
	mustLen(t, two, 0, 0)
	two.Put("s", "u", false, grant("DELETE", "", 9), 0)
	two.Drop("s", "u")
	mustThere(t, one, "PUT DELETE a", 0, "PUT a")
	mustThere(t, two, "PUT DELETE a", 0, "")
}
