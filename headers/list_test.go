package headers_test

import (
	"math/rand"
	"slices"
	"sort"
	"strconv"
	"strings"
	"testing"

	"ostiary/api"
	"ostiary/headers"
)

type change func([]api.Header, string, string) ([]api.Header, api.Errno)

func both() map[string]change { return map[string]change{"Add": headers.Add, "Set": headers.Set} }

// numbered: so many headers of unlike names.
func numbered(n int) []api.Header {
	out := make([]api.Header, n)
	for i := range out {
		out[i] = api.Header{Name: "n" + strconv.Itoa(i), Value: "v"}
	}
	return out
}

// P5.2

func TestAdd(t *testing.T) {
	for _, c := range []struct {
		l           []api.Header
		name, value string
		want        []api.Header
	}{
		{nil, "a", "1", list("a", "1")},
		{[]api.Header{}, "a", "", list("a", "")},
		{list("A", "1"), "b", " 2 ", list("A", "1", "b", "2")},
		{list("a", "1"), "A", "2", list("a", "1", "A", "2")}, // beside the one that is there, as it is spelt
		{list("b", "1"), "a", "2", list("b", "1", "a", "2")},
		{list("a", "1"), "a", "1", list("a", "1", "a", "1")},
		{list("a b", "\x00"), "c", "\r\n\tx y\t\r\n", list("a b", "\x00", "c", "x y")}, // what is there is not looked at
		{nil, "X-Y_1.~", "\xff,\"", list("X-Y_1.~", "\xff,\"")},
		{nil, "cookie", "x", list("cookie", "x")},
	} {
		if got, why := headers.Add(c.l, c.name, c.value); why != api.OK || !slices.Equal(got, c.want) {
			t.Errorf("Add(%q, %q, %q): %q, %v", c.l, c.name, c.value, got, why)
		}
	}
}

func TestSet(t *testing.T) {
	for _, c := range []struct {
		l           []api.Header
		name, value string
		want        []api.Header
	}{
		{nil, "b", "9", list("b", "9")},
		{[]api.Header{}, "b", " 9\n", list("b", "9")},
		{list("a", "1"), "b", "9", list("a", "1", "b", "9")},
		{list("b", "1"), "b", "9", list("b", "9")},
		{list("B", "1"), "b", "9", list("B", "9")}, // it is the value that it gets
		{list("b", "1", "b", "2"), "b", "9", list("b", "9")},
		{list("b", "1", "B", "2", "b", "3"), "B", "9", list("b", "9")},
		{list("a", "1", "B", "2", "A", "3", "b", "4"), "b", " 9 ", list("a", "1", "B", "9", "A", "3")},
		{list("a", "1", "B", "2", "A", "3", "b", "4"), "A", "", list("a", "", "B", "2", "b", "4")},
		{list("b", "1", "a", "2"), "a", "9", list("b", "1", "a", "9")},
		{list("a b", "\x00", "c", "1", "", "2"), "C", "9", list("a b", "\x00", "c", "9", "", "2")},
		{list("Set-Cookie", "1", "set-cookie", "2"), "set-cookie", "9", list("Set-Cookie", "9")},
	} {
		if got, why := headers.Set(c.l, c.name, c.value); why != api.OK || !slices.Equal(got, c.want) {
			t.Errorf("Set(%q, %q, %q): %q, %v", c.l, c.name, c.value, got, why)
		}
	}
}

func TestRefusals(t *testing.T) {
	most := strings.Repeat("x", api.MaxText)
	long := most + "x"
	full := numbered(api.MaxHeaders)
	for call, f := range both() {
		for _, c := range []struct {
			name, value string
			free, full  api.Errno
		}{
			{"", "x", api.ErrArg, api.ErrArg},
			{"a b", "x", api.ErrArg, api.ErrArg},
			{"a:", "x", api.ErrArg, api.ErrArg},
			{" a", "x", api.ErrArg, api.ErrArg}, // a name is not stripped
			{"é", "x", api.ErrArg, api.ErrArg},
			{"a\x00", "x", api.ErrArg, api.ErrArg},
			{"a", "x\ny", api.ErrArg, api.ErrArg},
			{"a", "x\r\ny: z", api.ErrArg, api.ErrArg},
			{"a", "\x00", api.ErrArg, api.ErrArg},
			{"", "\x00", api.ErrArg, api.ErrArg},
			{"", long, api.ErrArg, api.ErrArg},
			{"a b", long, api.ErrArg, api.ErrArg},
			{long + " ", "x", api.ErrArg, api.ErrArg},
			{long, "\x00", api.ErrArg, api.ErrArg},
			{"a", long + "\n" + long, api.ErrArg, api.ErrArg},
			{"a", long, api.ErrLong, api.ErrLong},
			{long, "x", api.ErrLong, api.ErrLong},
			{long, "", api.ErrLong, api.ErrLong},
			{long, long, api.ErrLong, api.ErrLong},
			{"a", " " + long + "\n", api.ErrLong, api.ErrLong},
			{"a", most + " x", api.ErrLong, api.ErrLong},
			{"a", most, api.OK, api.ErrMany},
			{most, "x", api.OK, api.ErrMany},
			{most, most, api.OK, api.ErrMany},
			{"a", " \t\r\n" + most + " \t\r\n", api.OK, api.ErrMany}, // the Value counts
			{"a", strings.Repeat(" ", api.MaxText+1), api.OK, api.ErrMany},
			{"a", "", api.OK, api.ErrMany},
		} {
			for _, l := range [][]api.Header{nil, full[:api.MaxHeaders-1], full, numbered(api.MaxHeaders + 1)} {
				want := c.free
				if len(l) >= api.MaxHeaders {
					want = c.full
				}
				got, why := f(l, c.name, c.value)
				if why != want || why != api.OK && len(got) > 0 {
					t.Errorf("%s(%d headers, %.9q, %.9q): %d headers, %v", call, len(l), c.name, c.value, len(got), why)
				}
				if why != api.OK {
					continue
				}
				h := api.Header{Name: c.name, Value: strings.Trim(c.value, " \t\r\n")}
				if len(got) != len(l)+1 || !slices.Equal(got[:len(l)], l) || got[len(l)] != h {
					t.Errorf("%s(%d headers, %.9q, %.9q): %.80q", call, len(l), c.name, c.value, got)
				}
			}
		}
	}
}

// TestSetInFull: a list that is full, or more than that, has room for what has a place in it already.
func TestSetInFull(t *testing.T) {
	for _, n := range []int{1, api.MaxHeaders - 1, api.MaxHeaders, api.MaxHeaders + 1, 1000} {
		l := numbered(n)
		for _, at := range []int{0, n / 2, n - 1} {
			want := slices.Clone(l)
			want[at].Value = "w"
			if got, why := headers.Set(l, strings.ToUpper(l[at].Name), "w"); why != api.OK || !slices.Equal(got, want) {
				t.Errorf("Set of the header %d of %d: %v", at, n, why)
			}
		}
		for value, want := range map[string]api.Errno{"x\ny": api.ErrArg, strings.Repeat("x", api.MaxText+1): api.ErrLong} {
			if got, why := headers.Set(l, "N0", value); why != want || len(got) > 0 {
				t.Errorf("Set(%d headers, %.9q): %v", n, value, why)
			}
		}
	}
	twice := append(numbered(api.MaxHeaders-1), api.Header{Name: "N3", Value: "u"})
	got, why := headers.Set(twice, "n3", "w")
	if why != api.OK || len(got) != api.MaxHeaders-1 || got[3] != (api.Header{Name: "n3", Value: "w"}) {
		t.Errorf("Set of a name that is there twice: %q, %v", got, why)
	}
	if _, why := headers.Add(twice, "n3", "w"); why != api.ErrMany {
		t.Errorf("Add of a name that is there: %v", why)
	}
}

// TestSetOfNoToken: a list that was made elsewhere may have such a name; it is refused none the less.
func TestSetOfNoToken(t *testing.T) {
	for _, name := range []string{"", "a b", "é"} {
		if got, why := headers.Set(list(name, "1"), name, "2"); why != api.ErrArg || len(got) > 0 {
			t.Errorf("Set of %q: %q, %v", name, got, why)
		}
	}
}

func TestDrop(t *testing.T) {
	for _, c := range []struct {
		l    []api.Header
		name string
		want []api.Header
	}{
		{nil, "x", nil},
		{nil, "", nil},
		{[]api.Header{}, "x", nil},
		{list("a", "1", "B", "2", "A", "3"), "A", list("B", "2")},
		{list("a", "1", "B", "2", "A", "3"), "b", list("a", "1", "A", "3")},
		{list("a", "1", "B", "2", "A", "3"), "c", list("a", "1", "B", "2", "A", "3")},
		{list("a", "1", "A", "2"), "a", nil},
		{list("", "1", "a", "2"), "", list("a", "2")},
		{list("\u212a", "1"), "k", list("\u212a", "1")},
		{list("a", "1", "ab", "2", "b", "3"), "a", list("ab", "2", "b", "3")},
		{list("a b", "\x00", "c", "1"), "A B", list("c", "1")}, // no Token is asked for
		{numbered(100), "n99", numbered(99)},
	} {
		if got := headers.Drop(c.l, c.name); !slices.Equal(got, c.want) {
			t.Errorf("Drop(%q, %q): %q", c.l, c.name, got)
		}
	}
}

// TestListsAgain: Add, Set and Drop of any lists, held against a second reading.
func TestListsAgain(t *testing.T) {
	r := rand.New(rand.NewSource(54))
	for range 30000 {
		l := someList(r, 8)
		name := some(r, []string{"a", "A", "ab", "set-COOKIE", "x-y", "none"})
		var without, set []api.Header
		had := false
		for _, h := range l {
			if lower(h.Name) != lower(name) {
				without = append(without, h)
				set = append(set, h)
			} else if !had {
				had = true
				set = append(set, api.Header{Name: h.Name, Value: "new"})
			}
		}
		if !had {
			set = append(set, api.Header{Name: name, Value: "new"})
		}
		if got := headers.Drop(l, name); !slices.Equal(got, without) {
			t.Fatalf("Drop(%q, %q): %q", l, name, got)
		}
		got, why := headers.Set(l, name, "new")
		if why != api.OK || !slices.Equal(got, set) {
			t.Fatalf("Set(%q, %q): %q, %v", l, name, got, why)
		}
		if v, ok := headers.Get(got, name); v != "new" || !ok {
			t.Fatalf("Get of Set(%q, %q): %q", l, name, v)
		}
		was, ok := headers.Get(l, name)
		want := "new"
		if ok {
			want = was + ", new"
		}
		got, why = headers.Add(l, name, "new")
		if v, _ := headers.Get(got, name); why != api.OK || v != want {
			t.Fatalf("Get of Add(%q, %q): %q", l, name, v)
		}
	}
}

// P5.3

func TestSorted(t *testing.T) {
	for _, c := range []struct{ l, want []api.Header }{
		{nil, nil},
		{[]api.Header{}, nil},
		{list("B", "1"), list("b", "1")},
		{list("b", "1", "Set-Cookie", "x", "A", "2", "B", "3", "set-cookie", "w", "c", ""), list("a", "2", "b", "1, 3", "c", "", "set-cookie", "x", "set-cookie", "w")},
		{list("a", "3", "a", "1", "A", "2"), list("a", "3, 1, 2")}, // names alone are put in order
		{list("set-cookie", "z", "SET-COOKIE", "a", "set-cookie", "z"), list("set-cookie", "z", "set-cookie", "a", "set-cookie", "z")},
		{list("Set-Cookie2", "x", "set-cookie2", "w", "set-cookie", "v"), list("set-cookie", "v", "set-cookie2", "x, w")},
		{list("cookie", "x", "Cookie", "w"), list("cookie", "x, w")},
		{list("b", "", "B", ""), list("b", ", ")},
		{list("ab", "1", "a", "2", "a-", "3", "", "4", "B", "5", "_", "6", "~", "7"), list("", "4", "_", "6", "a", "2", "a-", "3", "ab", "1", "b", "5", "~", "7")},
		{list("\xff", "1", "é", "2", "z", "3", "É", "4"), list("z", "3", "É", "4", "é", "2", "\xff", "1")},
		{list("Z", "1", "a", "2", "[", "3"), list("[", "3", "a", "2", "z", "1")}, // the order is that of what is told
		{list("x", " a ", "x", "\x00"), list("x", " a , \x00")},
	} {
		if got := headers.Sorted(c.l); !slices.Equal(got, c.want) {
			t.Errorf("Sorted(%q): %q", c.l, got)
		}
	}
}

func TestSortedAgain(t *testing.T) {
	r := rand.New(rand.NewSource(55))
	for range 20000 {
		l := someList(r, 30)
		values := map[string][]string{}
		for _, h := range l {
			values[lower(h.Name)] = append(values[lower(h.Name)], h.Value)
		}
		var names []string
		for name := range values {
			names = append(names, name)
		}
		sort.Strings(names)
		var want []api.Header
		for _, name := range names {
			told := []string{strings.Join(values[name], ", ")}
			if name == "set-cookie" {
				told = values[name]
			}
			for _, v := range told {
				want = append(want, api.Header{Name: name, Value: v})
			}
		}
		got := headers.Sorted(l)
		if !slices.Equal(got, want) {
			t.Fatalf("Sorted(%q): %q, not %q", l, got, want)
		}
		if again := headers.Sorted(got); !slices.Equal(again, got) {
			t.Fatalf("Sorted(%q): %q, not the same again", got, again)
		}
	}
}

// P5.6

func TestGetOfSorted(t *testing.T) {
	r := rand.New(rand.NewSource(56))
	for range 20000 {
		l := someList(r, 20)
		sorted := headers.Sorted(l)
		for _, h := range append(list("none", "", "A", "", "\u212a", ""), l...) {
			want, has := headers.Get(l, h.Name)
			if v, ok := headers.Get(sorted, h.Name); v != want || ok != has {
				t.Fatalf("Get(Sorted(%q), %q): %q, not %q", l, h.Name, v, want)
			}
		}
	}
}
