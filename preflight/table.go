package preflight

import (
	"math"
	"slices"

	"ostiary/api"
	"ostiary/infra"
)

// place is for whom and where something is allowed.
type place struct {
	self, url string
	cred      bool
}

// right is a method or a name that is allowed at a place.
type right struct {
	at     place
	isName bool
	word   string
}

type row struct {
	what  right
	until int64
}

// Table keeps what was granted, the row that was put longest ago first. Rows that are over stay in their turn: whether one holds is asked of each call's own time.
type Table struct{ rows []row }

// New makes a table without rows.
func New() *Table { return &Table{} }

// Put keeps what a server has granted.
func (t *Table) Put(self, url string, cred bool, g Grant, now int64) {
	at := place{self, url, cred}
	for _, method := range g.Methods {
		t.put(methodAt(at, method), g.Age, now)
	}
	for _, name := range g.Names {
		t.put(nameAt(at, name), g.Age, now)
	}
	if g.All {
		t.put(nameAt(at, star), g.Age, now)
	}
}

// Allows says whether a method and names may go out without being asked about ahead.
func (t *Table) Allows(self, url string, cred bool, method string, unsafe []string, now int64) bool {
	at := place{self, url, cred}
	isMethod := func(word string) bool { return t.holds(methodAt(at, word), now) }
	isName := func(word string) bool { return t.holds(nameAt(at, word), now) }
	return allowed(cred, method, unsafe, isMethod, isName)
}

// Drop takes out all rows of an origin at an address, those with credentials and those without.
func (t *Table) Drop(self, url string) {
	with, without := place{self, url, true}, place{self, url, false}
	t.rows = slices.DeleteFunc(t.rows, func(r row) bool { return r.what.at == with || r.what.at == without })
}

// Len tells how many rows hold.
func (t *Table) Len(now int64) int {
	n := 0
	for _, r := range t.rows {
		if now < r.until {
			n++
		}
	}
	return n
}

// put lays a right behind all others. What is granted for no time is not kept, and yet takes back what was granted ahead of it.
func (t *Table) put(what right, age, now int64) {
	t.rows = slices.DeleteFunc(t.rows, func(r row) bool { return r.what == what })
	if age == 0 {
		return
	}
	t.rows = append(t.rows, row{what, end(now, age)})
	if len(t.rows) > api.MaxAllowed {
		t.rows = slices.Delete(t.rows, 0, 1)
	}
}

// holds says whether there is a row of that right that is not over.
func (t *Table) holds(what right, now int64) bool {
	return slices.ContainsFunc(t.rows, func(r row) bool { return r.what == what && now < r.until })
}

func methodAt(at place, method string) right { return right{at: at, word: method} }

// nameAt makes the right to a name in small letters, since names that differ in the size of letters alone are one name.
func nameAt(at place, name string) right {
	return right{at: at, isName: true, word: infra.Lower(name)}
}

// end tells when what is put now is over. A sum that is too great wraps round below now, one that is too small above it.
func end(now, age int64) int64 {
	switch sum := now + age; {
	case age > 0 && sum < now:
		return math.MaxInt64
	case age < 0 && sum > now:
		return math.MinInt64
	default:
		return sum
	}
}
