package data_test

import (
	"math/rand"
	"slices"
	"strings"
	"testing"

	"ostiary/api"
	"ostiary/data"
	"ostiary/mime"
)

// opaque: an address of that text, which need not be one that Parse would answer.
func opaque(text string) api.URL {
	return api.URL{Scheme: "data", Port: -1, Opaque: true, Path: []string{text}}
}

// TestArguments: R2, R5: what is handed in is not changed, the room behind it is neither read nor written.
func TestArguments(t *testing.T) {
	b := []byte("abcdef")
	x := kind("a", "b", "c", "%,", "spare", "room")
	path := []string{"a/b;base64,YQ", "spare room"}
	u := opaque("")
	u.Path = path[:1]
	was, params := slices.Clone(b), slices.Clone(x.Params)
	if s := data.Make(mime.Type{Major: "a", Minor: "b", Params: x.Params[:1]}, b[:1]); s != `data:a/b;c="%25%2C";base64,YQ==` {
		t.Errorf("Make: %s", s)
	}
	must(t, u, "a/b", "a")
	if !slices.Equal(b, was) || !slices.Equal(x.Params, params) || !slices.Equal(path, []string{"a/b;base64,YQ", "spare room"}) {
		t.Errorf("what was given became %q, %q, %q", b, x, path)
	}
}

// TestAnswersAreNew: R2: what is answered is new memory each time, its spare room too.
func TestAnswersAreNew(t *testing.T) {
	for _, s := range []string{"data:a/b;c=d;e=f,xyz", "data:a/b;c=d;base64,YWJj", "data:,xyz", "data:;base64,YWJj", "data:;c=d,", "data:;base64,"} {
		u := parsed(t, s)
		x, b, _ := data.Read(u)
		y, c, _ := data.Read(u)
		text, body := mime.Text(x), string(b)
		for i := range x.Params[:cap(x.Params)] {
			x.Params[:cap(x.Params)][i] = mime.Param{Name: "written", Value: "over"}
		}
		for i := range b[:cap(b)] {
			b[:cap(b)][i] = '!'
		}
		if mime.Text(y) != text || string(c) != body {
			t.Errorf("%s: answers share memory: %q, %q", s, y, c)
		}
		must(t, u, text, body)
	}
}

// TestNilIsEmpty: R4.
func TestNilIsEmpty(t *testing.T) {
	none, some := kind("a", "b"), mime.Type{Major: "a", Minor: "b", Params: make([]mime.Param, 0, 4)}
	if data.Make(none, nil) != data.Make(some, make([]byte, 0, 4)) {
		t.Error("Make")
	}
	mustNot(t, api.URL{Scheme: "data", Opaque: true})
	mustNot(t, api.URL{Scheme: "data", Opaque: true, Path: []string{}})
}

// TestAnyAddress: R1, R5: of any bytes the calls end; what is refused is refused wholly.
func TestAnyAddress(t *testing.T) {
	mustNot(t, api.URL{})
	mustNot(t, api.URL{Scheme: "data"})
	mustNot(t, api.URL{Scheme: "data", Path: []string{",x"}})
	mustNot(t, api.URL{Opaque: true, Path: []string{",x"}})
	mustNot(t, api.URL{Scheme: "data", Query: ",x"})
	mustNot(t, api.URL{Scheme: "data", Opaque: true, Fragment: ",x", HasFragment: true})
	data.Read(api.URL{Scheme: "data", Opaque: true, HasHost: true, Host: ",", Port: -7, Path: []string{"", ",", ";base64,"}})
	r := rand.New(rand.NewSource(75))
	for range 50000 {
		b := make([]byte, r.Intn(16))
		r.Read(b)
		s := string(b)
		for _, text := range []string{s, s + "," + s, "a/b;" + s + ",", "a/b;base64," + s, ";" + s + "base64," + s, s + ";base64,"} {
			again(t, opaque(text))
			u := opaque(s)
			u.Query, u.HasQuery = text, r.Intn(2) == 0
			if !u.HasQuery {
				u.Query = ""
			}
			again(t, u)
		}
		if got := data.Make(kind(s, s, s, s), b); !strings.HasPrefix(got, "data:") {
			t.Fatalf("Make(%q): %q", s, got)
		}
	}
}

// TestLong: R1: the calls end, and soon, of very long texts too.
func TestLong(t *testing.T) {
	const n = 1 << 20
	for part, refused := range map[string]bool{" ": false, ";": false, ";base64": true, "base64": false, "; base64 ": true, "\"": false, "%": false, "%2C": false, "/": false, "a/b": false, ";c=d": false} {
		text := strings.Repeat(part, n)
		mustNot(t, opaque(text))
		if _, b, ok := data.Read(opaque(text + ",x")); ok == refused || ok && string(b) != "x" {
			t.Errorf("%q many times: %q, %v", part, b, ok)
		}
		if _, b, ok := data.Read(opaque(text + ";base64,YQ")); !ok || string(b) != "a" {
			t.Errorf("%q many times: %q, %v", part, b, ok)
		}
	}
	must(t, opaque("a/b;"+strings.Repeat(" ", n)+"base64,"+strings.Repeat("YWJj", n)), "a/b", strings.Repeat("abc", n))
	must(t, opaque(strings.Repeat(" ", n)+","+strings.Repeat("%41", n)), plain, strings.Repeat("A", n))
	must(t, opaque(","+strings.Repeat(",", n)), plain, strings.Repeat(",", n))
	b := make([]byte, n)
	if s := data.Make(kind("a", "b", "c", strings.Repeat("%,", n)), b); len(s) != len(`data:a/b;c="";base64,`)+6*n+(n+2)/3*4 {
		t.Errorf("Make: %d bytes", len(s))
	}
}
