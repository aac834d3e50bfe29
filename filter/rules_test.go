package filter_test

import (
	"math/rand"
	"slices"
	"strconv"
	"strings"
	"testing"

	"ostiary/api"
	"ostiary/filter"
)

// roomy: a reply with headers and bytes in the room behind its lists, and all of those.
func roomy(words ...string) (api.Reply, []api.Header, []byte) {
	l := append(list(words...), list(expose, "*", "expires", "room", "x", "room")...)
	body := []byte("body and room")
	return api.Reply{Status: 200, Headers: l[: len(words)/2 : len(l)], Body: body[:4:len(body)]}, l, body
}

// TestArguments: R2, R5: what is handed in is not changed, and the room behind it is neither read nor written.
func TestArguments(t *testing.T) {
	r, l, body := roomy("Set-Cookie", "a", "X", "b", expose, "y, x", "Pragma", "c", "z", "d")
	wantList, wantBody := slices.Clone(l), slices.Clone(body)
	for range 2 {
		mustOwn(t, r, "X", "b", expose, "y, x", "Pragma", "c", "z", "d")
		mustShareBoth(t, r, "X", "b", "Pragma", "c")
	}
	if !slices.Equal(l, wantList) || !slices.Equal(body, wantBody) {
		t.Errorf("what was given became %q, %q", l, body)
	}
}

// spoil writes all over a response, its room included.
func spoil(p api.Response) {
	p.Headers, p.Body = p.Headers[:cap(p.Headers)], p.Body[:cap(p.Body)]
	for i := range p.Headers {
		p.Headers[i] = api.Header{Name: "spoilt", Value: "spoilt"}
	}
	for i := range p.Body {
		p.Body[i] = 'z'
	}
}

// TestAnswersApart: R2: answers are new memory, their spare room too.
func TestAnswersApart(t *testing.T) {
	for _, words := range [][]string{
		{"Expires", "a"},
		{"Expires", "a", "Pragma", "b"},
		{"Expires", "a", "Pragma", "b", "Set-Cookie", "c", "Pragma", "d"},
		{expose, "*", "Expires", "a"},
		{},
	} {
		r, l, body := roomy(words...)
		wantList, wantBody := slices.Clone(l), slices.Clone(body)
		own, share := filter.Own(r, "u"), filter.Share(r, "u", false)
		for range 2 {
			spoil(filter.Own(r, "u"))
			spoil(filter.Share(r, "u", false))
			spoil(filter.Share(r, "u", true))
		}
		if !slices.Equal(l, wantList) || !slices.Equal(body, wantBody) {
			t.Errorf("an answer shares memory with what was given: %q, %q", l, body)
		}
		if !same(filter.Own(r, "u"), own) || !same(filter.Share(r, "u", false), share) {
			t.Errorf("answers share memory: %+v, %+v", own, share)
		}
	}
}

// TestNotKept: R2: an answer stays when what was given changes behind the call.
func TestNotKept(t *testing.T) {
	r, l, body := roomy("Expires", "a", "Y", "b", expose, "y")
	own, share := filter.Own(r, "u"), filter.Share(r, "u", true)
	for i := range l {
		l[i] = api.Header{Name: "spoilt"}
	}
	for i := range body {
		body[i] = 'z'
	}
	if !same(own, api.Response{Kind: api.Basic, Status: 200, Headers: list("Expires", "a", "Y", "b", expose, "y"), Body: []byte("body"), Url: "u"}) {
		t.Errorf("Own's answer became %+v", own)
	}
	if !same(share, api.Response{Kind: api.Shared, Status: 200, Headers: list("Expires", "a", "Y", "b"), Body: []byte("body"), Url: "u"}) {
		t.Errorf("Share's answer became %+v", share)
	}
}

// TestNilIsEmpty: R4.
func TestNilIsEmpty(t *testing.T) {
	for _, l := range [][]api.Header{nil, {}, make([]api.Header, 0, 4), list("expires", "room", expose, "*")[:0]} {
		for _, body := range [][]byte{nil, {}, make([]byte, 0, 4), []byte("room")[:0]} {
			r := api.Reply{Status: 204, Headers: l, Body: body}
			mustOwn(t, r)
			mustShareBoth(t, r)
			r.Headers = append(r.Headers[:0:0], list("set-cookie", "a", "Pragma", "b")...)
			mustOwn(t, r, "Pragma", "b")
			mustShareBoth(t, r, "Pragma", "b")
		}
	}
}

// TestZero: R1, R4: zero values.
func TestZero(t *testing.T) {
	if got := filter.Own(api.Reply{}, ""); !same(got, api.Response{Kind: api.Basic}) {
		t.Errorf("Own: %+v", got)
	}
	for _, cred := range []bool{false, true} {
		if got := filter.Share(api.Reply{}, "", cred); !same(got, api.Response{Kind: api.Shared}) {
			t.Errorf("Share: %+v", got)
		}
	}
	if got := filter.HideRedirect(""); !same(got, api.Response{Kind: api.HiddenRedirect}) {
		t.Errorf("HideRedirect: %+v", got)
	}
	mustOwn(t, api.Reply{Headers: make([]api.Header, 2)}, "", "", "", "")
	mustShareBoth(t, api.Reply{Headers: make([]api.Header, 2)})
}

// TestEachByte: R5: any bytes may stand in texts; letters of ASCII alone are compared by Lower.
func TestEachByte(t *testing.T) {
	for n := range 256 {
		b := string([]byte{byte(n)})
		name, small, value := "X"+b+"y", "x"+lower(b)+"Y", b+"v"+b
		beside := "set-cookie" + b
		if n == '2' {
			beside = "Set_cookie2"
		}
		mustOwn(t, reply(name, value, beside, value, b, ""), name, value, beside, value, b, "")
		mustOwn(t, reply("set-cookie", value, "a", b), "a", b)
		mustShare(t, reply(name, value, beside, value, expose, "*"), false, name, value, beside, value, expose, "*")
		mustShareBoth(t, reply("expires"+b, value, b+"pragma", value, "pragma", value), "pragma", value)
		if token.MatchString(b) {
			mustShareBoth(t, reply(name, value, "x", value, expose, small), name, value)
		} else {
			mustShareBoth(t, reply(name, value, expose, small))
		}
		other := "x" + string([]byte{byte(n + 1)}) + "y"
		if lower(other) != lower(name) {
			mustShareBoth(t, reply(other, value, expose, name))
		}
		body := append([]byte(b), 0, byte(n))
		mustShareBoth(t, api.Reply{Status: n, Headers: list("pragma", b), Body: body}, "pragma", b)
		mustOwn(t, api.Reply{Status: n, Headers: list("pragma", b), Body: body}, "pragma", b)
	}
}

// TestAnyBytes: R1, R5: any calls end, and what is told holds together.
func TestAnyBytes(t *testing.T) {
	r := rand.New(rand.NewSource(204))
	text := func() string {
		b := make([]byte, r.Intn(5))
		r.Read(b)
		return some(r, string(b), "x, y", "*", "\"", "\\", "set-cookie", "Set-Cookie2", "expires", "X", "")
	}
	for range 60000 {
		p := api.Reply{Status: int(r.Uint64()), Headers: make([]api.Header, r.Intn(6)), Body: []byte(text())}
		for i := range p.Headers {
			p.Headers[i] = api.Header{Name: some(r, expose, text()), Value: text()}
		}
		before, url := slices.Clone(p.Headers), text()
		own, share := filter.Own(p, url), filter.Share(p, url, r.Intn(2) == 0)
		if !slices.Equal(own.Headers, ownAgain(p.Headers)) || !within(share.Headers, own.Headers) || own.Kind != api.Basic || share.Kind != api.Shared {
			t.Fatalf("of %+v: %+v, %+v", p, own, share)
		}
		share.Kind, share.Headers = own.Kind, own.Headers
		if !same(share, own) || own.Status != p.Status || own.Url != url || !slices.Equal(p.Headers, before) {
			t.Fatalf("of %+v: %+v, %+v", p, own, share)
		}
	}
}

// TestLong: R1: the calls end, and soon, of long lists and texts too.
func TestLong(t *testing.T) {
	long := strings.Repeat("L", 1<<20)
	const many = 1 << 17
	l := make([]api.Header, 0, many+3)
	var exposed strings.Builder
	for n := range many {
		l = append(l, api.Header{Name: "N" + strconv.Itoa(n), Value: strconv.Itoa(n)})
		if n%2 == 0 {
			exposed.WriteString("n" + strconv.Itoa(n) + " , ")
		}
	}
	l = append(l, list(expose, exposed.String()+long, long, long, "Set-Cookie", long)...)
	p := api.Reply{Status: 200, Headers: l, Body: []byte(long)}
	if got := filter.Own(p, long); len(got.Headers) != many+2 || len(got.Body) != 1<<20 || got.Url != long {
		t.Errorf("Own: %d, %d", len(got.Headers), len(got.Body))
	}
	got := filter.Share(p, long, true)
	if len(got.Headers) != many/2+1 || got.Headers[many/2].Name != long || len(got.Body) != 1<<20 {
		t.Fatalf("Share: %d, %d", len(got.Headers), len(got.Body))
	}
	for i, h := range got.Headers[:many/2] {
		if h != l[2*i] {
			t.Fatalf("Share: %q stands at %d", h, i)
		}
	}
}
