package filter_test

import (
	"math/rand"
	"regexp"
	"slices"
	"strings"
	"testing"

	"ostiary/api"
	"ostiary/filter"
)

// A second reading of the promises, by patterns.

var (
	cookies  = regexp.MustCompile(`^(?i:set-cookie2?)$`)
	unasked  = regexp.MustCompile(`^(?i:cache-control|content-(?:language|length|type)|expires|last-modified|pragma)$`)
	exposing = regexp.MustCompile(`^(?i:access-control-expose-headers)$`)
	token    = regexp.MustCompile("^[0-9A-Za-z!#$%&'*+.^_`|~-]+$")
	letters  = regexp.MustCompile(`[A-Z]`)
)

func lower(s string) string { return letters.ReplaceAllStringFunc(s, strings.ToLower) }

// ownAgain: what Own shows of a list.
func ownAgain(l []api.Header) []api.Header {
	return slices.DeleteFunc(slices.Clone(l), func(h api.Header) bool { return cookies.MatchString(h.Name) })
}

// shareAgain: what Share shows of a list in whose exposing values there are no quotes.
func shareAgain(l []api.Header, cred bool) []api.Header {
	var pieces []string
	for _, h := range l {
		if exposing.MatchString(h.Name) {
			for _, piece := range strings.Split(h.Value, ",") {
				pieces = append(pieces, strings.Trim(piece, "\t "))
			}
		}
	}
	if !cred && slices.Contains(pieces, "*") {
		return ownAgain(l)
	}
	return slices.DeleteFunc(ownAgain(l), func(h api.Header) bool {
		return !unasked.MatchString(h.Name) && !slices.ContainsFunc(pieces, func(piece string) bool {
			return token.MatchString(piece) && lower(piece) == lower(h.Name)
		})
	})
}

// someSize: a word with some letters large.
func someSize(r *rand.Rand, s string) string {
	b := []byte(s)
	for i, c := range b {
		if c >= 'a' && c <= 'z' && r.Intn(3) == 0 {
			b[i] -= 'a' - 'A'
		}
	}
	return string(b)
}

func someName(r *rand.Rand) string {
	words := append(safeNames(), "set-cookie", "set-cookie2", expose, expose, "x", "x", "y-z", "y-z", "*", "x y", "", "etag", "\xff", "k", "\u212a", "location")
	return someSize(r, some(r, words...))
}

func someExposed(r *rand.Rand) string {
	var b strings.Builder
	for range r.Intn(5) {
		b.WriteString(some(r, "", " ", "\t", "\n"))
		b.WriteString(someSize(r, some(r, "x", "y-z", "etag", "set-cookie", "set-cookie2", "*", "x y", "k", "expires", "", expose, "location", "\xff")))
		b.WriteString(some(r, "", "", " ", "\t"))
		b.WriteString(some(r, ",", ",", ",", ";", ""))
	}
	return b.String()
}

func someList(r *rand.Rand) []api.Header {
	l := make([]api.Header, r.Intn(9))
	for i := range l {
		l[i] = api.Header{Name: someName(r), Value: someExposed(r)}
	}
	return l
}

// TestAgain: P20.1.
func TestAgain(t *testing.T) {
	r := rand.New(rand.NewSource(201))
	whole, part, none, held := 0, 0, 0, 0
	for range 60000 {
		p := api.Reply{Status: r.Intn(700), Headers: someList(r), Body: []byte(someExposed(r))}
		url, cred := someExposed(r), r.Intn(2) == 0
		own := api.Response{Kind: api.Basic, Status: p.Status, Headers: ownAgain(p.Headers), Body: p.Body, Url: url}
		if got := filter.Own(p, url); !same(got, own) {
			t.Fatalf("Own(%+v): %+v, not %+v", p, got, own)
		}
		share := api.Response{Kind: api.Shared, Status: p.Status, Headers: shareAgain(p.Headers, cred), Body: p.Body, Url: url}
		if got := filter.Share(p, url, cred); !same(got, share) {
			t.Fatalf("Share(%+v, %v): %+v, not %+v", p, cred, got, share)
		}
		switch {
		case len(own.Headers) < len(p.Headers):
			held++
		case len(p.Headers) == 0:
		case len(share.Headers) == len(p.Headers):
			whole++
		case len(share.Headers) == 0:
			none++
		default:
			part++
		}
	}
	if whole < 2000 || part < 2000 || none < 2000 || held < 2000 {
		t.Errorf("too few: %d whole, %d part, %d none, %d held", whole, part, none, held)
	}
}

// within: whether the headers of less stand in more, in the same order.
func within(less, more []api.Header) bool {
	for _, h := range more {
		if len(less) > 0 && less[0] == h {
			less = less[1:]
		}
	}
	return len(less) == 0
}

// TestShareWithinOwn: P20.2: what Share shows Own shows; and with credentials there is no more than without.
func TestShareWithinOwn(t *testing.T) {
	r := rand.New(rand.NewSource(202))
	stars, less := 0, 0
	for range 40000 {
		p := api.Reply{Status: r.Intn(700), Headers: someList(r), Body: []byte("body")}
		own, free, known := filter.Own(p, "u"), filter.Share(p, "u", false), filter.Share(p, "u", true)
		for _, share := range []api.Response{free, known} {
			if !within(share.Headers, own.Headers) || share.Status != own.Status || string(share.Body) != string(own.Body) || share.Url != own.Url {
				t.Fatalf("of %+v Share shows %+v, and Own %+v", p, share, own)
			}
		}
		if !within(known.Headers, free.Headers) {
			t.Fatalf("of %+v Share shows %+v, and with credentials %+v", p, free, known)
		}
		if len(known.Headers) < len(free.Headers) {
			stars++
		}
		if len(free.Headers) < len(own.Headers) {
			less++
		}
	}
	if stars < 500 || less < 1000 {
		t.Errorf("too few: %d stars, %d less", stars, less)
	}
}

// TestHideIsOne: P20.2: Hide is one for all, whatever was told ahead of it and whatever became of its answers.
func TestHideIsOne(t *testing.T) {
	r := rand.New(rand.NewSource(203))
	for range 1000 {
		p := api.Reply{Status: r.Intn(700), Headers: someList(r), Body: []byte(someExposed(r))}
		filter.Own(p, someExposed(r))
		filter.Share(p, someExposed(r), true)
		filter.HideRedirect(someExposed(r))
		filter.Fail()
		got := filter.Hide()
		if !same(got, api.Response{Kind: api.Hidden}) {
			t.Fatalf("Hide: %+v", got)
		}
		got.Status, got.Url = 200, "u"
		got.Headers = append(got.Headers, list("a", "b")...)
		got.Body = append(got.Body, 'b')
	}
}
