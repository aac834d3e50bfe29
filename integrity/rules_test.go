package integrity_test

import (
	"math/rand"
	"slices"
	"strings"
	"testing"

	"ostiary/integrity"
)

// TestArguments: R2, R5: what is handed in is not changed, the room behind it is neither read nor written.
func TestArguments(t *testing.T) {
	l := items(256, "a", "", 384, "b", "", 256, "c", "", 512, "spare", "room", 1, "more", "room")
	was := slices.Clone(l)
	for n, want := range map[int][]integrity.Item{0: nil, 1: l[:1], 2: l[1:2], 3: l[1:2], 4: l[3:4]} {
		if got := integrity.Strongest(l[:n]); !slices.Equal(got, want) {
			t.Errorf("Strongest(%v): %v", l[:n], got)
		}
	}
	body := []byte("abcdef spare room")
	before := slices.Clone(body)
	for n := range body {
		for _, bits := range sizes {
			if s, _ := integrity.Make(bits, body[:n]); s != asked(bits, string(before[:n])) || !integrity.Holds(s, body[:n]) || integrity.Holds(s, body[:n+1]) {
				t.Errorf("the room behind %q", body[:n])
			}
		}
		integrity.Make(5, body[:n])
	}
	if !slices.Equal(l, was) || !slices.Equal(body, before) {
		t.Errorf("what was given became %v, %q", l, body)
	}
}

// scribble: writes over a list and the room behind it.
func scribble(l []integrity.Item) {
	all := l[:cap(l)]
	for i := range all {
		all[i] = integrity.Item{Bits: -1, Want: "written", Option: "over"}
	}
}

// TestAnswersAreNew: R2: what is answered is new memory each time, its spare room too, and shares none with what was given.
func TestAnswersAreNew(t *testing.T) {
	for _, s := range []string{"sha256-a?b", "sha256-a sha256-b sha256-c", "sha512-a sha256-b", "sha256-a sha384-b sha384-c sha512-d sha512-e sha512-f"} {
		want := parseAgain(s)
		one, two := integrity.Parse(s), integrity.Parse(s)
		scribble(one)
		if !slices.Equal(two, want) {
			t.Errorf("Parse(%q): answers share memory: %v", s, two)
		}
		mustParse(t, s, want)

		strong := strongestAgain(want)
		one, other := integrity.Strongest(two), integrity.Strongest(two)
		scribble(one)
		if !slices.Equal(two, want) || !slices.Equal(other, strong) {
			t.Errorf("Strongest(%v): an answer shares memory", want)
		}
		scribble(two)
		if !slices.Equal(other, strong) {
			t.Errorf("Strongest(%v): the answer hangs on what was given", want)
		}
	}
}

// TestNilIsEmpty: R4.
func TestNilIsEmpty(t *testing.T) {
	for _, l := range [][]integrity.Item{nil, {}, make([]integrity.Item, 0, 4)} {
		if got := integrity.Strongest(l); len(got) != 0 {
			t.Errorf("Strongest of nothing: %v", got)
		}
	}
	for _, bits := range sizes {
		s := asked(bits, "")
		for _, body := range [][]byte{nil, {}, make([]byte, 0, 4)} {
			if got, _ := integrity.Make(bits, body); got != s || !integrity.Holds(s, body) || !integrity.Holds("", body) || integrity.Holds("sha256-", body) {
				t.Errorf("sha%d of nothing: %s", bits, got)
			}
		}
	}
}

// TestAnyBytes: R1, R5: of any bytes the calls end, and answer what the promises say.
func TestAnyBytes(t *testing.T) {
	r := rand.New(rand.NewSource(97))
	for range 30000 {
		b := make([]byte, r.Intn(24))
		r.Read(b)
		s := string(b)
		for _, text := range []string{s, "sha256-" + s, s + "sha384-" + s, "sha512-a?" + s, s + " " + asked(256, s), asked(512, s) + s} {
			again(t, text)
			if want := holdsAgain(text, b); integrity.Holds(text, b) != want {
				t.Fatalf("Holds(%q, %q): %v", text, b, !want)
			}
		}
	}
}

// TestLong: R1: the calls end, and soon, of very long texts, many items and great bodies too.
func TestLong(t *testing.T) {
	const n = 1 << 20
	for part, many := range map[string]int{" ": 0, "?": 0, "-": 0, "sha256": 0, "sha256 ": 0, "sha256-": 1, "sha256-a?": 1, "sha256-a ": n, "md5-a\n": 0, "\xff": 0, "é": 0} {
		s := strings.Repeat(part, n)
		l := integrity.Parse(s)
		if len(l) != many || len(integrity.Strongest(l)) != many {
			t.Errorf("%q many times: %d items", part, len(l))
		}
		if integrity.Holds(s, []byte("x")) != (many == 0) {
			t.Errorf("%q many times: %v", part, many != 0)
		}
	}
	mustParse(t, "SHA384-"+strings.Repeat("a", n)+"?"+strings.Repeat("?", n), items(384, strings.Repeat("a", n), strings.Repeat("?", n)))
	body := strings.Repeat("abcd", n)
	wrong := strings.Repeat(asked(512, "x")+" ", 10000)
	mustHold(t, wrong, body, false)
	mustHold(t, wrong+asked(512, body), body, true)
	mustHold(t, asked(512, body)+" "+wrong, body, true)
	mustHold(t, strings.Repeat("sha512-x ", n)+asked(512, body), body, true)
}
