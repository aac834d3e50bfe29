package digest_test

import (
	"slices"
	"testing"

	"ostiary/api"
	"ostiary/digest"
)

// TestArguments: R2, R5: what is handed in is not changed, the room behind it is neither read nor written.
func TestArguments(t *testing.T) {
	for _, n := range []int{0, 1, 55, 56, 63, 64, 65, 111, 112, 127, 128, 129, 250} {
		room := make([]byte, n+300)
		for i := range room {
			room[i] = byte(i + 1)
		}
		was := slices.Clone(room)
		must(t, room[:n])
		mustNot(t, 255, room[:n])
		if !digest.Same(room[:n], slices.Clip(slices.Clone(room[:n]))) || digest.Same(room[:n], room[1:n+2]) {
			t.Errorf("Same of %d bytes", n)
		}
		if !slices.Equal(room, was) {
			t.Fatalf("what was given became %x", room)
		}
	}
}

// TestAnswersAreNew: R2: what is answered is new memory each time, its spare room too, and shares none with what was given.
func TestAnswersAreNew(t *testing.T) {
	for _, bits := range sizes {
		for _, n := range []int{0, 32, 48, 64, 128, 200} {
			b := make([]byte, n)
			one, _ := digest.Sum(bits, b)
			two, _ := digest.Sum(bits, b)
			want := string(two)
			all := one[:cap(one)]
			for i := range all {
				all[i] ^= 0xa5
			}
			if string(two) != want || !slices.Equal(b, make([]byte, n)) {
				t.Errorf("Sum(%d, %d bytes): an answer shares memory", bits, n)
			}
			for i := range b {
				b[i] = 1
			}
			if string(two) != want {
				t.Errorf("Sum(%d, %d bytes): the answer hangs on what was given", bits, n)
			}
			must(t, make([]byte, n))
		}
	}
}

// TestNilIsEmpty: R4.
func TestNilIsEmpty(t *testing.T) {
	must(t, nil)
	must(t, []byte{})
	must(t, make([]byte, 0, 100))
	for _, bits := range sizes {
		one, why := digest.Sum(bits, nil)
		two, too := digest.Sum(bits, make([]byte, 0, 4))
		if !digest.Same(one, two) || why != api.OK || too != api.OK {
			t.Errorf("Sum(%d, nothing)", bits)
		}
	}
	mustNot(t, 0, nil)
	mustNot(t, 0, []byte{})
}

// TestLong: R1: the calls end, and soon, of very long contents too.
func TestLong(t *testing.T) {
	b := make([]byte, 1<<23+77)
	b[1<<22] = 1
	must(t, b)
	c := slices.Clone(b)
	same(t, b, c, true)
	c[len(c)-1] = 1
	same(t, b, c, false)
	same(t, b, b[:len(b)-1], false)
}
