package digest_test

import (
	"crypto/sha256"
	"crypto/sha512"
	"encoding/hex"
	"math"
	"math/rand"
	"strings"
	"testing"

	"ostiary/api"
	"ostiary/digest"
)

// sizes: all that Sum knows.
var sizes = []int{256, 384, 512}

// other: the same sum by another's hand.
func other(bits int, b []byte) string {
	switch bits {
	case 256:
		x := sha256.Sum256(b)
		return string(x[:])
	case 384:
		x := sha512.Sum384(b)
		return string(x[:])
	}
	x := sha512.Sum512(b)
	return string(x[:])
}

// must: Sum answers what the other one does, for each of the sizes.
func must(t *testing.T, b []byte) {
	t.Helper()
	for _, bits := range sizes {
		got, why := digest.Sum(bits, b)
		if string(got) != other(bits, b) || why != api.OK {
			t.Fatalf("Sum(%d, %d bytes): %x, %v", bits, len(b), got, why)
		}
	}
}

// mustNot: Sum refuses that size wholly.
func mustNot(t *testing.T, bits int, b []byte) {
	t.Helper()
	if got, why := digest.Sum(bits, b); len(got) != 0 || why != api.ErrArg {
		t.Fatalf("Sum(%d, %d bytes): %x, %v", bits, len(b), got, why)
	}
}

// TestKnown: P8.1: the chapter's runs and examples, and the texts whose sums the standard tells.
func TestKnown(t *testing.T) {
	const (
		two  = "abcdbcdecdefdefgefghfghighijhijkijkljklmklmnlmnomnopnopq"
		four = "abcdefghbcdefghicdefghijdefghijkefghijklfghijklmghijklmnhijklmnoijklmnopjklmnopqklmnopqrlmnopqrsmnopqrstnopqrstu"
	)
	million := strings.Repeat("a", 1000000)
	for _, c := range []struct {
		bits       int
		text, want string
	}{
		{256, "", "e3b0c44298fc1c149afbf4c8996fb92427ae41e4649b934ca495991b7852b855"},
		{256, "abc", "ba7816bf8f01cfea414140de5dae2223b00361a396177a9cb410ff61f20015ad"},
		{256, two, "248d6a61d20638b8e5c026930c3e6039a33ce45964ff2167f6ecedd419db06c1"},
		{256, million, "cdc76e5c9914fb9281a1c7e284d73e67f1809a48a497200e046d39ccc7112cd0"},
		{384, "", "38b060a751ac96384cd9327eb1b1e36a21fdb71114be07434c0cc7bf63f6e1da274edebfe76f65fbd51ad2f14898b95b"},
		{384, "abc", "cb00753f45a35e8bb5a03d699ac65007272c32ab0eded1631a8b605a43ff5bed8086072ba1e7cc2358baeca134c825a7"},
		{384, four, "09330c33f71147e83d192fc782cd1b4753111b173b3b05d22fa08086e3b0f712fcc7c71a557e2db966c3e9fa91746039"},
		{384, million, "9d0e1809716474cb086e834e310a4a1ced149e9c00f248527972cec5704c2a5b07b8b3dc38ecc4ebae97ddd87f3d8985"},
		{512, "", "cf83e1357eefb8bdf1542850d66d8007d620e4050b5715dc83f4a921d36ce9ce47d0d13c5d85f2b0ff8318d2877eec2f63b931bd47417a81a538327af927da3e"},
		{512, "abc", "ddaf35a193617abacc417349ae20413112e6fa4e89a97ea20a9eeee64b55d39a2192992a274fc1a836ba3c23a3feebbd454d4423643ce80e2a9ac94fa54ca49f"},
		{512, four, "8e959b75dae313da8cf4f72814fc143f8f7779c6eb9f7fa17299aeadb6889018501d289e4900f7e4331b99dec4b5433ac7d329eeb6dd26545e96e55b874be909"},
		{512, million, "e718483d0ce769644e2e42c7bc15b4638e1f98b13b2044285632a803afa973ebde0ff244877ea60a4cb0432ce577c31beb009c5c2c49aa2e4eadb217ad8cc09b"},
	} {
		got, why := digest.Sum(c.bits, []byte(c.text))
		if hex.EncodeToString(got) != c.want || why != api.OK {
			t.Errorf("Sum(%d, %.12q, %d bytes): %x, %v", c.bits, c.text, len(c.text), got, why)
		}
	}
	mustNot(t, 1, nil)
}

// TestLengths: P8.1: contents of every length over some blocks: where the mark and the length fill the last block, and where they need one more.
func TestLengths(t *testing.T) {
	r := rand.New(rand.NewSource(81))
	for n := range 700 {
		must(t, make([]byte, n))
		b := make([]byte, n)
		for range 4 {
			r.Read(b)
			must(t, b)
		}
		for i := range b {
			b[i] = 255
		}
		must(t, b)
	}
	for _, n := range []int{1<<13 - 1, 1 << 13, 1 << 16, 1<<16 + 1, 1<<20 + 55, 1<<21 - 17} {
		b := make([]byte, n)
		r.Read(b)
		must(t, b)
	}
}

// TestEveryByte: P8.1: any byte at any place of a content counts.
func TestEveryByte(t *testing.T) {
	for c := range 256 {
		must(t, []byte{byte(c)})
	}
	b := make([]byte, 260)
	for i := range b {
		for _, c := range []byte{1, 0x7f, 0x80, 0xff} {
			b[i] = c
			must(t, b)
		}
		b[i] = 0
	}
}

// TestSizeOfAnswer: P8.1: so many bits.
func TestSizeOfAnswer(t *testing.T) {
	for _, bits := range sizes {
		for _, n := range []int{0, 1, 300} {
			if got, _ := digest.Sum(bits, make([]byte, n)); len(got) != bits/8 {
				t.Errorf("Sum(%d, ..) has %d bytes", bits, len(got))
			}
		}
	}
}

// TestOtherSizes: P8.1, R3: no other number is a size, whatever the content.
func TestOtherSizes(t *testing.T) {
	contents := [][]byte{nil, {}, []byte("abc"), make([]byte, 200)}
	wrong := []int{math.MinInt, math.MinInt + 256, math.MaxInt, math.MaxInt32, math.MinInt32, 1<<32 + 256, 1<<32 + 512, 1<<16 + 384, 512224, 512256}
	for bits := -1100; bits <= 1100; bits++ {
		if bits != 256 && bits != 384 && bits != 512 {
			wrong = append(wrong, bits)
		}
	}
	for _, bits := range wrong {
		for _, b := range contents {
			mustNot(t, bits, b)
		}
	}
}

// same: Same answers that, whichever of the two comes first.
func same(t *testing.T, a, b []byte, want bool) {
	t.Helper()
	if digest.Same(a, b) != want || digest.Same(b, a) != want {
		t.Fatalf("Same(%x, %x) is not %v", a, b, want)
	}
}

// TestSame: P8.2: one length, and the same bytes; unlike ones that would make up for each other too.
func TestSame(t *testing.T) {
	for _, c := range []struct {
		a, b string
		want bool
	}{
		{"", "", true}, {"a", "a", true}, {"\x00", "\x00", true}, {"abc", "abc", true}, {"\xff\x80\x00", "\xff\x80\x00", true},
		{"", "a", false}, {"", "\x00", false}, {"a", "A", false}, {"a", "ab", false}, {"a", "a\x00", false}, {"\x00", "\x00\x00", false}, {"b", "ab", false},
		{"ab", "cb", false}, {"ab", "ac", false}, {"ab", "ba", false}, {"abc", "xbc", false}, {"abc", "axc", false}, {"abc", "abx", false},
		{"\x01\x01", "\x00\x00", false}, {"\x01\xff", "\x00\x00", false}, {"\x00\x02", "\x01\x01", false}, {"\x80\x80", "\x00\x00", false},
	} {
		same(t, []byte(c.a), []byte(c.b), c.want)
	}
	same(t, nil, nil, true)
	same(t, nil, []byte{}, true)
	same(t, nil, []byte{0}, false)
}

// TestSameEveryPlace: P8.2: each bit of each byte is looked at.
func TestSameEveryPlace(t *testing.T) {
	r := rand.New(rand.NewSource(82))
	for n := range 130 {
		a := make([]byte, n)
		r.Read(a)
		b := append([]byte("room"), a...)[4:]
		same(t, a, b, true)
		same(t, a, append([]byte{0}, a...), false)
		same(t, a, append([]byte(string(a)), 0), false)
		for i := range b {
			for bit := range 8 {
				b[i] ^= 1 << bit
				same(t, a, b, false)
				b[i] ^= 1 << bit
			}
			same(t, a, b[:i], false)
		}
	}
}

// TestSameOfSums: P8.1, P8.2: sums of one content are the same, those of others and of other sizes are not.
func TestSameOfSums(t *testing.T) {
	var all [][]byte
	for _, text := range []string{"", "\x00", "\x80", "a", "b", "ab", strings.Repeat("a", 64), strings.Repeat("a", 128)} {
		for _, bits := range sizes {
			one, _ := digest.Sum(bits, []byte(text))
			two, _ := digest.Sum(bits, []byte(text))
			same(t, one, two, true)
			for _, was := range all {
				same(t, one, was, false)
			}
			all = append(all, one)
		}
	}
}
