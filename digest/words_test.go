package digest

import (
	"encoding/binary"
	"math/big"
	"math/bits"
	"math/rand"
	"testing"
)

// primes: the first n.
func primes(n int) []int64 {
	var l []int64
	for p := int64(2); len(l) < n; p++ {
		if big.NewInt(p).ProbablyPrime(0) {
			l = append(l, p)
		}
	}
	return l
}

// isRoot: is w the first 64 bits behind the point of the root of p, by that power? The number of 2^-64ths that the root has is the greatest whose power does not go past p's.
func isRoot(w uint64, p int64, power int64) bool {
	whole := int64(1)
	for next := int64(2); ; next++ {
		product := int64(1)
		for range power {
			product *= next
		}
		if product > p {
			break
		}
		whole = next
	}
	low := new(big.Int).Lsh(big.NewInt(whole), 64)
	low.Add(low, new(big.Int).SetUint64(w))
	high := new(big.Int).Add(low, big.NewInt(1))
	want := new(big.Int).Lsh(big.NewInt(p), uint(64*power))
	e := big.NewInt(power)
	return low.Exp(low, e, nil).Cmp(want) <= 0 && high.Exp(high, e, nil).Cmp(want) > 0
}

// TestRoots: P8.1: the constants and the first states are roots of the first primes.
func TestRoots(t *testing.T) {
	for i, p := range primes(len(cubeRoots)) {
		if !isRoot(cubeRoots[i], p, 3) {
			t.Errorf("the cube root of %d: %x", p, cubeRoots[i])
		}
	}
	for i, p := range primes(len(squareRoots)) {
		if !isRoot(squareRoots[i], p, 2) {
			t.Errorf("the square root of %d: %x", p, squareRoots[i])
		}
	}
}

// TestTurned: words of either size are turned by one function.
func TestTurned(t *testing.T) {
	r := rand.New(rand.NewSource(83))
	for range 2000 {
		w := r.Uint64()
		for by := range uint(64) {
			if turned(w, by, 64) != bits.RotateLeft64(w, -int(by)) {
				t.Fatalf("%x by %d: %x", w, by, turned(w, by, 64))
			}
		}
		n := uint32(w)
		for by := range uint(32) {
			if turned(n, by, 32) != bits.RotateLeft32(n, -int(by)) {
				t.Fatalf("%x by %d: %x", n, by, turned(n, by, 32))
			}
		}
	}
}

// TestEnding: P8.1: whole blocks, as few as may be: the rest, a byte 0x80, noughts, the length in bits as eight bytes or sixteen.
func TestEnding(t *testing.T) {
	// The greatest length has more bits than 32 bits can tell.
	room := make([]byte, 1<<29+257)
	for _, k := range []kind{narrow(), wide()} {
		size, count := k.blockBytes(), k.lengthBytes()
		for n := range 2*size + 1 {
			for _, long := range []int{0, 1 << 13, 1 << 29} {
				b := room[:n+long]
				end := ending(k, b)
				rest := len(b) % size
				blocks := (rest + 1 + count + size - 1) / size
				if len(end) != blocks*size || end[rest] != 0x80 || binary.BigEndian.Uint64(end[len(end)-8:]) != uint64(len(b))*8 {
					t.Fatalf("%d bytes: %x", len(b), end)
				}
				end[rest] = 0
				for i, c := range end[:len(end)-8] {
					if c != 0 {
						t.Fatalf("%d bytes: %x at %d", len(b), c, i)
					}
				}
			}
		}
	}
}
