package digest

// summed tells the sum's first bytes, as many as size says. The state begins with the roots of eight primes, from the given one on.
func summed[W word](k kind, from, size int, b []byte) []byte {
	state := start[W](k, from)
	state = worked(k, state, b)
	state = worked(k, state, ending(k, b))
	return told(k, state, size)
}

func start[W word](k kind, from int) [8]W {
	var state [8]W
	for i := range state {
		state[i] = upper[W](squareRoots[from+i], k.width)
	}
	return state
}

// worked works the whole blocks of b into the state; what is left behind them is the ending's.
func worked[W word](k kind, state [8]W, b []byte) [8]W {
	size := k.blockBytes()
	for ; len(b) >= size; b = b[size:] {
		state = folded(k, state, b[:size])
	}
	return state
}

// ending tells what b has behind its whole blocks, filled up to one block or two: a byte that marks the end, noughts, and b's length in bits.
func ending(k kind, b []byte) []byte {
	size := k.blockBytes()
	rest := b[len(b)-len(b)%size:]
	if len(rest)+1+k.lengthBytes() > size {
		size *= 2
	}
	end := make([]byte, size)
	copy(end, rest)
	end[len(rest)] = 0x80
	length := uint64(len(b)) * 8
	for i := size - 1; length > 0; i-- {
		end[i] = byte(length)
		length >>= 8
	}
	return end
}

// schedule tells a word for each round: those of the block, then what they make of one another.
func schedule[W word](k kind, block []byte) [80]W {
	var w [80]W
	size := k.wordBytes()
	for t := range 16 {
		w[t] = read[W](block[t*size : (t+1)*size])
	}
	for t := 16; t < k.rounds; t++ {
		w[t] = small(w[t-2], k.small1, k.width) + w[t-7] + small(w[t-15], k.small0, k.width) + w[t-16]
	}
	return w
}

// folded works one block into the state.
func folded[W word](k kind, state [8]W, block []byte) [8]W {
	words := schedule[W](k, block)
	a, b, c, d := state[0], state[1], state[2], state[3]
	e, f, g, h := state[4], state[5], state[6], state[7]
	for t := range k.rounds {
		t1 := h + great(e, k.great1, k.width) + choice(e, f, g) + upper[W](cubeRoots[t], k.width) + words[t]
		t2 := great(a, k.great0, k.width) + majority(a, b, c)
		h, g, f, e = g, f, e, d+t1
		d, c, b, a = c, b, a, t1+t2
	}
	for i, w := range [8]W{a, b, c, d, e, f, g, h} {
		state[i] += w
	}
	return state
}

// told writes the state's first bytes, the greatest one of each word first.
func told[W word](k kind, state [8]W, size int) []byte {
	out := make([]byte, 0, size)
	for _, w := range state[:size/k.wordBytes()] {
		for down := k.width; down > 0; down -= 8 {
			out = append(out, byte(w>>(down-8)))
		}
	}
	return out
}
