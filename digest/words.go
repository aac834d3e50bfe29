package digest

// word is what a sum is worked out in: 32 bits for 256, 64 bits for 384 and 512.
type word interface{ uint32 | uint64 }

// turns are the three steps by which a word is mixed with itself. The schedule's are two turns and a shift, the rounds' are three turns.
type turns [3]uint

// kind is all that sets the work on words of one size apart from that on the other's.
type kind struct {
	width          uint // bits of a word
	rounds         int
	small0, small1 turns // of the schedule
	great0, great1 turns // of the rounds
}

func narrow() kind {
	return kind{
		width: 32, rounds: 64,
		small0: turns{7, 18, 3}, small1: turns{17, 19, 10},
		great0: turns{2, 13, 22}, great1: turns{6, 11, 25},
	}
}

func wide() kind {
	return kind{
		width: 64, rounds: 80,
		small0: turns{1, 8, 7}, small1: turns{19, 61, 6},
		great0: turns{28, 34, 39}, great1: turns{14, 18, 41},
	}
}

// wordBytes tells how many bytes a word of that kind has.
func (k kind) wordBytes() int { return int(k.width / 8) }

// blockBytes tells how many bytes are worked in at once: sixteen words.
func (k kind) blockBytes() int { return 16 * k.wordBytes() }

// lengthBytes tells the room that the length has behind the content: two words.
func (k kind) lengthBytes() int { return 2 * k.wordBytes() }

// turned tells w, a word of that width, with its bits moved right: those that fall out at the end come in at the beginning.
func turned[W word](w W, by, width uint) W {
	return w>>by | w<<(width-by)
}

func small[W word](w W, by turns, width uint) W {
	return turned(w, by[0], width) ^ turned(w, by[1], width) ^ w>>by[2]
}

func great[W word](w W, by turns, width uint) W {
	return turned(w, by[0], width) ^ turned(w, by[1], width) ^ turned(w, by[2], width)
}

// choice takes each bit of b or of c, as a's says.
func choice[W word](a, b, c W) W { return a&b ^ ^a&c }

func majority[W word](a, b, c W) W { return a&b ^ a&c ^ b&c }

// upper tells the first bits of a root, as many as a word has.
func upper[W word](root uint64, width uint) W { return W(root >> (64 - width)) }

// read tells the word that those bytes are, the greatest one first.
func read[W word](b []byte) W {
	var w W
	for _, c := range b {
		w = w<<8 | W(c)
	}
	return w
}
