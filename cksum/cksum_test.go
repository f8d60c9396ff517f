package cksum

import (
	"bytes"
	"math/rand"
	"testing"
)

// plainFold is Fold by the document's words: the parts are laid one behind the other, and their words are added one by one.
func plainFold(parts ...[]byte) uint16 {
	all := bytes.Join(parts, nil)
	if len(all)%2 == 1 {
		all = append(all, 0)
	}
	sum := 0
	for i := 0; i < len(all); i += 2 {
		sum += 256*int(all[i]) + int(all[i+1])
		if sum > 65535 {
			sum -= 65535
		}
	}
	return uint16(sum)
}

// word is a word's bytes.
func word(w uint16) []byte { return []byte{byte(w >> 8), byte(w)} }

// words is the bytes of words.
func words(ws ...uint16) []byte {
	var b []byte
	for _, w := range ws {
		b = append(b, word(w)...)
	}
	return b
}

// edges are words at which something may turn.
func edges() []uint16 {
	return []uint16{0, 1, 2, 127, 128, 254, 255, 256, 257, 0x7fff, 0x8000, 0x8001, 0xff00, 0xfffe, 0xffff}
}

// P2.1: what Fold, Sum and Right answer.
func TestFold(t *testing.T) {
	for _, c := range []struct {
		parts []string
		fold  uint16
	}{
		{[]string{"\x00\x01\xf2\x03\xf4\xf5\xf6\xf7"}, 0xddf2},
		{[]string{"\x00\x01\xf2\x03", "\xf4\xf5\xf6\xf7"}, 0xddf2},
		{nil, 0},
		{[]string{""}, 0},
		{[]string{"", "", ""}, 0},
		{[]string{"\x12"}, 0x1200},
		{[]string{"\x12\x34"}, 0x1234},
		{[]string{"\x12\x34\x56"}, 0x6834},
		{[]string{"\x00"}, 0},
		{[]string{"\x00\x00\x00\x00"}, 0},
		// A word that two parts bear is one word.
		{[]string{"\x12", "\x34"}, 0x1234},
		{[]string{"\x12", "", "\x34"}, 0x1234},
		{[]string{"", "\x12", "\x34\x56", "\x78"}, 0x68ac},
		{[]string{"\x12\x34\x56", "\x78\x9a"}, 0x02ad},
		{[]string{"\x12", "\x34", "\x56"}, 0x6834},
		// At 65535 nothing is taken away, above it is.
		{[]string{"\xff\xff"}, 0xffff},
		{[]string{"\xff\xfe\x00\x01"}, 0xffff},
		{[]string{"\xff\xff\x00\x00"}, 0xffff},
		{[]string{"\x00\x00\xff\xff"}, 0xffff},
		{[]string{"\xff\xff\x00\x01"}, 1},
		{[]string{"\xff\xff\xff\xff"}, 0xffff},
		{[]string{"\x80\x00\x80\x00"}, 1},
		{[]string{"\xff\xff\xff\xff\xff\xff\x00\x01"}, 1},
		{[]string{"\xff"}, 0xff00},
		{[]string{"\xff\x00\x01"}, 1},
	} {
		var parts [][]byte
		for _, p := range c.parts {
			parts = append(parts, []byte(p))
		}
		if got := Fold(parts...); got != c.fold {
			t.Errorf("Fold(%x) = %04x; want %04x", c.parts, got, c.fold)
		}
		if got, want := Sum(parts...), 65535-c.fold; got != want {
			t.Errorf("Sum(%x) = %04x; want %04x", c.parts, got, want)
		}
		if got, want := Right(parts...), c.fold == 65535; got != want {
			t.Errorf("Right(%x) = %v; want %v", c.parts, got, want)
		}
	}
}

// P2.1: a list that is nil is one without elements.
func TestNil(t *testing.T) {
	if f, s, r := Fold(nil), Sum(nil), Right(nil); f != 0 || s != 65535 || r {
		t.Error(f, s, r)
	}
	if f := Fold(nil, []byte{1}, nil, []byte{2}, []byte{}); f != 0x0102 {
		t.Error(f)
	}
	none := [][]byte{}
	if f, s, r := Fold(none...), Sum(none...), Right(none...); f != 0 || s != 65535 || r {
		t.Error(f, s, r)
	}
}

// P2.1: each two words, in one part and in two, as the document's words have it.
func TestFoldEdges(t *testing.T) {
	for _, a := range edges() {
		for _, b := range edges() {
			both := words(a, b)
			want := plainFold(both)
			for cut := range len(both) + 1 {
				if got := Fold(both[:cut], both[cut:]); got != want {
					t.Fatalf("Fold of %04x %04x cut at %d = %04x; want %04x", a, b, cut, got, want)
				}
			}
		}
	}
}

// P2.1: bytes of all kinds, cut anywhere, as the document's words have it.
func TestFoldParts(t *testing.T) {
	chance := rand.New(rand.NewSource(2))
	for range 3000 {
		var parts [][]byte
		for range chance.Intn(6) {
			p := make([]byte, chance.Intn(9))
			for i := range p {
				p[i] = []byte{0, 1, 254, 255, byte(chance.Intn(256))}[chance.Intn(5)]
			}
			parts = append(parts, p)
		}
		want := plainFold(parts...)
		if got := Fold(parts...); got != want {
			t.Fatalf("Fold(%x) = %04x; want %04x", parts, got, want)
		}
		if got := Sum(parts...); got != 65535-want {
			t.Fatalf("Sum(%x) = %04x; want %04x", parts, got, 65535-want)
		}
		if got := Right(parts...); got != (want == 65535) {
			t.Fatalf("Right(%x) = %v at %04x", parts, got, want)
		}
	}
}

// P2.1: many words don't make the sum run over.
func TestFoldLong(t *testing.T) {
	const half = 1 << 20
	for _, c := range []struct {
		b    []byte
		fold uint16
	}{
		{bytes.Repeat([]byte{255}, 2*half), 65535},
		{bytes.Repeat([]byte{0, 1}, half), half % 65535},
		{bytes.Repeat([]byte{1, 0}, half+1), 256 * (half + 1) % 65535},
		{make([]byte, 2*half+1), 0},
		{append(bytes.Repeat([]byte{255}, 2*half), 1), 256},
	} {
		if got := Fold(c.b); got != c.fold {
			t.Errorf("Fold of %d bytes = %04x; want %04x", len(c.b), got, c.fold)
		}
	}
}

// P2.2: what Adjust answers.
func TestAdjust(t *testing.T) {
	for _, c := range []struct{ sum, was, now, want uint16 }{
		{0xdd2f, 0x5555, 0x3285, 0x0000}, // the example of RFC 1624
		{0x1234, 0x0000, 0x0000, 0x1234},
		{0x1234, 0x5678, 0x5678, 0x1234},
		{0x1234, 0x0001, 0x0002, 0x1233},
		{0x1234, 0x0002, 0x0001, 0x1235},
		{0xffff, 0xffff, 0x0000, 0xffff},
		{0xffff, 0x0000, 0x0000, 0x0000},
		{0x0000, 0x0000, 0x0000, 0x0000},
		{0x0000, 0xffff, 0xffff, 0x0000},
		{0xffff, 0xffff, 0xffff, 0x0000},
		{0xffff, 0x0000, 0x0001, 0xfffe},
		{0xfffe, 0x0001, 0x0000, 0x0000},
		{0x0000, 0xffff, 0x0001, 0xfffe},
	} {
		if got := Adjust(c.sum, c.was, c.now); got != c.want {
			t.Errorf("Adjust(%04x, %04x, %04x) = %04x; want %04x", c.sum, c.was, c.now, got, c.want)
		}
	}
}

// P2.2: all edges, as the document's words have it.
func TestAdjustEdges(t *testing.T) {
	for _, sum := range edges() {
		for _, was := range edges() {
			for _, now := range edges() {
				want := 65535 - plainFold(words(65535-sum, 65535-was, now))
				if got := Adjust(sum, was, now); got != want {
					t.Fatalf("Adjust(%04x, %04x, %04x) = %04x; want %04x", sum, was, now, got, want)
				}
			}
		}
	}
}

// lists are words of all kinds, some of them all 0.
func lists() [][]uint16 {
	l := [][]uint16{{0}, {0, 0, 0}, {0xffff}, {0xffff, 0xffff}, {0, 0xffff}, {1, 0xfffe}, {0x0001, 0xf203, 0xf4f5, 0xf6f7}}
	chance := rand.New(rand.NewSource(3))
	for range 40 {
		ws := make([]uint16, 1+chance.Intn(6))
		for i := range ws {
			ws[i] = []uint16{0, 65535, uint16(chance.Intn(65536))}[chance.Intn(3)]
		}
		l = append(l, ws)
	}
	return l
}

// P2.3: bytes with their Sum behind them are Right, and so they are with two words changed for each other.
func TestSummedIsRight(t *testing.T) {
	if b := word(Sum()); !Right(b) {
		t.Errorf("%x isn't right", b)
	}
	for _, ws := range lists() {
		all := append(append([]uint16{}, ws...), Sum(words(ws...)))
		if !Right(words(ws...), word(all[len(ws)])) {
			t.Errorf("%04x and its sum aren't right", ws)
		}
		for i := range all {
			for j := range i {
				all[i], all[j] = all[j], all[i]
				if !Right(words(all...)) {
					t.Errorf("%04x isn't right with words %d and %d changed for each other", all, j, i)
				}
				all[i], all[j] = all[j], all[i]
			}
		}
	}
}

// P2.3: with one word turned into another one they are not right, but for 0 and 65535 turned into each other.
func TestTurnedIsWrong(t *testing.T) {
	for _, ws := range lists() {
		all := append(append([]uint16{}, ws...), Sum(words(ws...)))
		for i, was := range all {
			for _, now := range append(edges(), was+1, was-1, was^0x8000, was<<8|was>>8) {
				if now == was {
					continue
				}
				all[i] = now
				b := words(all...)
				zeros := bytes.Equal(b, make([]byte, len(b)))
				want := was == 65535-now && (was == 0 || now == 0) && !zeros
				if got := Right(b); got != want {
					t.Errorf("word %d of %04x was %04x: Right = %v", i, all, was, got)
				}
			}
			all[i] = was
		}
	}
}

// P2.3: Adjust of a Sum is the Sum of the bytes with that word turned, if these aren't all 0.
func TestAdjustedIsSum(t *testing.T) {
	for _, ws := range lists() {
		sum := Sum(words(ws...))
		for i, was := range ws {
			for _, now := range append(edges(), was) {
				ws[i] = now
				b := words(ws...)
				if got, want := Adjust(sum, was, now), Sum(b); got != want && !bytes.Equal(b, make([]byte, len(b))) {
					t.Errorf("word %d of %04x was %04x: Adjust = %04x, Sum = %04x", i, ws, was, got, want)
				}
			}
			ws[i] = was
		}
	}
}

// P1: no argument makes a call panic, or go on for ever.
func TestNoPanic(t *testing.T) {
	many := make([][]byte, 100000)
	for _, parts := range [][][]byte{nil, {}, {nil}, {nil, nil, {}}, {{0}}, {make([]byte, 1<<20), nil, {255}}, many} {
		Fold(parts...)
		Sum(parts...)
		Right(parts...)
	}
	for w := range 65536 {
		for _, e := range edges() {
			Adjust(uint16(w), e, ^e)
			Adjust(e, uint16(w), e)
			Adjust(e, ^e, uint16(w))
		}
	}
}

// P2: what is called again answers the same, whatever was called meanwhile.
func TestSameAgain(t *testing.T) {
	type answers struct {
		fold, sum, adjusted uint16
		right               bool
	}
	all := func() answers {
		return answers{Fold([]byte("abc"), []byte("de")), Sum([]byte("xyz")), Adjust(1, 2, 3), Right([]byte{255, 255})}
	}
	first := all()
	Fold([]byte{9})
	Sum(nil)
	Adjust(65535, 0, 7)
	if again := all(); again != first {
		t.Errorf("%v, then %v", first, again)
	}
}

// P2, and rules 3 and 4: what is handed in stays, and what lies behind a list's length is neither read nor written.
func TestHandedInStays(t *testing.T) {
	room := []byte{1, 2, 3, 4, 5, 6, 7, 8}
	was := bytes.Clone(room)
	spare := [][]byte{room[:3], room[3:4], room[4:]}
	parts := spare[:2]
	if f := Fold(parts...); f != 0x0406 {
		t.Errorf("Fold = %04x", f)
	}
	if s := Sum(parts...); s != 0xfbf9 {
		t.Errorf("Sum = %04x", s)
	}
	if Right(parts...) {
		t.Error("they are right")
	}
	if f := Fold(room[:1]); f != 0x0100 {
		t.Errorf("Fold = %04x", f)
	}
	if !bytes.Equal(room, was) || len(spare[0]) != 3 || len(spare[1]) != 1 || !bytes.Equal(spare[2], was[4:]) {
		t.Error("what was handed in was changed")
	}
}
