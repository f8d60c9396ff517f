package recvq

import (
	"bytes"
	"maps"
	"math"
	"math/rand"
	"slices"
	"testing"

	"caravel/api"
)

// The chapter's bounds, as numbers.
const (
	buffer = 256
	pieces = 8
	long   = 1000
)

// nexts are numbers to begin with, some of which go round soon.
func nexts() []uint32 {
	return []uint32{0, 1, 100, 1<<31 - 120, 1<<31 - 1, 1 << 31, 1<<31 + 1, math.MaxUint32 - 300, math.MaxUint32 - 120, math.MaxUint32 - 7, math.MaxUint32}
}

// count is so many bytes, of which each is told from those near it.
func count(n int) []byte {
	b := make([]byte, n)
	for i := range b {
		b[i] = byte(1 + i + i/251*9)
	}
	return b
}

// at is a piece, so far behind a number.
func at(next uint32, far int, data string) api.Piece {
	return api.Piece{Seq: next + uint32(far), Data: []byte(data)}
}

// open is what came, with bytes to be read and pieces ahead of their turn; it isn't known where it ends.
func open(next uint32, data string, ahead ...api.Piece) api.Recv {
	return api.Recv{Next: next, Data: []byte(data), Ahead: ahead}
}

// ends is what came, and the end is known, so far behind Next.
func ends(q api.Recv, far int) api.Recv {
	q.Known, q.End = true, q.Next+uint32(far)
	return q
}

// done is what came, when all did, up to a number.
func done(end uint32, data string) api.Recv {
	return api.Recv{Next: end + 1, Data: []byte(data), Known: true, End: end, Done: true}
}

// text is so many bytes, as a text.
func text(n int) string {
	return string(count(n))
}

// same tells whether two are alike.
func same(a, b api.Recv) bool {
	alike := func(a, b api.Piece) bool { return a.Seq == b.Seq && bytes.Equal(a.Data, b.Data) }
	return a.Next == b.Next && bytes.Equal(a.Data, b.Data) && slices.EqualFunc(a.Ahead, b.Ahead, alike) &&
		a.Known == b.Known && a.End == b.End && a.Done == b.Done
}

// copied is the same in other memory, by a way of its own.
func copied(q api.Recv) api.Recv {
	c := api.Recv{Next: q.Next, Known: q.Known, End: q.End, Done: q.Done}
	for _, b := range q.Data {
		c.Data = append(c.Data, b)
	}
	for _, p := range q.Ahead {
		c.Ahead = append(c.Ahead, api.Piece{Seq: p.Seq, Data: []byte(string(p.Data))})
	}
	return c
}

// behind is how far a number lies behind another one.
func behind(a, b uint32) int {
	return int(int32(a - b))
}

// runs are the pieces that bytes make, in order, of which it is known how far behind a number they lie.
func runs(next uint32, came map[int]byte) []api.Piece {
	var l []api.Piece
	for _, far := range slices.Sorted(maps.Keys(came)) {
		if _, touches := came[far-1]; !touches {
			l = append(l, at(next, far, ""))
		}
		last := &l[len(l)-1]
		last.Data = append(last.Data, came[far])
	}
	return l
}

// bytesOf are the bytes of pieces, by how far they lie behind a number.
func bytesOf(next uint32, ahead []api.Piece) map[int]byte {
	came := map[int]byte{}
	for _, p := range ahead {
		for i, b := range p.Data {
			came[behind(p.Seq+uint32(i), next)] = b
		}
	}
	return came
}

// plainAccept is Accept of a right one by the chapter's words, byte by byte.
func plainAccept(q api.Recv, from uint32, data []byte, end bool) api.Recv {
	q = copied(q)
	if q.Done {
		return q
	}
	came, room := bytesOf(q.Next, q.Ahead), buffer-len(q.Data)
	last := from + uint32(len(data))
	if far := behind(last, q.Next); end && !q.Known && far >= 0 && far <= room {
		beyond := false
		for k := range came {
			beyond = beyond || k >= far
		}
		if !beyond {
			q.Known, q.End = true, last
		}
	}
	for i, b := range data {
		far := behind(from+uint32(i), q.Next)
		if far < 0 || far >= room || q.Known && far >= behind(q.End, q.Next) {
			continue
		}
		if _, twice := came[far]; !twice {
			came[far] = b
		}
	}
	laid := runs(q.Next, came)
	if len(laid) > 0 && laid[0].Seq == q.Next {
		q.Data = append(q.Data, laid[0].Data...)
		q.Next += uint32(len(laid[0].Data))
		q.Ahead = laid[1:]
	} else if len(laid) <= pieces {
		q.Ahead = laid
	}
	if q.Known && q.Next == q.End {
		q.Done = true
		q.Next++
	}
	return q
}

// plainRight is Right by the chapter's words, byte by byte: what came is what its bytes make, if they lie where they may.
func plainRight(q api.Recv) bool {
	if len(q.Data) > buffer || len(q.Ahead) > pieces || !q.Known && q.End != 0 || q.Done && !q.Known {
		return false
	}
	if q.Done {
		return behind(q.Next, q.End) == 1 && len(q.Ahead) == 0
	}
	most := buffer - len(q.Data)
	if q.Known {
		if far := behind(q.End, q.Next); far <= 0 || far > most {
			return false
		}
		most = behind(q.End, q.Next)
	}
	for _, p := range q.Ahead {
		if len(p.Data) > buffer {
			return false
		}
		for i := range p.Data {
			if far := behind(p.Seq+uint32(i), q.Next); far < 1 || far >= most {
				return false
			}
		}
	}
	other := q
	other.Ahead = runs(q.Next, bytesOf(q.Next, q.Ahead))
	return same(q, other)
}

// stays fails, unless what was handed in is as it was.
func stays(t *testing.T, q, was api.Recv) {
	t.Helper()
	if !same(q, was) {
		t.Fatalf("%v was changed to %v", was, q)
	}
}

// is fails, unless Right tells so.
func is(t *testing.T, q api.Recv, want bool) {
	t.Helper()
	was := copied(q)
	if Right(q) != want {
		t.Fatalf("Right(%v) = %t", q, !want)
	}
	stays(t, q, was)
}

// accepts fails, unless Accept answers so, and what is right; it answers that.
func accepts(t *testing.T, q api.Recv, from uint32, data string, end bool, want api.Recv) api.Recv {
	t.Helper()
	was, given := copied(q), []byte(data)
	got := Accept(q, from, given, end)
	if !same(got, want) {
		t.Fatalf("Accept(%v, %d, %q, %t) = %v; want %v", was, from, data, end, got, want)
	}
	stays(t, q, was)
	if string(given) != data {
		t.Fatalf("%q was changed to %q", data, given)
	}
	is(t, got, true)
	return got
}

// alike fails, unless Accept answers what the other way of saying it does; it answers that.
func alike(t *testing.T, q api.Recv, from uint32, data []byte, end bool) api.Recv {
	t.Helper()
	return accepts(t, q, from, string(data), end, plainAccept(q, from, data, end))
}

// reads fails, unless Read answers so; it answers what is left.
func reads(t *testing.T, q api.Recv, n int, want api.Recv, data string) api.Recv {
	t.Helper()
	was := copied(q)
	got, read := Read(q, n)
	if !same(got, want) || string(read) != data {
		t.Fatalf("Read(%v, %d) = %v, %q; want %v, %q", was, n, got, read, want, data)
	}
	stays(t, q, was)
	return got
}

// ended fails, unless Ended tells so.
func ended(t *testing.T, q api.Recv, want bool) {
	t.Helper()
	was := copied(q)
	if Ended(q) != want {
		t.Fatalf("Ended(%v) = %t", q, !want)
	}
	stays(t, q, was)
}

// The chapter's example, and the document's fourth one.
func TestExample(t *testing.T) {
	q := accepts(t, New(100), 102, "cd", false, open(100, "", at(102, 0, "cd")))
	reads(t, q, 9, q, "")
	q = accepts(t, q, 100, "abX", false, open(104, "abcd"))
	q = accepts(t, q, 104, "", true, done(104, "abcd"))
	ended(t, q, false)
	q = reads(t, q, 4, done(104, ""), "abcd")
	ended(t, q, true)
}

// P17.1: of a new one its number is awaited, and nothing came.
func TestNew(t *testing.T) {
	for _, next := range nexts() {
		q := New(next)
		if !same(q, api.Recv{Next: next}) || Window(q) != 256 {
			t.Fatal(q)
		}
		is(t, q, true)
		ended(t, q, false)
		reads(t, q, 5, q, "")
	}
}

// several are right ones of each kind, that begin at a number.
func several(next uint32) []api.Recv {
	return []api.Recv{
		open(next, ""),
		open(next, "abc"),
		open(next, text(255)),
		open(next, text(256)),
		open(next, "", at(next, 1, "b")),
		open(next, "ab", at(next, 1, "d"), at(next, 3, "fg")),
		open(next, text(251), at(next, 4, "e")),
		open(next, "", at(next, 1, text(255))),
		open(next, text(100), at(next, 5, text(50)), at(next, 60, "x"), at(next, 62, text(94))),
		open(next, "", eight(next)...),
		ends(open(next, ""), 256),
		ends(open(next, "abc"), 1),
		ends(open(next, text(255)), 1),
		ends(open(next, "ab", at(next, 1, "d"), at(next, 3, "fg")), 5),
		ends(open(next, "ab", at(next, 1, "d"), at(next, 3, "fg")), 6),
		ends(open(next, "", eight(next)...), 17),
		ends(open(next, text(200), at(next, 1, text(55))), 56),
		done(next, ""),
		done(next, "abc"),
		done(next, text(256)),
	}
}

// eight are eight pieces behind a number, of one byte each, with one byte missing ahead of each.
func eight(next uint32) []api.Piece {
	var l []api.Piece
	for i := range 8 {
		l = append(l, at(next, 2*i+1, string(rune('a'+i))))
	}
	return l
}

// P17.1: a clone is the same, whatever it is of; what is right is told of each.
func TestClone(t *testing.T) {
	for _, next := range nexts() {
		for _, q := range several(next) {
			was := copied(q)
			if got := Clone(q); !same(got, was) {
				t.Fatalf("Clone(%v) = %v", was, got)
			}
			stays(t, q, was)
			is(t, q, true)
			q.Ahead = append(q.Ahead, at(next, -9, text(300)), at(next, 9, ""))
			if got := Clone(q); !same(got, q) {
				t.Fatalf("Clone(%v) = %v", q, got)
			}
		}
	}
	if got := Clone(api.Recv{}); !same(got, api.Recv{}) {
		t.Fatal(got)
	}
}

// P17.1: the window is what is left of the buffer.
func TestWindow(t *testing.T) {
	for n := range 257 {
		for _, q := range []api.Recv{open(7, text(n)), done(7, text(n))} {
			if Window(q) != 256-n {
				t.Fatal(n, Window(q))
			}
		}
		if q := open(9, text(n), at(9, 1, "b")); n < 255 && Window(q) != 256-n {
			t.Fatal(n, Window(q))
		}
	}
}

// P17.1: it is ended, when all came, and all was read.
func TestEnded(t *testing.T) {
	for _, next := range nexts() {
		for _, q := range several(next) {
			ended(t, q, q.Done && len(q.Data) == 0)
		}
	}
}

// P17.1: what is read are the first bytes, so many, all if there are fewer, and none below 0; all else stays.
func TestRead(t *testing.T) {
	for _, next := range nexts() {
		for _, q := range several(next) {
			for _, n := range []int{math.MinInt, -256, -1, 0, 1, 2, 3, 4, 99, 100, 101, 255, 256, 257, 1 << 32, math.MaxInt} {
				all := string(q.Data)
				cut := min(max(n, 0), len(all))
				want := copied(q)
				want.Data = []byte(all[cut:])
				got := reads(t, q, n, want, all[:cut])
				is(t, got, true)
				if Window(got) != 256-len(all)+cut {
					t.Fatal(got)
				}
				reads(t, got, 256, with(got, ""), all[cut:])
			}
		}
	}
}

// with is the same with other bytes to be read.
func with(q api.Recv, data string) api.Recv {
	q.Data = []byte(data)
	return q
}

// P17.1: right ones have 256 bytes at most that nobody read.
func TestRightData(t *testing.T) {
	for n := range 600 {
		is(t, open(5, text(n)), n <= 256)
		is(t, done(5, text(n)), n <= 256)
		is(t, ends(open(5, text(n)), 1), n <= 255)
	}
}

// P17.1: they have 8 pieces at most.
func TestRightPieces(t *testing.T) {
	for _, next := range nexts() {
		for n := range 20 {
			q := open(next, "ab")
			for i := range n {
				q.Ahead = append(q.Ahead, at(next, 3*i+1, "xy"))
			}
			is(t, q, n <= 8)
			is(t, ends(q, 90), n <= 8)
		}
	}
}

// P17.1: their pieces lie behind Next, in order, none empty, no two touching or over each other.
func TestRightOrder(t *testing.T) {
	for _, next := range nexts() {
		is(t, open(next, "", at(next, 1, "b")), true)
		is(t, open(next, "", at(next, 0, "b")), false)
		is(t, open(next, "", at(next, -1, "b")), false)
		is(t, open(next, "", at(next, -1, "bcd")), false)
		is(t, open(next, "", at(next, 1, "")), false)
		is(t, open(next, "", at(next, 1, "b"), at(next, 5, "")), false)
		is(t, open(next, "", at(next, 3, ""), at(next, 5, "x")), false)
		is(t, open(next, "", at(next, 1, "b"), at(next, 3, "d")), true)
		is(t, open(next, "", at(next, 1, "b"), at(next, 2, "d")), false)
		is(t, open(next, "", at(next, 1, "bc"), at(next, 3, "d")), false)
		is(t, open(next, "", at(next, 1, "bcd"), at(next, 3, "d")), false)
		is(t, open(next, "", at(next, 1, "bcdef"), at(next, 3, "d")), false)
		is(t, open(next, "", at(next, 3, "d"), at(next, 1, "b")), false)
		is(t, open(next, "", at(next, 3, "d"), at(next, 3, "d")), false)
		is(t, open(next, "", at(next, 1, "b"), at(next, 9, "d"), at(next, 5, "d")), false)
		is(t, open(next, "", at(next, 1, "b"), at(next, 5, "d"), at(next, 9, "d")), true)
	}
}

// P17.1: their pieces lie in the window.
func TestRightWindow(t *testing.T) {
	for _, next := range nexts() {
		for _, data := range []int{0, 1, 100, 254, 255, 256} {
			for _, n := range []int{1, 2, 50, 156, 255, 256, 257} {
				for _, far := range []int{1, 2, 3, 100, 155, 156, 157, 206, 254, 255, 256, 257, 300, 1<<31 - 1, 1 << 31, 1<<32 - 1} {
					q := open(next, text(data), at(next, far, text(n)))
					is(t, q, far+n <= 256-data)
					is(t, open(next, text(data), at(next, 1, "b"), at(next, far, text(n))), far > 2 && far+n <= 256-data)
				}
			}
		}
	}
}

// P17.1: End is 0, while it isn't known; it lies behind Next, in the window or just behind it, and no piece beyond it; at Next all came.
func TestRightEnd(t *testing.T) {
	for _, next := range nexts() {
		q := open(next, "ab")
		for _, end := range []uint32{1, next + 2, 1 << 31, math.MaxUint32} {
			q.End = end
			is(t, q, false)
		}
		for _, data := range []int{0, 1, 200, 255, 256} {
			for far := -300; far < 300; far++ {
				is(t, ends(open(next, text(data)), far), far >= 1 && far <= 256-data)
				is(t, ends(open(next, text(data), at(next, 3, "efg")), far), far >= 6 && far <= 256-data)
				is(t, ends(open(next, text(data), at(next, 1, "b"), at(next, 3, "efg")), far), far >= 6 && far <= 256-data)
			}
			is(t, ends(open(next, text(data)), 1<<31), false)
			is(t, ends(open(next, text(data)), 1<<31-1), false)
		}
	}
}

// P17.1: of what is Done the end is known, Next is one behind it, and nothing came ahead of its turn.
func TestRightDone(t *testing.T) {
	for _, next := range nexts() {
		for far := -300; far < 300; far++ {
			q := ends(open(next, "abc"), far)
			q.Done = true
			is(t, q, far == -1)
			q.Known = false
			is(t, q, false)
			q.End = 0
			is(t, q, false)
		}
		q := done(next, "abc")
		q.Ahead = []api.Piece{at(next, 5, "x")}
		is(t, q, false)
		q.Ahead = []api.Piece{{}}
		is(t, q, false)
	}
}

// P17.1: a right one with one of its fields changed, held against another way of saying it.
func TestRightAll(t *testing.T) {
	chance := rand.New(rand.NewSource(171))
	seen := 0
	for range 60000 {
		next := number(chance)
		l := several(next)
		q := copied(l[chance.Intn(len(l))])
		switch chance.Intn(8) {
		case 0:
			q.Next += uint32(chance.Intn(5) - 2)
		case 1:
			q.Data = count(chance.Intn(300))
		case 2:
			q.Ahead = append(q.Ahead, at(next, chance.Intn(260)-2, text(chance.Intn(9))))
		case 3:
			if len(q.Ahead) > 0 {
				q.Ahead[chance.Intn(len(q.Ahead))].Seq += uint32(chance.Intn(5) - 2)
			}
		case 4:
			q.End += uint32(chance.Intn(5) - 2)
		case 5:
			q.Known = !q.Known
		case 6:
			q.Done = !q.Done
		case 7:
			if len(q.Ahead) > 0 {
				q.Ahead[chance.Intn(len(q.Ahead))].Data = count(chance.Intn(9))
			}
		}
		is(t, q, plainRight(q))
		if plainRight(q) {
			seen++
		}
	}
	if seen < 6000 || seen > 54000 {
		t.Fatal(seen)
	}
}

// P17.2: bytes in order can be read at once, and Next goes round.
func TestInOrder(t *testing.T) {
	for _, next := range nexts() {
		q, all := New(next), count(256)
		for i := 0; i < len(all); {
			n := min(1+i%7, len(all)-i)
			q = accepts(t, q, next+uint32(i), string(all[i:i+n]), false, open(next+uint32(i+n), string(all[:i+n])))
			i += n
		}
		if Window(q) != 0 {
			t.Fatal(q)
		}
	}
}

// P17.2: bytes ahead of their turn wait, and those that come between make one piece of them.
func TestAhead(t *testing.T) {
	for _, next := range nexts() {
		q := New(next)
		q = accepts(t, q, next+3, "de", false, open(next, "", at(next, 3, "de")))
		q = accepts(t, q, next+7, "hi", false, open(next, "", at(next, 3, "de"), at(next, 7, "hi")))
		q = accepts(t, q, next+1, "b", false, open(next, "", at(next, 1, "b"), at(next, 3, "de"), at(next, 7, "hi")))
		// It touches one on each side.
		q = accepts(t, q, next+2, "c", false, open(next, "", at(next, 1, "bcde"), at(next, 7, "hi")))
		q = accepts(t, q, next+9, "j", false, open(next, "", at(next, 1, "bcde"), at(next, 7, "hij")))
		q = accepts(t, q, next+6, "g", false, open(next, "", at(next, 1, "bcde"), at(next, 6, "ghij")))
		q = accepts(t, q, next, "a", false, open(next+5, "abcde", at(next, 6, "ghij")))
		q = reads(t, q, 2, open(next+5, "cde", at(next, 6, "ghij")), "ab")
		q = accepts(t, q, next+5, "f", false, open(next+10, "cdefghij"))
		reads(t, q, 9, open(next+10, ""), "cdefghij")
	}
}

// P17.2: of a number for which a byte came already that one counts, whether it was read, can be read or lies ahead.
func TestFirstCounts(t *testing.T) {
	for _, next := range nexts() {
		q := open(next, "yz", at(next, 2, "cd"), at(next, 6, "gh"))
		accepts(t, q, next+1, "12345678", false, open(next, "yz", at(next, 1, "1cd45gh8")))
		accepts(t, q, next+2, "12", false, q)
		accepts(t, q, next+3, "1", false, q)
		accepts(t, q, next+3, "12", false, open(next, "yz", at(next, 2, "cd2"), at(next, 6, "gh")))
		accepts(t, q, next+1, "12", false, open(next, "yz", at(next, 1, "1cd"), at(next, 6, "gh")))
		accepts(t, q, next+3, "1234", false, open(next, "yz", at(next, 2, "cd23gh")))
		accepts(t, q, next-2, "1234", false, open(next+4, "yz34cd", at(next, 6, "gh")))
		accepts(t, q, next-2, "12", false, q)
		accepts(t, q, next-9, "123", false, q)
		accepts(t, q, next-2, "123", false, open(next+1, "yz3", at(next, 2, "cd"), at(next, 6, "gh")))
		accepts(t, q, next, "1234567890", false, open(next+10, "yz12cd56gh90"))
		accepts(t, q, next, "", false, q)
		accepts(t, q, next+4, "", false, q)
	}
}

// P17.2: only what lies in the window is laid to the pieces.
func TestOutside(t *testing.T) {
	for _, next := range nexts() {
		accepts(t, New(next), next, text(1000), false, open(next+256, text(256)))
		accepts(t, New(next), next+1, text(1000), false, open(next, "", at(next, 1, text(255))))
		accepts(t, New(next), next+255, "ab", false, open(next, "", at(next, 255, "a")))
		accepts(t, New(next), next+256, "ab", false, New(next))
		accepts(t, New(next), next-1, "ab", false, open(next+1, "b"))
		accepts(t, New(next), next-2, "ab", false, New(next))
		accepts(t, New(next), next-1000, text(1000), false, New(next))
		accepts(t, New(next), next-999, text(1000), false, open(next+1, text(1000)[999:]))
		accepts(t, New(next), next-700, text(1000), false, open(next+256, text(956)[700:]))
		for _, far := range []uint32{257, 1 << 16, 1<<31 - 1000, 1<<31 - 1, 1 << 31, 1<<31 + 1, 1<<31 + 257, 1<<32 - 1001} {
			accepts(t, New(next), next+far, text(1000), false, New(next))
			accepts(t, New(next), next+far, text(1000), true, New(next))
		}
		full := open(next, text(256))
		accepts(t, full, next, "x", false, full)
		accepts(t, full, next+1, "x", false, full)
		accepts(t, full, next-1, "xyz", false, full)
		one := open(next, text(255))
		accepts(t, one, next, text(256)[255:]+"x", false, open(next+1, text(256)))
		accepts(t, one, next+1, "x", false, one)
	}
}

// P17.2: more than 8 pieces don't wait; a piece that makes none more, or that begins at Next, is taken still.
func TestTooMany(t *testing.T) {
	for _, next := range nexts() {
		q := open(next, "yz", eight(next)...)
		for _, far := range []int{17, 18, 100, 253} {
			accepts(t, q, next+uint32(far), "x", false, q)
			accepts(t, q, next+uint32(far), text(300), false, q)
		}
		seven := open(next, "yz", eight(next)[:7]...)
		accepts(t, seven, next+17, "x", false, open(next, "yz", append(eight(next)[:7], at(next, 17, "x"))...))
		grown := eight(next)
		grown[7].Data = []byte("hx")
		accepts(t, q, next+16, "x", false, open(next, "yz", grown...))
		accepts(t, q, next+2, "x", false, open(next, "yz", append([]api.Piece{at(next, 1, "axb")}, eight(next)[2:]...)...))
		accepts(t, q, next, "x", false, open(next+2, "yzxa", eight(next)[1:]...))
		accepts(t, q, next, "x1y2z", false, open(next+6, "yzxaybzc", eight(next)[3:]...))
		// It begins at Next, and touches none of eight.
		far := eight(next + 40)
		accepts(t, open(next, "", far...), next, "x", false, open(next+1, "x", far...))
		accepts(t, open(next, "", far...), next+1, "x", false, open(next, "", far...))
		accepts(t, open(next, "", far...), next+20, "x", false, open(next, "", far...))
		accepts(t, open(next, "", far...), next+44, "12", false, open(next, "", append(append(eight(next + 40)[:1], at(next, 43, "b1c")), far[3:]...)...))
	}
}

// P17.2: the bytes that are forgotten don't take the end with them.
func TestTooManyEnd(t *testing.T) {
	for _, next := range nexts() {
		q := open(next, "yz", eight(next)...)
		known := accepts(t, q, next+18, "xy", true, ends(q, 20))
		// What is beyond the end isn't taken any more, and another end neither.
		known = accepts(t, known, next+16, "12345", true, ends(open(next, "yz", append(eight(next)[:7], at(next, 15, "h1234"))...), 20))
		known = accepts(t, known, next, "123456789012345", false, done(next+20, "yz1a3b5c7d9e1f3g5h1234"))
		ended(t, known, false)
		accepts(t, q, next+18, text(238), true, q)
		accepts(t, q, next+18, text(236), true, ends(q, 254))
		accepts(t, q, next+254, "", true, ends(q, 254))
		accepts(t, q, next+255, "", true, q)
	}
}

// P17.2: the end is known, if it lies from Next up to just behind the window.
func TestEnd(t *testing.T) {
	for _, next := range nexts() {
		for _, size := range []int{0, 1, 100, 255, 256} {
			q := open(next, text(size))
			for far := -3; far < 300; far++ {
				want := q
				if far == 0 {
					want = done(next, text(size))
				} else if far > 0 && far <= 256-size {
					want = ends(q, far)
				}
				accepts(t, q, next+uint32(far), "", true, want)
				accepts(t, q, next+uint32(far), "", false, q)
			}
			for _, far := range []uint32{1<<31 - 1, 1 << 31, 1<<31 + 1, 1 << 16} {
				accepts(t, q, next+far, "", true, q)
			}
		}
	}
}

// P17.2: with bytes ahead of it the end is behind them, be they new or not.
func TestEndBehindBytes(t *testing.T) {
	for _, next := range nexts() {
		q := open(next, "z")
		accepts(t, q, next, "abc", true, done(next+3, "zabc"))
		accepts(t, q, next+1, "bc", true, ends(open(next, "z", at(next, 1, "bc")), 3))
		accepts(t, q, next-2, "yz", true, done(next, "z"))
		accepts(t, q, next-2, "y", true, q)
		accepts(t, q, next-2, "yza", true, done(next+1, "za"))
		accepts(t, q, next-1, text(256), true, done(next+255, "z"+text(256)[1:]))
		accepts(t, q, next, text(255), true, done(next+255, "z"+text(255)))
		accepts(t, q, next, text(256), true, open(next+255, "z"+text(255)))
		accepts(t, q, next+255, "", true, ends(q, 255))
		accepts(t, q, next+254, "x", true, ends(open(next, "z", at(next, 254, "x")), 255))
		accepts(t, q, next+254, "xy", true, open(next, "z", at(next, 254, "x")))
		accepts(t, open(next, text(256)), next, "", true, done(next, text(256)))
		accepts(t, open(next, text(256)), next, "x", true, open(next, text(256)))
	}
}

// P17.2: where a piece goes beyond it, it is no end; its bytes are taken all the same.
func TestEndAheadOfPieces(t *testing.T) {
	for _, next := range nexts() {
		q := open(next, "z", at(next, 2, "cd"), at(next, 6, "gh"))
		for far := range 8 {
			accepts(t, q, next+uint32(far), "", true, q)
		}
		accepts(t, q, next+8, "", true, ends(q, 8))
		accepts(t, q, next+9, "", true, ends(q, 9))
		accepts(t, q, next+4, "ef1", true, open(next, "z", at(next, 2, "cdefgh")))
		accepts(t, q, next, "ab", true, open(next+4, "zabcd", at(next, 6, "gh")))
		accepts(t, q, next+4, "ef12", true, ends(open(next, "z", at(next, 2, "cdefgh")), 8))
		accepts(t, q, next, "abcdef12", true, done(next+8, "zabcdefgh"))
		accepts(t, q, next, "abcdef1", true, open(next+8, "zabcdefgh"))
	}
}

// P17.2: an end that is known stays, whatever else is called one, and nothing comes from behind it.
func TestEndStays(t *testing.T) {
	for _, next := range nexts() {
		q := ends(open(next, "z", at(next, 2, "c")), 5)
		accepts(t, q, next+3, "d", true, ends(open(next, "z", at(next, 2, "cd")), 5))
		accepts(t, q, next+3, "defg", true, ends(open(next, "z", at(next, 2, "cde")), 5))
		accepts(t, q, next+5, "fg", false, q)
		accepts(t, q, next+5, "f", true, q)
		accepts(t, q, next+4, "", true, q)
		accepts(t, q, next+3, "", true, q)
		accepts(t, q, next+4, "efg", false, ends(open(next, "z", at(next, 2, "c"), at(next, 4, "e")), 5))
		accepts(t, q, next, "abcd", true, ends(open(next+4, "zabcd"), 1))
		accepts(t, q, next, text(400), false, done(next+5, "z"+text(2)+"c"+text(5)[3:]))
	}
}

// P17.2: what is Done stays, whatever comes.
func TestDone(t *testing.T) {
	for _, end := range nexts() {
		for _, size := range []int{0, 1, 3, 255, 256} {
			q := done(end, text(size))
			for _, far := range []int{-1000, -256, -3, -1, 0, 1, 2, 3, 255, 256, 257, 1 << 31} {
				for _, data := range []string{"", "x", "xyz", text(256), text(1000)} {
					accepts(t, q, end+uint32(far), data, true, q)
					accepts(t, q, end+uint32(far), data, false, q)
				}
			}
		}
	}
}

// P17.2: each piece of the lengths at which something may turn, at each place, to each kind, held against another way of saying it.
func TestAcceptAll(t *testing.T) {
	for _, next := range []uint32{0, 1<<31 - 120, math.MaxUint32 - 120} {
		for _, q := range several(next) {
			for far := -6; far < 262; far++ {
				for _, n := range []int{0, 1, 2, 3, 5, 256} {
					data := bytes.ToUpper(count(n))
					alike(t, q, q.Next+uint32(far), data, false)
					alike(t, q, q.Next+uint32(far), data, true)
				}
			}
		}
	}
}

// number is any number, often one near which something turns.
func number(chance *rand.Rand) uint32 {
	l := nexts()
	return l[chance.Intn(len(l))] + uint32(chance.Intn(9)) - 4
}

// P17.1 and P17.2: whatever comes, be it of one mind or not, and whatever is read, held against another way of saying it.
func TestAnything(t *testing.T) {
	chance := rand.New(rand.NewSource(172))
	for range 600 {
		q := New(number(chance))
		most, finish := 1+chance.Intn(60), chance.Intn(40)
		for range 80 {
			if chance.Intn(5) == 0 {
				n := chance.Intn(120) - 3
				cut := min(max(n, 0), len(q.Data))
				q = reads(t, q, n, with(q, string(q.Data[cut:])), string(q.Data[:cut]))
				continue
			}
			data := make([]byte, chance.Intn(most))
			chance.Read(data)
			q = alike(t, q, q.Next+uint32(chance.Intn(290)-15), data, chance.Intn(finish+1) == 7)
		}
	}
}

// sent is a stream of bytes that the other side sends, from a number on, and what was read of it here.
type sent struct {
	from uint32
	all  []byte
	read []byte
	came int
}

// any is a piece of the stream that the other side may send, near what is awaited: so many bytes that have gone, and whether it is the end.
func (s *sent) any(chance *rand.Rand) (int, int, bool) {
	at := min(max(s.came+chance.Intn(300)-40, 0), len(s.all))
	n := min(chance.Intn(chance.Intn(90)+1), len(s.all)-at)
	return at, n, at+n == len(s.all) && chance.Intn(2) == 0
}

// hear lets a piece come, and perhaps once more.
func (s *sent) hear(t *testing.T, q api.Recv, at, n int, end bool, twice bool) api.Recv {
	t.Helper()
	data := s.all[at : at+n]
	q = alike(t, q, s.from+uint32(at), data, end)
	if twice {
		q = alike(t, q, s.from+uint32(at), data, end)
	}
	s.came = len(s.read) + len(q.Data)
	return q
}

// take reads some, which must be what comes next of the stream; it is ended only once all of it was read.
func (s *sent) take(t *testing.T, q api.Recv, n int) api.Recv {
	t.Helper()
	q, data := Read(q, n)
	s.read = append(s.read, data...)
	if !bytes.HasPrefix(s.all, s.read) {
		t.Fatalf("%d bytes were read, the last %d of them wrong", len(s.read), len(data))
	}
	if Ended(q) && len(s.read) < len(s.all) {
		t.Fatalf("ended after %d of %d", len(s.read), len(s.all))
	}
	is(t, q, true)
	return q
}

// P17.3: whatever pieces come, in whatever order, some twice, what is read is the beginning of what was sent, each byte once; and it is ended only once all was read, and came.
func TestBeginning(t *testing.T) {
	chance := rand.New(rand.NewSource(173))
	for range 400 {
		s := sent{from: number(chance) - uint32(chance.Intn(700)), all: make([]byte, chance.Intn(chance.Intn(1200)+1))}
		chance.Read(s.all)
		q, heard := New(s.from), false
		for range chance.Intn(300) {
			at, n, end := s.any(chance)
			q = s.hear(t, q, at, n, end, chance.Intn(3) == 0)
			heard = heard || end
			if q.Done && !heard {
				t.Fatal("an end that nobody told")
			}
			if chance.Intn(3) == 0 {
				q = s.take(t, q, chance.Intn(200))
			}
		}
		// From now on nothing is lost.
		for range 100 {
			q = s.take(t, q, 256)
			n := min(64, len(s.all)-len(s.read))
			q = s.hear(t, q, len(s.read), n, len(s.read)+n == len(s.all), false)
		}
		if q = s.take(t, q, 256); !Ended(q) || !bytes.Equal(s.read, s.all) {
			t.Fatalf("%d of %d came: %v", len(s.read), len(s.all), q)
		}
	}
}

// P17.3: of all orders of six pieces and the end each tells the same.
func TestOrders(t *testing.T) {
	all := count(60)
	cuts := []int{0, 7, 8, 20, 41, 59, 60, 60}
	for _, next := range []uint32{5, math.MaxUint32 - 30} {
		orders(7, func(order []int) {
			q := New(next)
			for i, k := range order {
				from, to := cuts[k], cuts[k+1]
				q = Accept(q, next+uint32(from), all[from:to], k == 6)
				if q.Done != (i == 6) {
					t.Fatal(order, i, q)
				}
			}
			if !same(q, done(next+60, string(all))) {
				t.Fatal(order, q)
			}
		})
	}
}

// orders tells each order of so many numbers.
func orders(n int, tell func([]int)) {
	order := make([]int, n)
	for i := range order {
		order[i] = i
	}
	var turn func(int)
	turn = func(k int) {
		if k == n {
			tell(order)
			return
		}
		for i := k; i < n; i++ {
			order[k], order[i] = order[i], order[k]
			turn(k + 1)
			order[k], order[i] = order[i], order[k]
		}
	}
	turn(0)
}

// odd is one of any form.
func odd(chance *rand.Rand) api.Recv {
	q := api.Recv{Next: number(chance), Data: count(chance.Intn(1 + chance.Intn(600))), Known: chance.Intn(2) == 0, Done: chance.Intn(5) == 0}
	near := func() uint32 { return q.Next + uint32(chance.Intn(300)) - 20 }
	if chance.Intn(3) == 0 {
		near = func() uint32 { return number(chance) }
	}
	for range chance.Intn(1 + chance.Intn(20)) {
		q.Ahead = append(q.Ahead, api.Piece{Seq: near(), Data: count(chance.Intn(1 + chance.Intn(400)))})
	}
	if chance.Intn(2) == 0 {
		q.End = near()
	}
	return q
}

// P1: no argument makes a call panic, or go on for ever; P2: the same again answers the same, and what is handed in stays.
func TestNoPanic(t *testing.T) {
	chance := rand.New(rand.NewSource(174))
	ns := []int{math.MinInt, -1, 0, 1, 7, 256, 600, math.MaxInt}
	for range 30000 {
		q, from, data, end, n := odd(chance), number(chance), count(chance.Intn(1+chance.Intn(2500))), chance.Intn(2) == 0, ns[chance.Intn(len(ns))]
		if chance.Intn(2) == 0 {
			from = q.Next + uint32(chance.Intn(400)) - 100
		}
		was := copied(q)
		one := Accept(q, from, data, end)
		Accept(one, from+5, data, !end)
		if !same(one, Accept(was, from, data, end)) {
			t.Fatal(was, from, end)
		}
		one, read := Read(q, n)
		if two, again := Read(was, n); !same(one, two) || !bytes.Equal(read, again) {
			t.Fatal(was, n)
		}
		if !same(Clone(q), was) || Ended(q) != Ended(was) || Window(q) != Window(was) || Right(q) != plainRight(was) {
			t.Fatal(was)
		}
		stays(t, q, was)
	}
}

// P1: long lists come to their end.
func TestLong(t *testing.T) {
	huge := open(7, text(1<<20))
	for i := range 1 << 16 {
		huge.Ahead = append(huge.Ahead, at(7, 3*i, "x"))
	}
	huge.Ahead = append(huge.Ahead, at(7, 5, text(1<<20)), at(7, -9, text(1<<20)), at(7, 1<<31, "x"))
	for _, q := range []api.Recv{huge, with(huge, ""), with(huge, text(100))} {
		is(t, q, false)
		Clone(q)
		Read(q, 1<<19)
		for _, from := range []uint32{0, 5, 7, 8, 1 << 31} {
			Accept(q, from, count(1<<20), false)
			Accept(ends(q, 1<<20), from, count(1000), true)
		}
	}
	Accept(New(7), 7, count(1<<20), true)
}

// roomy is the same, whose lists have other things behind their lengths.
func roomy(q api.Recv) api.Recv {
	whole := make([]api.Piece, 30)
	for i := range whole {
		whole[i] = at(q.Next, 7*i+5, "zzzz")
	}
	for i, p := range q.Ahead {
		whole[i] = api.Piece{Seq: p.Seq, Data: room(p.Data)}
	}
	q.Data = room(q.Data)
	q.Ahead = whole[:len(q.Ahead)]
	return q
}

// room is the same bytes, with others behind them.
func room(b []byte) []byte {
	whole := bytes.Repeat([]byte{'z'}, len(b)+400)
	return whole[:copy(whole, b)]
}

// whole is the same with all that lies behind the lengths of its lists.
func whole(q api.Recv) api.Recv {
	q = api.Recv{Next: q.Next, Data: q.Data[:cap(q.Data)], Ahead: slices.Clone(q.Ahead[:cap(q.Ahead)]), Known: q.Known, End: q.End, Done: q.Done}
	for i, p := range q.Ahead {
		q.Ahead[i].Data = p.Data[:cap(p.Data)]
	}
	return q
}

// scrub writes over bytes, and over what lies behind them.
func scrub(b []byte) {
	b = b[:cap(b)]
	for i := range b {
		b[i] = '#'
	}
}

// wipe writes over all that one has, piece by piece, and tells whether no two of its lists share memory.
func wipe(q api.Recv) bool {
	left := copied(q)
	scrub(q.Data)
	for i, p := range q.Ahead {
		if !bytes.Equal(p.Data, left.Ahead[i].Data) {
			return false
		}
		scrub(p.Data)
	}
	all := q.Ahead[:cap(q.Ahead)]
	for i := range all {
		all[i] = at(9, 9, "#")
	}
	return true
}

// call is one of the calls that answer what came, and perhaps what was read.
type call func(q api.Recv, from uint32, data []byte, n int) (api.Recv, []byte)

// P2, and rules 3 and 4: what is handed in stays, what lies behind a list's length is neither read nor written, and what is answered shares no memory with what was handed in, nor with another answer.
func TestNothingShared(t *testing.T) {
	for _, c := range []call{
		func(q api.Recv, _ uint32, _ []byte, _ int) (api.Recv, []byte) { return Clone(q), nil },
		func(q api.Recv, _ uint32, _ []byte, n int) (api.Recv, []byte) { return Read(q, n) },
		func(q api.Recv, from uint32, data []byte, _ int) (api.Recv, []byte) {
			return Accept(q, from, data, false), nil
		},
		func(q api.Recv, from uint32, data []byte, _ int) (api.Recv, []byte) {
			return Accept(q, from, data, true), nil
		},
	} {
		for _, q := range several(100) {
			for _, far := range []int{-2, 0, 1, 2, 4, 6, 16, 17, 60, 100, 255} {
				for _, data := range []string{"", "x", "xyz", text(300)} {
					for _, n := range []int{-1, 0, 2, 255, 300} {
						shares(t, c, q, q.Next+uint32(far), data, n)
					}
				}
			}
		}
	}
}

// shares fails, if what a call answers hangs on memory that others have.
func shares(t *testing.T, c call, q api.Recv, from uint32, data string, n int) {
	t.Helper()
	want, told := c(copied(q), from, []byte(data), n)
	given, bytesIn := roomy(q), room([]byte(data))
	was, all := copied(whole(given)), string(bytesIn[:cap(bytesIn)])
	got, read := c(given, from, bytesIn, n)
	again, twice := c(given, from, bytesIn, n)
	if !same(whole(given), was) || string(bytesIn[:cap(bytesIn)]) != all {
		t.Fatalf("%v was changed, or what lies behind it", q)
	}
	if !same(got, want) || !bytes.Equal(read, told) {
		t.Fatalf("%v, %d, %q, %d: %v, %q; want %v, %q", q, from, data, n, got, read, want, told)
	}
	if Right(given) != Right(q) || Ended(given) != Ended(q) || Window(given) != Window(q) {
		t.Fatalf("%v: what lies behind is read", q)
	}
	wipe(given)
	scrub(bytesIn)
	if !same(got, want) || !bytes.Equal(read, told) {
		t.Fatalf("%v: the answer hangs on what was handed in", q)
	}
	if scrub(read); !same(got, want) {
		t.Fatalf("%v: what is left hangs on what was read", q)
	}
	if !wipe(got) {
		t.Fatalf("%v: two lists of an answer share memory", q)
	}
	if !same(again, want) || !bytes.Equal(twice, told) {
		t.Fatalf("%v: an answer hangs on another one", q)
	}
}
