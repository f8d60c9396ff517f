package sendq

import (
	"bytes"
	"math"
	"math/rand"
	"testing"

	"caravel/api"
)

// The chapter's bound, as a number.
const buffer = 256

// unas are numbers to begin with, some of which go round soon.
func unas() []uint32 {
	return []uint32{0, 1, 10, 100, 1<<31 - 120, 1<<31 - 1, 1 << 31, 1<<31 + 1, math.MaxUint32 - 300, math.MaxUint32 - 120, math.MaxUint32 - 2, math.MaxUint32}
}

// lengths are numbers of bytes at which something may turn.
func lengths() []int {
	return []int{math.MinInt, math.MinInt + 1, math.MinInt32, -257, -1, 0, 1, 2, 3, 4, 63, 64, 65, 100, 255, 256, 257, 1000, 1 << 32, math.MaxInt}
}

// count is so many bytes, of which each is told from those near it.
func count(n int) []byte {
	b := make([]byte, n)
	for i := range b {
		b[i] = byte(1 + i + i/251*9)
	}
	return b
}

// text is so many bytes, as a text.
func text(n int) string {
	return string(count(n))
}

// open is what goes, with so many bytes of it sent; it doesn't end yet.
func open(una uint32, data string, sent int) api.Send {
	return api.Send{Una: una, Data: []byte(data), Sent: sent}
}

// closed is the same, but it ends.
func closed(una uint32, data string, sent int) api.Send {
	q := open(una, data, sent)
	q.End = true
	return q
}

// told is what goes, when all of it was sent, and the end.
func told(una uint32, data string) api.Send {
	q := closed(una, data, len(data))
	q.EndSent = true
	return q
}

// over is what goes, when all was acknowledged.
func over(una uint32) api.Send {
	q := told(una, "")
	q.EndAcked = true
	return q
}

// several are right ones of each kind, that begin at a number.
func several(una uint32) []api.Send {
	l := []api.Send{told(una, ""), told(una, "a"), told(una, "abc"), told(una, text(100)), told(una, text(255)), told(una, text(256)), over(una)}
	for _, n := range []int{0, 1, 2, 3, 6, 64, 65, 130, 255, 256} {
		for _, sent := range []int{0, 1, 2, 3, 5, 63, 64, 65, 254, 255, 256} {
			if sent <= n {
				l = append(l, open(una, text(n), sent), closed(una, text(n), sent))
			}
		}
	}
	return l
}

// same tells whether two are alike.
func same(a, b api.Send) bool {
	return a.Una == b.Una && bytes.Equal(a.Data, b.Data) && a.Sent == b.Sent &&
		a.End == b.End && a.EndSent == b.EndSent && a.EndAcked == b.EndAcked
}

// alike tells whether two pieces are.
func alike(a, b api.Piece) bool {
	return a.Seq == b.Seq && bytes.Equal(a.Data, b.Data)
}

// copied is the same in other memory, by a way of its own.
func copied(q api.Send) api.Send {
	return api.Send{Una: q.Una, Data: []byte(string(q.Data)), Sent: q.Sent, End: q.End, EndSent: q.EndSent, EndAcked: q.EndAcked}
}

// stays fails, unless what was handed in is as it was.
func stays(t *testing.T, q, was api.Send) {
	t.Helper()
	if !same(q, was) {
		t.Fatalf("%v was changed to %v", was, q)
	}
}

// is fails, unless Right tells so.
func is(t *testing.T, q api.Send, want bool) {
	t.Helper()
	was := copied(q)
	if Right(q) != want {
		t.Fatalf("Right(%v) = %t", q, !want)
	}
	stays(t, q, was)
}

// writes fails, unless Write takes so many bytes, and all else stays; it answers what goes then.
func writes(t *testing.T, q api.Send, data string, n int) api.Send {
	t.Helper()
	was, given := copied(q), []byte(data)
	want := copied(q)
	want.Data = []byte(string(q.Data) + data[:n])
	got, took := Write(q, given)
	if !same(got, want) || took != n {
		t.Fatalf("Write(%v, %q) = %v, %d; want %v, %d", was, data, got, took, want, n)
	}
	if stays(t, q, was); string(given) != data {
		t.Fatalf("%q was changed to %q", data, given)
	}
	is(t, got, true)
	return got
}

// sends fails, unless Next answers so; it answers what goes then.
func sends(t *testing.T, q api.Send, window, mss int, want api.Send, p api.Piece, end, ok bool) api.Send {
	t.Helper()
	was := copied(q)
	got, piece, last, has := Next(q, window, mss)
	if !same(got, want) || !alike(piece, p) || last != end || has != ok {
		t.Fatalf("Next(%v, %d, %d) = %v, %v, %t, %t; want %v, %v, %t, %t", was, window, mss, got, piece, last, has, want, p, end, ok)
	}
	stays(t, q, was)
	is(t, got, true)
	return got
}

// repeats fails, unless Again answers so.
func repeats(t *testing.T, q api.Send, mss int, p api.Piece, end, ok bool) {
	t.Helper()
	was := copied(q)
	piece, last, has := Again(q, mss)
	if !alike(piece, p) || last != end || has != ok {
		t.Fatalf("Again(%v, %d) = %v, %t, %t; want %v, %t, %t", was, mss, piece, last, has, p, end, ok)
	}
	stays(t, q, was)
}

// acks fails, unless Ack answers so; it answers what goes then.
func acks(t *testing.T, q api.Send, ack uint32, want api.Send, n int, e api.Errno) api.Send {
	t.Helper()
	was := copied(q)
	got, d, err := Ack(q, ack)
	if !same(got, want) || d != n || err != e {
		t.Fatalf("Ack(%v, %d) = %v, %d, %d; want %v, %d, %d", was, ack, got, d, err, want, n, e)
	}
	stays(t, q, was)
	is(t, got, true)
	return got
}

// piece is bytes from a number on.
func piece(seq uint32, data string) api.Piece {
	return api.Piece{Seq: seq, Data: []byte(data)}
}

// none is no piece.
var none = api.Piece{}

// The chapter's example, and what comes of it.
func TestExample(t *testing.T) {
	q := writes(t, New(10), "abcdef", 6)
	q = sends(t, q, 4, 3, open(10, "abcdef", 3), piece(10, "abc"), false, true)
	q = sends(t, q, 4, 3, open(10, "abcdef", 4), piece(13, "d"), false, true)
	sends(t, q, 4, 3, q, none, false, false)
	q = acks(t, q, 12, open(12, "cdef", 2), 2, api.OK)
	repeats(t, q, 9, piece(12, "cd"), false, true)
	q = sends(t, Close(q), 9, 9, told(12, "cdef"), piece(14, "ef"), true, true)
	repeats(t, q, 9, piece(12, "cdef"), true, true)
	q = acks(t, q, 17, over(17), 5, api.OK)
	repeats(t, q, 9, none, false, false)
}

// P18.1: of a new one its number is the first one, and nothing is there.
func TestNew(t *testing.T) {
	for _, una := range unas() {
		q := New(una)
		if !same(q, api.Send{Una: una}) || Room(q) != 256 || Flight(q) != 0 || !Empty(q) {
			t.Fatal(q)
		}
		is(t, q, true)
		sends(t, q, 256, 64, q, none, false, false)
		repeats(t, q, 64, none, false, false)
		acks(t, q, una, q, 0, api.OK)
		acks(t, q, una+1, q, 0, api.ErrArg)
	}
}

// P18.1: a clone is the same, whatever it is of.
func TestClone(t *testing.T) {
	for _, una := range unas() {
		for _, q := range several(una) {
			was := copied(q)
			if got := Clone(q); !same(got, was) {
				t.Fatalf("Clone(%v) = %v", was, got)
			}
			stays(t, q, was)
			is(t, q, true)
			q.Sent, q.EndAcked = -3, true
			if got := Clone(q); !same(got, q) {
				t.Fatalf("Clone(%v) = %v", q, got)
			}
		}
	}
}

// P18.1: there is room for what is left of 256 bytes, and none once it ends.
func TestRoom(t *testing.T) {
	for n := range 257 {
		for _, sent := range []int{0, n / 2, n} {
			if q := open(7, text(n), sent); Room(q) != 256-n {
				t.Fatal(n, Room(q))
			}
			if q := closed(7, text(n), sent); Room(q) != 0 {
				t.Fatal(n, Room(q))
			}
		}
		if q := told(7, text(n)); Room(q) != 0 {
			t.Fatal(n, Room(q))
		}
	}
	if Room(over(7)) != 0 {
		t.Fatal(Room(over(7)))
	}
}

// P18.1: as many of the first bytes go behind the others as there is room for; none once it ends.
func TestWrite(t *testing.T) {
	for _, una := range unas() {
		for _, q := range several(una) {
			for _, n := range []int{0, 1, 2, 100, 126, 127, 191, 192, 193, 254, 255, 256, 257, 1000} {
				room := buffer - len(q.Data)
				if q.End {
					room = 0
				}
				writes(t, q, text(n), min(n, room))
			}
		}
	}
	writes(t, open(5, "ab", 1), "", 0)
	q := writes(t, open(5, text(254), 9), "xyz", 2)
	writes(t, q, "z", 0)
	writes(t, acks(t, q, 8, open(8, text(254)[3:]+"xy", 6), 3, api.OK), "klmn", 3)
}

// P18.1: one that is closed ends, and is the same in all else; again nothing is changed.
func TestClose(t *testing.T) {
	for _, una := range unas() {
		for _, q := range several(una) {
			was, want := copied(q), copied(q)
			want.End = true
			got := Close(q)
			if !same(got, want) || !same(Close(got), want) || Room(got) != 0 {
				t.Fatalf("Close(%v) = %v", was, got)
			}
			stays(t, q, was)
			is(t, got, true)
		}
	}
}

// P18.1: in flight is what was sent, and the end, if it was sent and not acknowledged.
func TestFlight(t *testing.T) {
	for _, una := range unas() {
		for _, q := range several(una) {
			want := q.Sent
			if q.EndSent && !q.EndAcked {
				want++
			}
			if was := copied(q); Flight(q) != want || !same(q, was) {
				t.Fatal(q, Flight(q))
			}
		}
	}
	for _, c := range []struct {
		q    api.Send
		want int
	}{
		{open(1, "abc", 0), 0}, {open(1, "abc", 3), 3}, {closed(1, "abc", 3), 3}, {told(1, "abc"), 4},
		{closed(1, "", 0), 0}, {told(1, ""), 1}, {over(1), 0}, {told(1, text(256)), 257},
	} {
		if Flight(c.q) != c.want {
			t.Fatal(c.q, Flight(c.q))
		}
	}
}

// P18.1: it is empty, when there are no bytes, and no end that is still to be acknowledged.
func TestEmpty(t *testing.T) {
	for _, c := range []struct {
		q    api.Send
		want bool
	}{
		{New(4), true}, {open(4, "a", 0), false}, {open(4, "a", 1), false}, {open(4, text(256), 256), false},
		{closed(4, "", 0), false}, {closed(4, "a", 0), false}, {closed(4, "a", 1), false},
		{told(4, ""), false}, {told(4, "a"), false}, {over(4), true},
	} {
		if was := copied(c.q); Empty(c.q) != c.want || !same(c.q, was) {
			t.Fatal(c.q, Empty(c.q))
		}
	}
}

// plainRight is Right by the chapter's words, one by one.
func plainRight(q api.Send) bool {
	most := len(q.Data) <= buffer
	first := 0 <= q.Sent && q.Sent <= len(q.Data)
	ends := q.End || !q.EndSent && !q.EndAcked
	whole := !q.EndSent || q.Sent == len(q.Data)
	over := !q.EndAcked || q.EndSent && len(q.Data) == 0
	return most && first && ends && whole && over
}

// P18.1: what is right is told of each form.
func TestRight(t *testing.T) {
	for _, una := range unas() {
		for _, n := range []int{0, 1, 2, 100, 255, 256, 257, 300} {
			for _, sent := range []int{math.MinInt, -1, 0, 1, 2, 3, 99, 100, 101, 255, 256, 257, 300, 301, math.MaxInt} {
				for flags := range 8 {
					q := open(una, text(n), sent)
					q.End, q.EndSent, q.EndAcked = flags&1 > 0, flags&2 > 0, flags&4 > 0
					is(t, q, plainRight(q))
				}
			}
		}
	}
}

// P18.1: one thing that is wrong is enough.
func TestRightOne(t *testing.T) {
	for _, q := range []api.Send{
		open(1, text(257), 0),
		open(1, text(257), 257),
		open(1, "abc", -1),
		open(1, "abc", 4),
		open(1, "", 1),
		{Una: 1, Data: []byte("abc"), Sent: 3, EndSent: true},
		{Una: 1, Data: []byte("abc"), Sent: 2, End: true, EndSent: true},
		{Una: 1, Data: []byte("abc"), Sent: 3, End: true, EndSent: true, EndAcked: true},
		{Una: 1, End: true, EndAcked: true},
		{Una: 1, EndSent: true, EndAcked: true},
		{Una: 1, EndSent: true},
		{Una: 1, EndAcked: true},
	} {
		is(t, q, false)
	}
	for _, q := range []api.Send{
		open(1, text(256), 0), open(1, text(256), 256), open(1, "abc", 3), open(1, "abc", 0), {},
		closed(1, "abc", 3), closed(1, "", 0), told(1, text(256)), told(1, ""), over(1),
	} {
		is(t, q, true)
	}
}

// plainNext is Next of a right one by the chapter's words, byte by byte.
func plainNext(q api.Send, window, mss int) (api.Send, api.Piece, bool, bool) {
	was := copied(q)
	q = copied(q)
	p := api.Piece{Seq: q.Una + uint32(q.Sent)}
	for len(p.Data) < mss && q.Sent < window && q.Sent < len(q.Data) {
		p.Data = append(p.Data, q.Data[q.Sent])
		q.Sent++
	}
	end := q.End && !q.EndSent && q.Sent == len(q.Data)
	if len(p.Data) == 0 && !end {
		return was, api.Piece{}, false, false
	}
	if end {
		q.EndSent = true
	}
	return q, p, end, true
}

// plainAgain is Again of a right one by the chapter's words, byte by byte.
func plainAgain(q api.Send, mss int) (api.Piece, bool, bool) {
	p := api.Piece{Seq: q.Una}
	for len(p.Data) < mss && len(p.Data) < q.Sent {
		p.Data = append(p.Data, q.Data[len(p.Data)])
	}
	end := q.EndSent && !q.EndAcked && len(p.Data) == len(q.Data)
	if len(p.Data) == 0 && !end {
		return api.Piece{}, false, false
	}
	return p, end, true
}

// plainAck is Ack of a right one by the chapter's words, number by number.
func plainAck(q api.Send, ack uint32) (api.Send, int, api.Errno) {
	was := copied(q)
	d := int(int32(ack - q.Una))
	if d <= 0 {
		return was, 0, api.OK
	}
	q = copied(q)
	for range d {
		if q.Sent > 0 {
			q.Data, q.Sent = q.Data[1:], q.Sent-1
		} else if q.EndSent && !q.EndAcked {
			q.EndAcked = true
		} else {
			return was, 0, api.ErrArg
		}
		q.Una++
	}
	return q, d, api.OK
}

// P18.2: what goes next are the bytes that weren't sent: as many as there are, as a piece may have, and as the window has room for.
func TestNext(t *testing.T) {
	for _, una := range unas() {
		q := open(una, "abcdef", 0)
		for n := 1; n <= 6; n++ {
			sends(t, q, 256, n, open(una, "abcdef", n), piece(una, "abcdef"[:n]), false, true)
			sends(t, q, n, 64, open(una, "abcdef", n), piece(una, "abcdef"[:n]), false, true)
			sends(t, q, n, n, open(una, "abcdef", n), piece(una, "abcdef"[:n]), false, true)
		}
		sends(t, q, 7, 7, open(una, "abcdef", 6), piece(una, "abcdef"), false, true)
		sends(t, q, math.MaxInt, math.MaxInt, open(una, "abcdef", 6), piece(una, "abcdef"), false, true)
		q = open(una, "abcdef", 2)
		sends(t, q, 3, 9, open(una, "abcdef", 3), piece(una+2, "c"), false, true)
		sends(t, q, 9, 3, open(una, "abcdef", 5), piece(una+2, "cde"), false, true)
		sends(t, q, 5, 2, open(una, "abcdef", 4), piece(una+2, "cd"), false, true)
		for _, n := range []int{math.MinInt, math.MinInt + 1, -7, -1, 0, 1, 2} {
			sends(t, q, n, 9, q, none, false, false)
		}
		for _, n := range []int{math.MinInt, math.MinInt + 1, -7, -1, 0} {
			sends(t, q, 9, n, q, none, false, false)
		}
		q = open(una, "abcdef", 6)
		sends(t, q, 256, 64, q, none, false, false)
	}
}

// P18.2: the end goes with the last bytes, whatever the window is, and once.
func TestNextEnd(t *testing.T) {
	for _, una := range unas() {
		q := closed(una, "abcdef", 2)
		sends(t, q, 6, 4, told(una, "abcdef"), piece(una+2, "cdef"), true, true)
		sends(t, q, 99, 99, told(una, "abcdef"), piece(una+2, "cdef"), true, true)
		sends(t, q, 5, 4, closed(una, "abcdef", 5), piece(una+2, "cde"), false, true)
		sends(t, q, 6, 3, closed(una, "abcdef", 5), piece(una+2, "cde"), false, true)
		sends(t, q, 2, 4, q, none, false, false)
		sends(t, q, 6, 0, q, none, false, false)
		for _, n := range lengths() {
			sends(t, closed(una, "abcdef", 6), n, 64, told(una, "abcdef"), piece(una+6, ""), true, true)
			sends(t, closed(una, "abcdef", 6), 256, n, told(una, "abcdef"), piece(una+6, ""), true, true)
			sends(t, closed(una, "", 0), n, n, told(una, ""), piece(una, ""), true, true)
			sends(t, told(una, "abcdef"), n, n, told(una, "abcdef"), none, false, false)
			sends(t, told(una, ""), n, 64, told(una, ""), none, false, false)
			sends(t, over(una), 256, n, over(una), none, false, false)
			sends(t, open(una, "", 0), n, n, open(una, "", 0), none, false, false)
		}
	}
}

// P18.2: what goes again are the first bytes that were sent, as a piece may have; the end with the last of all.
func TestAgain(t *testing.T) {
	for _, una := range unas() {
		for n := 1; n <= 4; n++ {
			repeats(t, open(una, "abcdef", 4), n, piece(una, "abcdef"[:n]), false, true)
			repeats(t, closed(una, "abcd", 4), n, piece(una, "abcd"[:n]), false, true)
			repeats(t, told(una, "abcd"), n, piece(una, "abcd"[:n]), n == 4, true)
		}
		for _, n := range []int{5, 6, 7, 256, math.MaxInt} {
			repeats(t, open(una, "abcdef", 4), n, piece(una, "abcd"), false, true)
			repeats(t, closed(una, "abcdef", 4), n, piece(una, "abcd"), false, true)
			repeats(t, closed(una, "abcd", 4), n, piece(una, "abcd"), false, true)
			repeats(t, told(una, "abcd"), n, piece(una, "abcd"), true, true)
		}
		for _, n := range []int{math.MinInt, -7, -1, 0} {
			repeats(t, open(una, "abcdef", 4), n, none, false, false)
			repeats(t, told(una, "abcd"), n, none, false, false)
		}
		for _, n := range lengths() {
			repeats(t, open(una, "abcdef", 0), n, none, false, false)
			repeats(t, closed(una, "abcdef", 0), n, none, false, false)
			repeats(t, open(una, "", 0), n, none, false, false)
			repeats(t, closed(una, "", 0), n, none, false, false)
			repeats(t, told(una, ""), n, piece(una, ""), true, true)
			repeats(t, over(una), n, none, false, false)
		}
	}
}

// P18.3: what is acknowledged goes away; what was already is nothing more, what wasn't sent is refused.
func TestAck(t *testing.T) {
	for _, una := range unas() {
		q := open(una, "abcdef", 4)
		for n := 1; n <= 4; n++ {
			acks(t, q, una+uint32(n), open(una+uint32(n), "abcdef"[n:], 4-n), n, api.OK)
		}
		for _, d := range []uint32{5, 6, 7, 256, 257, 1 << 16, 1<<31 - 1} {
			acks(t, q, una+d, q, 0, api.ErrArg)
		}
		for _, d := range []uint32{0, 1, 2, 256, 1<<31 - 1, 1 << 31} {
			acks(t, q, una-d, q, 0, api.OK)
		}
		all := closed(una, "abcd", 4)
		acks(t, all, una+4, closed(una+4, "", 0), 4, api.OK)
		acks(t, all, una+5, all, 0, api.ErrArg)
	}
}

// P18.3: the end's number lies behind the last byte.
func TestAckEnd(t *testing.T) {
	for _, una := range unas() {
		q := told(una, "abcd")
		for n := range 5 {
			acks(t, q, una+uint32(n), told(una+uint32(n), "abcd"[n:]), n, api.OK)
		}
		acks(t, q, una+5, over(una+5), 5, api.OK)
		acks(t, q, una+6, q, 0, api.ErrArg)
		acks(t, told(una, ""), una+1, over(una+1), 1, api.OK)
		acks(t, told(una, ""), una+2, told(una, ""), 0, api.ErrArg)
		acks(t, over(una), una, over(una), 0, api.OK)
		acks(t, over(una), una-1, over(una), 0, api.OK)
		acks(t, over(una), una+1, over(una), 0, api.ErrArg)
		acks(t, told(una, text(256)), una+257, over(una+257), 257, api.OK)
		acks(t, told(una, text(256)), una+258, told(una, text(256)), 0, api.ErrArg)
	}
}

// P18.2 and P18.3: each kind, with all windows, pieces and numbers at which something may turn, held against another way of saying it.
func TestAll(t *testing.T) {
	for _, una := range unas() {
		for _, q := range several(una) {
			for _, n := range lengths() {
				for _, window := range lengths() {
					want, p, end, ok := plainNext(q, window, n)
					sends(t, q, window, n, want, p, end, ok)
				}
				p, end, ok := plainAgain(q, n)
				repeats(t, q, n, p, end, ok)
			}
			for d := -3; d < 261; d++ {
				want, n, e := plainAck(q, una+uint32(d))
				acks(t, q, una+uint32(d), want, n, e)
			}
		}
	}
}

// number is any number, often one near which something turns.
func number(chance *rand.Rand) uint32 {
	l := unas()
	return l[chance.Intn(len(l))] + uint32(chance.Intn(9)) - 4
}

// sender is one side that sends, and what is known of what it did.
type sender struct {
	q       api.Send
	from    uint32
	written []byte
	went    []byte // what Next told
	ended   bool   // Next told the end
	acked   int    // numbers
}

// write lets some bytes go.
func (s *sender) write(t *testing.T, data []byte) {
	t.Helper()
	n := min(len(data), buffer-len(s.q.Data))
	if s.q.End {
		n = 0
	}
	s.q = writes(t, s.q, string(data), n)
	s.written = append(s.written, data[:n]...)
}

// next lets a piece go: it must be what was written, in order, with its number.
func (s *sender) next(t *testing.T, window, mss int) (api.Piece, bool, bool) {
	t.Helper()
	want, p, end, ok := plainNext(s.q, window, mss)
	s.q = sends(t, s.q, window, mss, want, p, end, ok)
	if !ok {
		return p, end, ok
	}
	if s.ended || p.Seq != s.from+uint32(len(s.went)) {
		t.Fatalf("%d, but %d bytes from %d on went", p.Seq, len(s.went), s.from)
	}
	s.went = append(s.went, p.Data...)
	if !bytes.HasPrefix(s.written, s.went) || end && len(s.went) != len(s.written) {
		t.Fatalf("%d bytes were written, %d went, end: %t", len(s.written), len(s.went), end)
	}
	s.ended = s.ended || end
	return p, end, ok
}

// again lets a piece go once more: it went already, and wasn't acknowledged.
func (s *sender) again(t *testing.T, mss int) (api.Piece, bool, bool) {
	t.Helper()
	p, end, ok := plainAgain(s.q, mss)
	repeats(t, s.q, mss, p, end, ok)
	if !ok {
		return p, end, ok
	}
	at := int(p.Seq - s.from)
	if at != s.acked || at+len(p.Data) > len(s.went) || !bytes.Equal(p.Data, s.went[at:at+len(p.Data)]) || end && (!s.ended || at+len(p.Data) != len(s.went)) {
		t.Fatalf("%v, %t; %d are acknowledged, %d went, end: %t", p, end, s.acked, len(s.went), s.ended)
	}
	return p, end, ok
}

// ack lets numbers be acknowledged, so many in all.
func (s *sender) ack(t *testing.T, all int) {
	t.Helper()
	want, n, e := plainAck(s.q, s.from+uint32(all))
	most := len(s.went)
	if s.ended {
		most++
	}
	if wrong := all > most; wrong != (e == api.ErrArg) || !wrong && n != max(0, all-s.acked) {
		t.Fatal(all, s.acked, n, e)
	}
	s.q = acks(t, s.q, s.from+uint32(all), want, n, e)
	s.acked += n
}

// step does anything.
func (s *sender) step(t *testing.T, chance *rand.Rand) {
	t.Helper()
	switch chance.Intn(5) {
	case 0:
		data := make([]byte, chance.Intn(chance.Intn(300)+1))
		chance.Read(data)
		s.write(t, data)
	case 1, 2:
		s.next(t, chance.Intn(300)-5, chance.Intn(70)-3)
	case 3:
		s.again(t, chance.Intn(70)-3)
	default:
		s.ack(t, s.acked+chance.Intn(chance.Intn(280)+1)-5)
	}
}

// P18.4: whatever is written, sent, sent again and acknowledged: all goes out, in order, with its numbers, each byte once; what goes again went already.
func TestAnything(t *testing.T) {
	chance := rand.New(rand.NewSource(184))
	for range 500 {
		from := number(chance) - uint32(chance.Intn(700))
		s := &sender{q: New(from), from: from}
		for range chance.Intn(200) {
			s.step(t, chance)
		}
		s.q = Close(s.q)
		for range chance.Intn(30) {
			s.step(t, chance)
		}
		// From now on there is room.
		for !s.ended {
			if _, _, ok := s.next(t, 256, 64); !ok {
				t.Fatal(s.q)
			}
		}
		if !bytes.Equal(s.went, s.written) || Empty(s.q) != s.q.EndAcked {
			t.Fatal(s.q)
		}
		s.ack(t, len(s.written)+1)
		if !Empty(s.q) || !same(s.q, over(from+uint32(len(s.written))+1)) {
			t.Fatal(s.q)
		}
	}
}

// P18.4: over a wire that loses much, to one that takes what is next, all comes, in order, once, and the end behind it.
func TestLost(t *testing.T) {
	chance := rand.New(rand.NewSource(185))
	for range 100 {
		from := number(chance) - uint32(chance.Intn(700))
		s := &sender{q: New(from), from: from}
		all := make([]byte, chance.Intn(1500))
		chance.Read(all)
		var came []byte
		done := false
		take := func(p api.Piece, end, ok bool) {
			skip := len(came) - int(p.Seq-from)
			if !ok || done || chance.Intn(3) == 0 || skip < 0 || skip > len(p.Data) {
				return
			}
			came = append(came, p.Data[skip:]...)
			done = end
		}
		for steps := 0; !s.q.EndAcked; steps++ {
			if steps > 100000 {
				t.Fatal(s.q)
			}
			s.write(t, all[len(s.written):])
			if len(s.written) == len(all) {
				s.q = Close(s.q)
			}
			take(s.next(t, chance.Intn(200), 64))
			take(s.again(t, 64))
			if chance.Intn(3) > 0 {
				n := len(came)
				if done {
					n++
				}
				s.ack(t, n)
			}
		}
		if !bytes.Equal(came, all) || !done {
			t.Fatalf("%d of %d came", len(came), len(all))
		}
	}
}

// odd is one of any form.
func odd(chance *rand.Rand) api.Send {
	q := api.Send{Una: number(chance), Data: count(chance.Intn(1 + chance.Intn(600))), Sent: chance.Intn(620) - 10}
	if chance.Intn(3) == 0 {
		l := lengths()
		q.Sent = l[chance.Intn(len(l))]
	}
	if chance.Intn(3) == 0 {
		q.Sent = len(q.Data)
	}
	q.End, q.EndSent, q.EndAcked = chance.Intn(2) == 0, chance.Intn(2) == 0, chance.Intn(4) == 0
	return q
}

// answers are what all calls answer, one behind the other.
type answers struct {
	clone, wrote, shut, sent, acked api.Send
	n, room, flight, d              int
	next, again                     api.Piece
	flags                           [6]bool
	e                               api.Errno
}

// ask asks all calls.
func ask(q api.Send, data []byte, window, mss int, ack uint32) answers {
	a := answers{clone: Clone(q), shut: Close(q), room: Room(q), flight: Flight(q)}
	a.wrote, a.n = Write(q, data)
	a.sent, a.next, a.flags[0], a.flags[1] = Next(q, window, mss)
	a.again, a.flags[2], a.flags[3] = Again(q, mss)
	a.acked, a.d, a.e = Ack(q, ack)
	a.flags[4], a.flags[5] = Empty(q), Right(q)
	return a
}

// equal tells whether all answers are alike.
func (a answers) equal(b answers) bool {
	return same(a.clone, b.clone) && same(a.wrote, b.wrote) && same(a.shut, b.shut) && same(a.sent, b.sent) && same(a.acked, b.acked) &&
		a.n == b.n && a.room == b.room && a.flight == b.flight && a.d == b.d && a.e == b.e && a.flags == b.flags &&
		alike(a.next, b.next) && alike(a.again, b.again)
}

// P1: no argument makes a call panic, or go on for ever; P2: the same again answers the same, and what is handed in stays.
func TestNoPanic(t *testing.T) {
	chance := rand.New(rand.NewSource(186))
	ns := lengths()
	for range 50000 {
		q, data := odd(chance), count(chance.Intn(1+chance.Intn(1200)))
		window, mss, ack := ns[chance.Intn(len(ns))], ns[chance.Intn(len(ns))], number(chance)
		if chance.Intn(3) > 0 {
			ack = q.Una + uint32(chance.Intn(700)) - 50
		}
		was := copied(q)
		one, two := ask(q, data, window, mss, ack), ask(was, data, window, mss, ack)
		if !one.equal(two) || one.flags[5] != plainRight(was) || !same(one.clone, was) {
			t.Fatal(was, window, mss, ack)
		}
		stays(t, q, was)
		for _, next := range []api.Send{one.wrote, one.shut, one.sent, one.acked} {
			ask(next, data, window, mss, ack+1)
		}
	}
}

// P1: long lists come to their end.
func TestLong(t *testing.T) {
	for _, sent := range []int{math.MinInt, -1, 0, 1000, 1 << 20, 1 << 24, math.MaxInt} {
		for _, q := range []api.Send{open(7, text(1<<20), sent), closed(7, text(1<<20), sent), told(7, text(1<<20))} {
			is(t, q, false)
			for _, n := range lengths() {
				ask(q, count(1000), n, n, uint32(n))
			}
		}
	}
	writes(t, New(7), text(1<<24), 256)
}

// room is the same bytes, with others behind them.
func room(b []byte) []byte {
	whole := bytes.Repeat([]byte{'z'}, len(b)+400)
	return whole[:copy(whole, b)]
}

// scrub writes over bytes, and over what lies behind them.
func scrub(b []byte) {
	b = b[:cap(b)]
	for i := range b {
		b[i] = '#'
	}
}

// P2, and rules 3 and 4: what is handed in stays, what lies behind a list's length is neither read nor written, and what is answered shares no memory with what was handed in, nor with another answer.
func TestNothingShared(t *testing.T) {
	l := several(100)
	for _, odd := range []int{-1, 300} {
		l = append(l, open(100, text(9), odd), closed(100, text(9), odd), open(100, text(300), odd))
	}
	for _, q := range l {
		for _, data := range []string{"", "x", text(100), text(300)} {
			for _, n := range []int{-1, 0, 1, 3, 64, 256, 400} {
				shares(t, q, data, n, 256)
				shares(t, q, data, 64, n)
			}
		}
	}
}

// shares fails, if what the calls answer hangs on memory that others have.
func shares(t *testing.T, q api.Send, data string, window, mss int) {
	t.Helper()
	for _, ack := range []uint32{99, 100, 101, 103, 164, 356, 357} {
		want := ask(copied(q), []byte(data), window, mss, ack)
		given, bytesIn := q, room([]byte(data))
		given.Data = room(q.Data)
		was := string(given.Data[:cap(given.Data)])
		got := ask(given, bytesIn, window, mss, ack)
		if string(given.Data[:cap(given.Data)]) != was || !bytes.Equal(bytesIn[:cap(bytesIn)], append([]byte(data), bytes.Repeat([]byte{'z'}, 400)...)) {
			t.Fatalf("%v was changed, or what lies behind it", q)
		}
		scrub(given.Data)
		scrub(bytesIn)
		if !got.equal(want) {
			t.Fatalf("%v: the answer hangs on what was handed in, or on what lies behind it", q)
		}
		for _, own := range []func(answers) []byte{
			func(a answers) []byte { return a.clone.Data },
			func(a answers) []byte { return a.wrote.Data },
			func(a answers) []byte { return a.shut.Data },
			func(a answers) []byte { return a.sent.Data },
			func(a answers) []byte { return a.acked.Data },
			func(a answers) []byte { return a.next.Data },
			func(a answers) []byte { return a.again.Data },
		} {
			if !bytes.Equal(own(got), own(want)) {
				t.Fatalf("%v: an answer hangs on another one", q)
			}
			scrub(own(got))
		}
	}
}
