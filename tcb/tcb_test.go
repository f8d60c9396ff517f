package tcb

import (
	"bytes"
	"math"
	"math/rand"
	"reflect"
	"strings"
	"testing"

	"caravel/api"
	"caravel/recvq"
	"caravel/rto"
	"caravel/segment"
	"caravel/sendq"
	"caravel/seq"
)

// The chapter's numbers.
const (
	buffer     = 256
	mss        = 64
	maxTries   = 8
	holdClosed = 40
	firstWait  = 10
)

// Flags as they are used below.
const (
	fin = byte(api.FIN)
	syn = byte(api.SYN)
	rst = byte(api.RST)
	psh = byte(api.PSH)
	ack = byte(api.ACK)
)

// The ports and hosts of both sides.
var (
	me  = api.Addr{IP: api.IP{10, 0, 0, 1}, Port: 49152}
	you = api.Addr{IP: api.IP{10, 0, 0, 2}, Port: 80}
)

// base is the first numbers of both sides. What is told of them below counts bytes: the byte 0 is the first one, SYN is -1.
type base struct {
	mine, theirs uint32
}

// bases are some, of which some go round soon.
func bases() []base {
	return []base{
		{100, 300}, {0, 0}, {math.MaxUint32, math.MaxUint32}, {math.MaxUint32 - 1, 1<<31 - 1}, {1<<31 - 3, math.MaxUint32 - 60}, {math.MaxUint32 - 200, 1 << 31},
	}
}

// my is a number of this side.
func (b base) my(n int) uint32 { return b.mine + 1 + uint32(n) }

// your is a number of the other one.
func (b base) your(n int) uint32 { return b.theirs + 1 + uint32(n) }

// came is a segment of the other side.
func (b base) came(at int, flags byte, acked int, wnd uint16, data string) api.Segment {
	s := api.Segment{Src: 80, Dst: 49152, Seq: b.your(at), Flags: flags, Wnd: wnd, Data: []byte(data)}
	if flags&ack != 0 {
		s.Ack = b.my(acked)
	}
	return s
}

// went is a segment of this side.
func (b base) went(at int, flags byte, acked int, wnd uint16, data string) api.Segment {
	s := api.Segment{Src: 49152, Dst: 80, Seq: b.my(at), Flags: flags, Wnd: wnd, Data: []byte(data)}
	if flags&ack != 0 {
		s.Ack = b.your(acked)
	}
	if flags&syn != 0 {
		s.MSS = 64
	}
	return s
}

// dialling is an end that dialled at the time 50.
func (b base) dialling() api.Conn {
	return api.Conn{
		Phase: api.Dialling, Self: me, Peer: you, First: b.mine, Send: api.Send{Una: b.my(0)}, MSS: 64,
		Clock: api.Clock{Smooth: -1, Spread: -1, Wait: 10}, Due: 60, Timing: true, TimedSeq: b.my(0), TimedAt: 50,
	}
}

// dialled is one that was asked then.
func (b base) dialled() api.Conn {
	c := b.dialling()
	c.Phase, c.Recv.Next, c.Window = api.Dialled, b.your(0), 256
	return c
}

// open is one that is open since the time 53.
func (b base) open() api.Conn {
	c := b.dialled()
	c.Phase, c.Due, c.Timing = api.Open, 0, false
	c.Clock = api.Clock{Smooth: 24, Spread: 6, Wait: 9}
	return c
}

// sent is an open one that has sent bytes at the time 60, none of which was acknowledged.
func (b base) sent(data string) api.Conn {
	c := b.open()
	c.Send.Data, c.Send.Sent = []byte(data), len(data)
	c.Due, c.Timing, c.TimedSeq, c.TimedAt = 69, true, b.my(len(data)), 60
	return c
}

// wait1 is one that ended ahead of the other side, at the time 60; acked tells whether the other side knows.
func (b base) wait1(acked bool) api.Conn {
	c := b.open()
	c.Send.End, c.Send.EndSent, c.Ended = true, true, true
	c.Due, c.Timing, c.TimedSeq, c.TimedAt = 69, true, b.my(1), 60
	if acked {
		c.Send.EndAcked, c.Send.Una = true, b.my(1)
		c.Due, c.Timing = 0, false
	}
	return c
}

// left is an open one that the other side has ended.
func (b base) left() api.Conn {
	c := b.open()
	c.Recv = api.Recv{Next: b.your(1), Known: true, End: b.your(0), Done: true}
	return c
}

// last is one that ended behind the other side, at the time 60.
func (b base) last() api.Conn {
	c := b.left()
	c.Send.End, c.Send.EndSent = true, true
	c.Due, c.Timing, c.TimedSeq, c.TimedAt = 69, true, b.my(1), 60
	return c
}

// closing is one that ended first, and of which the other side doesn't know it, but has ended too.
func (b base) closing() api.Conn {
	c := b.last()
	c.Ended = true
	return c
}

// waiting is one that waits till the time 110.
func (b base) waiting() api.Conn {
	c := b.wait1(true)
	c.Phase, c.Recv, c.Until = api.Waiting, b.left().Recv, 110
	return c
}

// full is an open one, nobody of which has read for long.
func (b base) full() api.Conn {
	c := b.open()
	c.Recv.Data, c.Recv.Next = count(256), b.your(256)
	return c
}

// closed is one that is shut with a reason.
func closed(c api.Conn, why api.Errno) api.Conn {
	c.Phase, c.Err, c.Due, c.Timing = api.Closed, why, 0, false
	return c
}

// each is ends of all kinds.
func (b base) each() []api.Conn {
	l := []api.Conn{
		b.dialling(), b.dialled(), b.open(), b.sent("abc"), b.sent(text(200)), b.wait1(false), b.wait1(true), b.left(), b.last(), b.closing(), b.waiting(), b.full(),
	}
	for _, c := range l {
		l = append(l, closed(c, api.OK), closed(c, api.ErrReset))
	}
	written := b.dialling()
	written.Send.Data = []byte("abcdef")
	ended := b.dialled()
	ended.Send.Data, ended.Send.End, ended.Ended = []byte("abcdef"), true, true
	return append(l, written, ended)
}

// count is so many bytes, of which each is told from those near it.
func count(n int) []byte {
	b := make([]byte, n)
	for i := range b {
		b[i] = byte(1 + i + i/251*9)
	}
	return b
}

// text is so many bytes, as a text.
func text(n int) string { return string(count(n)) }

// copied is the same in other memory, by a way of its own.
func copied(c api.Conn) api.Conn {
	c.Send.Data = []byte(string(c.Send.Data))
	c.Recv.Data = []byte(string(c.Recv.Data))
	var ahead []api.Piece
	for _, p := range c.Recv.Ahead {
		ahead = append(ahead, api.Piece{Seq: p.Seq, Data: []byte(string(p.Data))})
	}
	c.Recv.Ahead = ahead
	return c
}

// copiedAll is segments in other memory.
func copiedAll(l []api.Segment) []api.Segment {
	var to []api.Segment
	for _, s := range l {
		s.Data = []byte(string(s.Data))
		to = append(to, s)
	}
	return to
}

// same tells whether two ends are alike, a list that is nil being an empty one.
func same(a, b api.Conn) bool { return reflect.DeepEqual(copied(a), copied(b)) }

// alike tells whether segments are.
func alike(a, b []api.Segment) bool { return reflect.DeepEqual(copiedAll(a), copiedAll(b)) }

// is fails, unless an end has become such a one, is right, and has sent these.
func is(t *testing.T, what string, from, got api.Conn, sent []api.Segment, want api.Conn, out []api.Segment) {
	t.Helper()
	if !same(got, want) || !alike(sent, out) {
		t.Fatalf("%s of\n%+v: \n%+v\nsends %+v; want\n%+v\nthat sends %+v", what, from, got, sent, want, out)
	}
	if !Right(got) {
		t.Fatalf("%s of\n%+v: \n%+v\nisn't right", what, from, got)
	}
}

// stays fails, unless what was handed in is as it was.
func stays(t *testing.T, c, was api.Conn) {
	t.Helper()
	if !same(c, was) {
		t.Fatalf("%+v was changed to %+v", was, c)
	}
}

// hears fails, unless an end that hears a segment becomes such a one, and sends these; it answers what it becomes.
func hears(t *testing.T, c api.Conn, s api.Segment, now uint64, want api.Conn, out ...api.Segment) api.Conn {
	t.Helper()
	was, given := copied(c), copiedAll([]api.Segment{s})
	got, sent := Hear(c, s, now)
	is(t, "Hear", was, got, sent, want, out)
	stays(t, c, was)
	if !alike(given, []api.Segment{s}) {
		t.Fatalf("%+v was changed", given)
	}
	return got
}

// ticks is likewise of Tick.
func ticks(t *testing.T, c api.Conn, now uint64, want api.Conn, out ...api.Segment) api.Conn {
	t.Helper()
	was := copied(c)
	got, sent := Tick(c, now)
	is(t, "Tick", was, got, sent, want, out)
	stays(t, c, was)
	return got
}

// closes is likewise of Close.
func closes(t *testing.T, c api.Conn, now uint64, want api.Conn, out ...api.Segment) api.Conn {
	t.Helper()
	was := copied(c)
	got, sent := Close(c, now)
	is(t, "Close", was, got, sent, want, out)
	stays(t, c, was)
	return got
}

// aborts is likewise of Abort.
func aborts(t *testing.T, c api.Conn, why api.Errno, want api.Conn, out ...api.Segment) {
	t.Helper()
	was := copied(c)
	got, sent := Abort(c, why)
	is(t, "Abort", was, got, sent, want, out)
	stays(t, c, was)
}

// writes is likewise of Write, that takes so many bytes.
func writes(t *testing.T, c api.Conn, data string, now uint64, n int, want api.Conn, out ...api.Segment) api.Conn {
	t.Helper()
	was, given := copied(c), []byte(data)
	got, took, sent, e := Write(c, given, now)
	if is(t, "Write", was, got, sent, want, out); took != n || e != api.OK || string(given) != data {
		t.Fatalf("Write(%+v, %q) took %d, %d; want %d", was, data, took, e, n)
	}
	stays(t, c, was)
	return got
}

// wontWrite fails, unless Write answers an error, and changes nothing.
func wontWrite(t *testing.T, c api.Conn, data string, e api.Errno) {
	t.Helper()
	was := copied(c)
	got, n, sent, err := Write(c, []byte(data), 90)
	if is(t, "Write", was, got, sent, was, nil); n != 0 || err != e {
		t.Fatalf("Write(%+v, %q) took %d, %d; want %d", was, data, n, err, e)
	}
	stays(t, c, was)
}

// reads fails, unless Read answers these bytes, and the end becomes such a one, and sends these.
func reads(t *testing.T, c api.Conn, n int, data string, want api.Conn, out ...api.Segment) api.Conn {
	t.Helper()
	was := copied(c)
	got, read, sent, e := Read(c, n, 90)
	if is(t, "Read", was, got, sent, want, out); string(read) != data || e != api.OK {
		t.Fatalf("Read(%+v, %d) = %q, %d; want %q", was, n, read, e, data)
	}
	stays(t, c, was)
	return got
}

// wontRead fails, unless Read answers an error, and changes nothing.
func wontRead(t *testing.T, c api.Conn, n int, e api.Errno) {
	t.Helper()
	was := copied(c)
	got, read, sent, err := Read(c, n, 90)
	if is(t, "Read", was, got, sent, was, nil); len(read) != 0 || err != e {
		t.Fatalf("Read(%+v, %d) = %q, %d; want %d", was, n, read, err, e)
	}
	stays(t, c, was)
}

// The chapter's example.
func TestExample(t *testing.T) {
	b := base{100, 300}
	a, out := Dial(me, you, 100, 50)
	if len(out) != 1 || out[0].Seq != 100 || out[0].Flags != syn {
		t.Fatal(out)
	}
	z, out := Answer(you, me, out[0], 300, 51)
	if len(out) != 1 || out[0].Seq != 300 || out[0].Ack != 101 || out[0].Flags != syn|ack || State(z) != "SYN-RECEIVED" {
		t.Fatal(out)
	}
	a, out = Hear(a, out[0], 53)
	if len(out) != 1 || out[0].Seq != 101 || out[0].Ack != 301 || out[0].Flags != ack || State(a) != "ESTABLISHED" {
		t.Fatal(out)
	}
	if !same(a, b.open()) {
		t.Fatal(a)
	}
	z, out = Hear(z, out[0], 54)
	if len(out) != 0 || State(z) != "ESTABLISHED" {
		t.Fatal(z, out)
	}
}

// P19.1: who dials sends SYN, and is to send it again after ten ticks.
func TestDial(t *testing.T) {
	for _, b := range bases() {
		got, sent := Dial(me, you, b.mine, 50)
		is(t, "Dial", api.Conn{}, got, sent, b.dialling(), []api.Segment{b.went(-1, syn, 0, 256, "")})
		for _, now := range []uint64{0, 1, 7, 1 << 40, 1<<62 - 10} {
			want := b.dialling()
			want.Due, want.TimedAt = now+firstWait, now
			got, sent := Dial(me, you, b.mine, now)
			is(t, "Dial", api.Conn{}, got, sent, want, []api.Segment{b.went(-1, syn, 0, 256, "")})
		}
	}
	other := api.Addr{IP: api.IP{1, 2, 3, 4}, Port: 65535}
	got, sent := Dial(other, me, 5, 50)
	if got.Self != other || got.Peer != me || sent[0].Src != 65535 || sent[0].Dst != 49152 {
		t.Fatal(got, sent)
	}
}

// P19.1: who is asked knows what the first segment tells, and answers it.
func TestAnswer(t *testing.T) {
	for _, b := range bases() {
		for _, tells := range []struct {
			mss  uint16
			want int
		}{{0, 64}, {1, 1}, {2, 2}, {63, 63}, {64, 64}, {65, 64}, {1460, 64}, {65535, 64}} {
			for _, wnd := range []uint16{0, 1, 64, 256, 65535} {
				s := b.came(-1, syn, 0, wnd, "")
				s.MSS = tells.mss
				want := b.dialled()
				want.Window, want.MSS = int(wnd), tells.want
				got, sent := Answer(me, you, s, b.mine, 50)
				is(t, "Answer", api.Conn{}, got, sent, want, []api.Segment{b.went(-1, syn|ack, 0, 256, "")})
			}
		}
		// What its first segment bears is sent once more, when both know of each other.
		got, sent := Answer(me, you, b.came(-1, syn|psh|fin, 0, 256, "abc"), b.mine, 50)
		is(t, "Answer", api.Conn{}, got, sent, b.dialled(), []api.Segment{b.went(-1, syn|ack, 0, 256, "")})
	}
}

// P19.1: what is refused is told so that its sender knows it for his.
func TestRefuse(t *testing.T) {
	for _, c := range []struct {
		s, want api.Segment
	}{
		{
			api.Segment{Src: 1, Dst: 2, Seq: 10, Ack: 20, Flags: ack, Wnd: 5, Data: []byte("abc")},
			api.Segment{Src: 2, Dst: 1, Seq: 20, Flags: rst},
		},
		{
			api.Segment{Src: 1, Dst: 2, Seq: 10, Ack: 20, Flags: ack | syn | fin | psh, Wnd: 5, MSS: 7},
			api.Segment{Src: 2, Dst: 1, Seq: 20, Flags: rst},
		},
		{
			api.Segment{Src: 1, Dst: 2, Seq: 10, Ack: 20, Flags: syn, Wnd: 5, MSS: 7},
			api.Segment{Src: 2, Dst: 1, Ack: 11, Flags: rst | ack},
		},
		{
			api.Segment{Src: 1, Dst: 2, Seq: 10, Flags: 0},
			api.Segment{Src: 2, Dst: 1, Ack: 10, Flags: rst | ack},
		},
		{
			api.Segment{Src: 1, Dst: 2, Seq: math.MaxUint32 - 2, Flags: psh | fin, Data: []byte("abc")},
			api.Segment{Src: 2, Dst: 1, Ack: 1, Flags: rst | ack},
		},
		{
			api.Segment{Src: 1, Dst: 2, Seq: math.MaxUint32, Flags: syn | fin, Data: []byte("a")},
			api.Segment{Src: 2, Dst: 1, Ack: 2, Flags: rst | ack},
		},
		{
			api.Segment{Src: 1, Dst: 2, Seq: 10, Ack: 30, Flags: rst | ack},
			api.Segment{Src: 2, Dst: 1, Seq: 30, Flags: rst},
		},
	} {
		if got := Refuse(c.s); !alike([]api.Segment{got}, []api.Segment{c.want}) {
			t.Fatalf("Refuse(%+v) = %+v, want %+v", c.s, got, c.want)
		}
	}
}

// P19.2: a closed end hears nothing.
func TestHearClosed(t *testing.T) {
	for _, b := range bases() {
		for _, c := range b.each() {
			if c.Phase != api.Closed {
				continue
			}
			for f := range byte(32) {
				for _, at := range []int{-1, 0, 1, 256} {
					hears(t, c, b.came(at, f, 0, 256, ""), 90, c)
					hears(t, c, b.came(at, f, 1, 0, "abc"), 90, c)
				}
			}
		}
	}
}

// P19.2: what a dialling end does of each segment that isn't the awaited one.
func TestHearDialling(t *testing.T) {
	for _, b := range bases() {
		c := b.dialling()
		for _, f := range []byte{rst | ack, rst | ack | syn, rst | ack | fin | psh} {
			hears(t, c, b.came(-1, f, 0, 9, ""), 53, closed(c, api.ErrRefused))
			hears(t, c, b.came(700, f, 0, 9, "abc"), 53, closed(c, api.ErrRefused))
			for _, acked := range []int{-2, -1, 1, 2, 1 << 31} {
				hears(t, c, b.came(-1, f, acked, 9, ""), 53, c)
			}
		}
		for _, f := range []byte{rst, rst | syn, rst | fin} {
			hears(t, c, b.came(-1, f, 0, 9, ""), 53, c)
			s := b.came(-1, f, 0, 9, "")
			s.Ack = b.my(0)
			hears(t, c, s, 53, c)
		}
		for _, f := range []byte{ack, ack | syn, ack | fin, ack | psh | syn} {
			for _, acked := range []int{-2, -1, 1, 2, 1 << 31} {
				no := api.Segment{Src: 49152, Dst: 80, Seq: b.my(acked), Flags: rst}
				hears(t, c, b.came(-1, f, acked, 9, "ab"), 53, c, no)
			}
		}
		for _, f := range []byte{0, fin, psh, fin | psh, ack, ack | fin, ack | psh} {
			hears(t, c, b.came(0, f, 0, 9, "ab"), 53, c)
		}
	}
}

// P19.2: a dialling end is open, once its number is acknowledged, and tells so.
func TestHearAnswer(t *testing.T) {
	for _, b := range bases() {
		c, out := b.dialling(), b.went(0, ack, 0, 256, "")
		s := b.came(-1, syn|ack, 0, 256, "")
		s.MSS = 64
		hears(t, c, s, 53, b.open(), out)
		hears(t, c, b.came(-1, syn|ack|fin|psh, 0, 256, "abc"), 53, b.open(), out)
		s.MSS, s.Wnd = 7, 99
		want := b.open()
		want.MSS, want.Window = 7, 99
		hears(t, c, s, 53, want, out)

		// Nothing is measured, where it isn't known which one is answered.
		again := b.dialling()
		again.Timing, again.Tries, again.Due, again.Clock.Wait = false, 3, 200, 80
		want = b.open()
		want.Clock = again.Clock
		hears(t, again, b.came(-1, syn|ack, 0, 256, ""), 190, want, out)
	}
}

// P19.2: what was written meanwhile goes, once it is open.
func TestHearAnswerPushed(t *testing.T) {
	for _, b := range bases() {
		c := writes(t, b.dialling(), "abcdefgh", 51, 8, func() api.Conn {
			c := b.dialling()
			c.Send.Data = []byte("abcdefgh")
			return c
		}())
		s := b.came(-1, syn|ack, 0, 7, "")
		s.MSS = 3
		want := b.open()
		want.Window, want.MSS = 7, 3
		want.Send.Data, want.Send.Sent = []byte("abcdefgh"), 7
		want.Due, want.Timing, want.TimedSeq, want.TimedAt = 53+9, true, b.my(3), 53
		hears(t, c, s, 53, want,
			b.went(0, ack, 0, 256, ""), b.went(0, ack|psh, 0, 256, "abc"), b.went(3, ack|psh, 0, 256, "def"), b.went(6, ack|psh, 0, 256, "g"))
	}
}

// P19.2: where both ask at the same time, both answer, and are open then.
func TestHearBoth(t *testing.T) {
	for _, b := range bases() {
		s := b.came(-1, syn, 0, 99, "abc")
		s.MSS = 65
		want := b.dialled()
		want.Window = 99
		answer := b.went(-1, syn|ack, 0, 256, "")
		c := hears(t, b.dialling(), s, 53, want, answer)
		hears(t, b.dialling(), b.came(-1, syn|fin|psh, 0, 99, "abc"), 53, want, answer)
		// The other one's answer has SYN too: it is told that it came; so it tells of this one, and that is what opens.
		c = hears(t, c, b.came(-1, syn|ack, 0, 99, ""), 53, want, b.went(0, ack, 0, 256, ""))
		want = b.open()
		want.Window = 88
		hears(t, c, b.came(0, ack, 0, 88, ""), 53, want)
	}
}

// P19.2: what breaks off is believed only within the window.
func TestHearReset(t *testing.T) {
	for _, b := range bases() {
		for _, c := range b.each() {
			if c.Phase == api.Closed || c.Phase == api.Dialling {
				continue
			}
			next, window := seq.Diff(c.Recv.Next, b.your(0)), buffer-len(c.Recv.Data)
			want := closed(c, api.ErrReset)
			if c.Phase == api.Waiting {
				want.Err = api.OK
			}
			for _, f := range []byte{rst, rst | ack, rst | syn, rst | fin | psh | ack} {
				for _, at := range []int{next - 2, next - 1, next + max(window, 1), next + 257, next + 1<<30} {
					hears(t, c, b.came(at, f, 0, 9, ""), 90, c)
					hears(t, c, b.came(at, f, 0, 9, text(700)), 90, c)
				}
				hears(t, c, b.came(next, f, 0, 9, ""), 90, want)
				hears(t, c, b.came(next, f, 77, 9, "abc"), 90, want)
				if window > 0 {
					hears(t, c, b.came(next+window-1, f, 0, 9, ""), 90, want)
				}
			}
		}
	}
}

// nextOf is the byte that an end sends next.
func nextOf(b base, c api.Conn) int {
	n := seq.Diff(c.Send.Una, b.my(0)) + c.Send.Sent
	if c.Send.EndSent && !c.Send.EndAcked {
		n++
	}
	return n
}

// acked is what an end sends that acknowledges.
func acked(b base, c api.Conn) api.Segment {
	return b.went(nextOf(b, c), ack, seq.Diff(c.Recv.Next, b.your(0)), uint16(buffer-len(c.Recv.Data)), "")
}

// P19.2: to SYN an end that knows of the other one answers what it awaits, nothing else.
func TestHearAgain(t *testing.T) {
	for _, b := range bases() {
		for _, c := range b.each() {
			if c.Phase == api.Closed || c.Phase == api.Dialling {
				continue
			}
			for _, f := range []byte{syn, syn | ack, syn | fin, syn | ack | psh} {
				for _, at := range []int{-1, 0, 5, 1000} {
					hears(t, c, b.came(at, f, 0, 9, ""), 90, c, acked(b, c))
					hears(t, c, b.came(at, f, 3, 9, "xyz"), 90, c, acked(b, c))
				}
			}
		}
	}
}

// P19.2: what lies beyond the window is answered, if it bears anything; nothing of it is taken.
func TestHearBeyond(t *testing.T) {
	for _, b := range bases() {
		for _, c := range []api.Conn{b.dialled(), b.open(), b.sent("abc"), b.wait1(false), b.wait1(true), b.left(), b.last(), b.closing(), b.waiting()} {
			next := seq.Diff(c.Recv.Next, b.your(0))
			for _, f := range []byte{0, ack, ack | psh} {
				for _, at := range []int{next - 1, next + 256, next + 300, next - 1<<30} {
					hears(t, c, b.came(at, f, 1, 9, ""), 90, c)
				}
				for _, at := range []int{next - 3, next - 700, next + 256, next + 9999} {
					hears(t, c, b.came(at, f, 1, 9, "abc"), 90, c, acked(b, c))
				}
				for _, at := range []int{next - 1, next - 4, next + 256} {
					hears(t, c, b.came(at, f|fin, 1, 9, ""), 90, c, acked(b, c))
				}
			}
		}
	}
}

// P19.2: of a segment without ACK nothing is taken, even if it fits.
func TestHearNoAck(t *testing.T) {
	for _, b := range bases() {
		for _, c := range []api.Conn{b.dialled(), b.open(), b.sent("abc"), b.wait1(true), b.left(), b.waiting()} {
			next := seq.Diff(c.Recv.Next, b.your(0))
			for _, f := range []byte{0, psh, fin, fin | psh} {
				s := b.came(next, f, 0, 9, "abc")
				hears(t, c, s, 90, c)
				s.Ack = b.my(1)
				hears(t, c, s, 90, c)
			}
		}
	}
}

// P19.2: if nothing fits, since nobody reads, what is acknowledged is taken all the same of those that are near.
func TestHearFull(t *testing.T) {
	for _, b := range bases() {
		c := b.full()
		c.Send.Data, c.Send.Sent = []byte("abc"), 2
		c.Window = 2
		c.Due, c.Timing, c.TimedSeq, c.TimedAt = 69, true, b.my(2), 60
		taken := c
		taken.Send = api.Send{Una: b.my(2), Data: []byte("c"), Sent: 1}
		taken.Clock, taken.Window, taken.Timing = rto.Measure(c.Clock, 5), 9, true
		taken.Due, taken.TimedSeq, taken.TimedAt = 65+uint64(taken.Clock.Wait), b.my(3), 65
		out := b.went(2, ack|psh, 256, 0, "c")
		hears(t, c, b.came(256, ack, 2, 9, ""), 65, taken, out)
		for _, at := range []int{257, 258} {
			hears(t, c, b.came(at, ack, 2, 9, ""), 65, taken, out)
		}
		for _, at := range []int{256, 257, 258} {
			hears(t, c, b.came(at, ack|fin, 2, 9, ""), 65, taken, out)
			hears(t, c, b.came(at, ack|psh, 2, 9, "x"), 65, taken, out)
			hears(t, c, b.came(at, psh, 0, 9, "x"), 65, c, acked(b, c))
			// What was sent answers it too; if nothing was, it is answered.
			tells := c
			tells.Window = 0
			hears(t, c, b.came(at, ack, 0, 0, ""), 65, tells)
			hears(t, c, b.came(at, ack|psh, 0, 0, "x"), 65, tells, acked(b, c))
			hears(t, c, b.came(at, ack|fin|psh, 0, 0, "x"), 65, tells, acked(b, c))
			// Of what wasn't sent nothing more than that is told.
			hears(t, c, b.came(at, ack|psh, 3, 9, "x"), 65, c, acked(b, c))
			hears(t, c, b.came(at, ack, 3, 9, ""), 65, c, acked(b, c))
		}
		for _, at := range []int{0, 254, 255, 259, 260, 512} {
			hears(t, c, b.came(at, ack, 2, 9, ""), 65, c)
			hears(t, c, b.came(at, ack|psh, 2, 9, "x"), 65, c, acked(b, c))
			hears(t, c, b.came(at, ack|fin, 2, 9, ""), 65, c, acked(b, c))
		}
		// Where one byte is still to come, the window isn't empty.
		c.Recv.Data, c.Recv.Next = count(255), b.your(255)
		hears(t, c, b.came(256, ack, 2, 9, ""), 65, c)
	}
}

// P19.2: an end that was asked is open, once its first number is acknowledged, and takes what came along; what is of another connection is refused.
func TestHearDialled(t *testing.T) {
	for _, b := range bases() {
		c := b.dialled()
		for _, acked := range []int{-2, -1, 1, 2, 1 << 31} {
			no := api.Segment{Src: 49152, Dst: 80, Seq: b.my(acked), Flags: rst}
			hears(t, c, b.came(0, ack, acked, 9, ""), 53, c, no)
			hears(t, c, b.came(0, ack|fin|psh, acked, 9, "abc"), 53, c, no)
		}
		hears(t, c, b.came(0, ack, 0, 256, ""), 53, b.open())
		hears(t, c, b.came(10, ack, 0, 256, ""), 53, b.open())
		want := b.open()
		want.Window, want.Recv = 9, api.Recv{Next: b.your(3), Data: []byte("abc")}
		hears(t, c, b.came(0, ack|psh, 0, 9, "abc"), 53, want, b.went(0, ack, 3, 253, ""))

		again := c
		again.Timing, again.Tries, again.Due, again.Clock.Wait = false, 3, 200, 80
		want = b.open()
		want.Clock = again.Clock
		hears(t, again, b.came(0, ack, 0, 256, ""), 190, want)

		// What was written, and the end, go at once; they answer what came.
		c.Send.Data, c.Send.End, c.Ended = []byte("xy"), true, true
		want = b.open()
		want.Send = api.Send{Una: b.my(0), Data: []byte("xy"), Sent: 2, End: true, EndSent: true}
		want.Recv, want.Ended = api.Recv{Next: b.your(3), Data: []byte("abc")}, true
		want.Due, want.Timing, want.TimedSeq, want.TimedAt = 62, true, b.my(3), 53
		hears(t, c, b.came(0, ack|psh, 0, 256, "abc"), 53, want, b.went(0, ack|psh|fin, 3, 253, "xy"))
	}
}

// P19.2: what is acknowledged is measured; the rest waits anew.
func TestHearAck(t *testing.T) {
	for _, b := range bases() {
		c := b.sent("abcdef")
		c.Tries, c.TimedSeq = 2, b.my(3)
		// Ahead of what is timed.
		want := c
		want.Send, want.Tries, want.Due = api.Send{Una: b.my(2), Data: []byte("cdef"), Sent: 4}, 0, 65+9
		hears(t, c, b.came(0, ack, 2, 256, ""), 65, want)
		// Just that, which lets the clock wait otherwise.
		want.Send = api.Send{Una: b.my(3), Data: []byte("def"), Sent: 3}
		want.Timing, want.Clock = false, api.Clock{Smooth: 24 - 3 + 5, Spread: 6 - 1 + 2, Wait: 3 + 7}
		want.Due = 65 + 10
		hears(t, c, b.came(0, ack, 3, 256, ""), 65, want)
		// All of it: nothing is due then.
		want.Send, want.Due = api.Send{Una: b.my(6)}, 0
		hears(t, c, b.came(0, ack, 6, 256, ""), 65, want)
		// Not timed: not measured.
		c.Timing, want.Timing, want.Clock = false, false, c.Clock
		hears(t, c, b.came(0, ack, 6, 256, ""), 65, want)
		// The end's number.
		c = b.wait1(false)
		want = b.wait1(true)
		want.Clock = rto.Measure(c.Clock, 5)
		hears(t, c, b.came(0, ack, 1, 256, ""), 65, want)
	}
}

// P19.2: what wasn't sent can't be acknowledged; what was already is nothing new.
func TestHearOldAck(t *testing.T) {
	for _, b := range bases() {
		c := b.sent("abc")
		c.Tries = 2
		for _, far := range []int{4, 5, 300, 1<<31 - 1} {
			hears(t, c, b.came(0, ack, far, 9, ""), 65, c, acked(b, c))
			hears(t, c, b.came(0, ack|fin|psh, far, 0, "xyz"), 65, c, acked(b, c))
		}
		for _, old := range []int{-1, -2, -300, -1 << 31} {
			hears(t, c, b.came(0, ack, old, 0, ""), 65, c)
			// Its bytes are as good as others.
			want := c
			want.Recv = api.Recv{Next: b.your(2), Data: []byte("xy")}
			hears(t, c, b.came(0, ack|psh, old, 0, "xy"), 65, want, acked(b, want))
		}
		w := b.waiting()
		hears(t, w, b.came(1, ack, 2, 9, ""), 90, w, acked(b, w))
		hears(t, w, b.came(1, ack, 0, 9, ""), 90, w)
	}
}

// P19.2: the window is what the other side tells who knows of all that was acknowledged; an empty one lets it be tried for ever.
func TestHearWindow(t *testing.T) {
	for _, b := range bases() {
		c := b.sent("abc")
		c.Tries = 5
		for _, wnd := range []uint16{1, 2, 256, 65535} {
			want := c
			want.Window = int(wnd)
			hears(t, c, b.came(0, ack, 0, wnd, ""), 65, want)
			hears(t, c, b.came(0, ack, -1, wnd, ""), 65, c)
		}
		want := c
		want.Window, want.Tries = 0, 0
		hears(t, c, b.came(0, ack, 0, 0, ""), 65, want)

		// Once there is room, more goes; what was timed is timed still.
		c.Send.Data = []byte("abcdefgh")
		want = c
		want.Window, want.Send.Sent = 5, 5
		hears(t, c, b.came(0, ack, 0, 5, ""), 65, want, b.went(3, ack|psh, 0, 256, "de"))
		want.Window, want.Send.Sent = 3, 3
		hears(t, c, b.came(0, ack, 0, 3, ""), 65, want)
		// With nothing in flight one byte is tried.
		want.Window, want.Tries, want.Clock = 0, 0, rto.Measure(c.Clock, 5)
		want.Send = api.Send{Una: b.my(3), Data: []byte("defgh"), Sent: 1}
		want.Due, want.TimedSeq, want.TimedAt = 65+uint64(want.Clock.Wait), b.my(4), 65
		hears(t, c, b.came(0, ack, 3, 0, ""), 65, want, b.went(3, ack|psh, 0, 256, "d"))
	}
}

// P19.2: what comes is put in order; each that bears anything is answered, with what goes, if anything does.
func TestHearData(t *testing.T) {
	for _, b := range bases() {
		c := b.open()
		want := c
		want.Recv.Ahead = []api.Piece{{Seq: b.your(2), Data: []byte("cd")}}
		ahead := hears(t, c, b.came(2, ack|psh, 0, 256, "cd"), 65, want, b.went(0, ack, 0, 256, ""))
		want.Recv = api.Recv{Next: b.your(4), Data: []byte("abcd")}
		all := hears(t, ahead, b.came(0, ack|psh, 0, 256, "abX"), 65, want, b.went(0, ack, 4, 252, ""))
		hears(t, all, b.came(2, ack|psh, 0, 256, "cd"), 65, want, b.went(0, ack, 4, 252, ""))
		want.Recv = api.Recv{Next: b.your(6), Data: []byte("abcdef")}
		hears(t, all, b.came(3, ack, 0, 256, "def"), 65, want, b.went(0, ack, 6, 250, ""))
		hears(t, all, b.came(4, ack, 0, 256, ""), 65, all)

		// Of what goes beyond the window the beginning is taken.
		want = b.full()
		hears(t, c, b.came(0, ack, 0, 256, text(300)), 65, want, b.went(0, ack, 256, 0, ""))

		// What goes is answer enough.
		c = b.sent("ab")
		c.Send.Data = []byte("abcd")
		c.Window = 2
		want = c
		want.Window, want.Send.Sent = 256, 4
		want.Recv = api.Recv{Next: b.your(1), Data: []byte("x")}
		hears(t, c, b.came(0, ack|psh, 0, 256, "x"), 65, want, b.went(2, ack|psh, 1, 255, "cd"))
	}
}

// P19.2: the other side's end is taken behind all that it sent, and answered.
func TestHearEnd(t *testing.T) {
	for _, b := range bases() {
		hears(t, b.open(), b.came(0, ack|fin, 0, 256, ""), 65, b.left(), b.went(0, ack, 1, 256, ""))
		want := b.open()
		want.Recv = api.Recv{Next: b.your(4), Data: []byte("abc"), Known: true, End: b.your(3), Done: true}
		hears(t, b.open(), b.came(0, ack|fin|psh, 0, 256, "abc"), 65, want, b.went(0, ack, 4, 253, ""))
		want.Recv = api.Recv{Next: b.your(0), Known: true, End: b.your(3)}
		c := hears(t, b.open(), b.came(3, ack|fin, 0, 256, ""), 65, want, b.went(0, ack, 0, 256, ""))
		want.Recv = api.Recv{Next: b.your(4), Data: []byte("abc"), Known: true, End: b.your(3), Done: true}
		c = hears(t, c, b.came(0, ack|psh, 0, 256, "abc"), 65, want, b.went(0, ack, 4, 253, ""))
		hears(t, c, b.came(3, ack|fin, 0, 256, ""), 65, want, b.went(0, ack, 4, 253, ""))

		// A dialled one takes it too.
		hears(t, b.dialled(), b.came(0, ack|fin, 0, 256, ""), 53, b.left(), b.went(0, ack, 1, 256, ""))
	}
}

// P19.2: when both sides have ended, the one that ended first waits, the other one is closed.
func TestHearOver(t *testing.T) {
	for _, b := range bases() {
		answer := b.went(1, ack, 1, 256, "")
		// FIN-WAIT-2.
		hears(t, b.wait1(true), b.came(0, ack|fin, 1, 256, ""), 70, b.waiting(), answer)
		// FIN-WAIT-1, by one segment.
		want := b.waiting()
		want.Clock = rto.Measure(want.Clock, 10)
		hears(t, b.wait1(false), b.came(0, ack|fin, 1, 256, ""), 70, want, answer)
		// FIN-WAIT-1, by CLOSING.
		c := hears(t, b.wait1(false), b.came(0, ack|fin, 0, 256, ""), 70, b.closing(), answer)
		hears(t, c, b.came(1, ack, 1, 256, ""), 70, want)
		// LAST-ACK.
		shut := closed(b.last(), api.OK)
		shut.Send = api.Send{Una: b.my(1), End: true, EndSent: true, EndAcked: true}
		shut.Clock = want.Clock
		hears(t, b.last(), b.came(1, ack, 1, 256, ""), 70, shut)
		// Nothing was read yet: it is over all the same, and can be read.
		unread := b.last()
		unread.Recv = api.Recv{Next: b.your(4), Data: []byte("abc"), Known: true, End: b.your(3), Done: true}
		shut.Recv = unread.Recv
		got := hears(t, unread, b.came(4, ack, 1, 256, ""), 70, shut)
		shut.Recv.Data = nil
		reads(t, got, 9, "abc", shut)
		// In CLOSE-WAIT, and while this side's end isn't acknowledged, it isn't over.
		hears(t, b.left(), b.came(1, ack, 0, 256, ""), 70, b.left())
		hears(t, b.last(), b.came(1, ack, 0, 256, ""), 70, b.last())
	}
}

// P19.2: one that waits answers an end that comes once more, and waits no longer for it.
func TestHearWaiting(t *testing.T) {
	for _, b := range bases() {
		c := b.waiting()
		hears(t, c, b.came(0, ack|fin, 1, 256, ""), 90, c, b.went(1, ack, 1, 256, ""))
		tells := c
		tells.Window = 7
		hears(t, c, b.came(1, ack, 1, 7, ""), 90, tells)
		hears(t, c, b.came(1, ack|psh, 1, 7, "abc"), 90, tells, b.went(1, ack, 1, 256, ""))
	}
}

// P19.3: what is written goes as far as there is room, and as the other side takes it.
func TestWrite(t *testing.T) {
	for _, b := range bases() {
		want := b.sent("abc")
		writes(t, b.open(), "abc", 60, 3, want, b.went(0, ack|psh, 0, 256, "abc"))
		// In pieces.
		all := text(300)
		want = b.sent(all[:256])
		want.TimedSeq = b.my(64)
		c := writes(t, b.open(), all, 60, 256, want,
			b.went(0, ack|psh, 0, 256, all[:64]), b.went(64, ack|psh, 0, 256, all[64:128]),
			b.went(128, ack|psh, 0, 256, all[128:192]), b.went(192, ack|psh, 0, 256, all[192:256]))
		wontWrite(t, c, "x", api.ErrWait)
		writes(t, c, "", 61, 0, c)
		// Behind what is in flight: what is timed, and due, stays.
		want = b.sent("abc")
		want.Send.Data, want.Send.Sent = []byte("abcde"), 5
		writes(t, b.sent("abc"), "de", 65, 2, want, b.went(3, ack|psh, 0, 256, "de"))
		// No more than the window.
		c = b.sent("abc")
		c.Window = 4
		want = c
		want.Send.Data, want.Send.Sent = []byte("abcde"), 4
		writes(t, c, "de", 65, 2, want, b.went(3, ack|psh, 0, 256, "d"))
		c.Window = 3
		want.Window, want.Send.Sent = 3, 3
		writes(t, c, "de", 65, 2, want)
		c.Window, want.Window = 0, 0
		writes(t, c, "de", 65, 2, want)
		// In small pieces, as the other side told.
		c = b.open()
		c.MSS = 2
		want = b.sent("abc")
		want.MSS, want.TimedSeq = 2, b.my(2)
		writes(t, c, "abc", 60, 3, want, b.went(0, ack|psh, 0, 256, "ab"), b.went(2, ack|psh, 0, 256, "c"))
		// It tells what came meanwhile.
		c = b.left()
		want = c
		want.Send, want.Due = b.sent("abc").Send, 69
		want.Timing, want.TimedSeq, want.TimedAt = true, b.my(3), 60
		writes(t, c, "abc", 60, 3, want, b.went(0, ack|psh, 1, 256, "abc"))
	}
}

// P19.3: an empty window is tried with one byte, if nothing is in flight.
func TestWriteTries(t *testing.T) {
	for _, b := range bases() {
		c := b.open()
		c.Window = 0
		want := b.sent("abc")
		want.Window, want.Send.Sent, want.TimedSeq = 0, 1, b.my(1)
		writes(t, c, "abc", 60, 3, want, b.went(0, ack|psh, 0, 256, "a"))
	}
}

// P19.3: what is written to an end that isn't open yet waits; an end that is closed, or ends, takes nothing.
func TestWriteNot(t *testing.T) {
	for _, b := range bases() {
		for _, c := range []api.Conn{b.dialling(), b.dialled()} {
			want := c
			want.Send.Data = count(256)
			c = writes(t, c, text(257), 51, 256, want)
			wontWrite(t, c, "x", api.ErrWait)
			writes(t, c, "", 51, 0, c)
		}
		ended := b.dialled()
		ended.Send.End, ended.Ended = true, true
		for _, data := range []string{"", "x", text(300)} {
			for _, c := range b.each() {
				if c.Phase == api.Closed && c.Err != api.OK {
					wontWrite(t, c, data, c.Err)
				} else if c.Phase == api.Closed {
					wontWrite(t, c, data, api.ErrState)
				}
			}
			for _, c := range []api.Conn{b.waiting(), b.wait1(false), b.wait1(true), b.last(), b.closing(), ended} {
				wontWrite(t, c, data, api.ErrState)
			}
			for _, why := range []api.Errno{api.ErrTimeout, api.ErrRefused, api.ErrRoute} {
				wontWrite(t, closed(b.last(), why), data, why)
			}
		}
	}
}

// P19.3: bytes are read, so many at most; if there was little room, the other side is told that there is more.
func TestRead(t *testing.T) {
	for _, b := range bases() {
		for _, n := range []int{1, 2, 3, 191, 192, 193, 194, 255, 256} {
			for _, most := range []int{1, 2, 64, 192, 193, 256, 257, math.MaxInt} {
				c := b.open()
				c.Recv.Data, c.Recv.Next = count(n), b.your(n)
				went := min(n, most)
				want := c
				want.Recv.Data = c.Recv.Data[went:]
				var out []api.Segment
				if n > 192 {
					out = append(out, b.went(0, ack, n, uint16(256-n+went), ""))
				}
				reads(t, c, most, text(n)[:went], want, out...)
			}
		}
		c := b.full()
		c.Send.Data, c.Send.Sent, c.MSS = []byte("abcd"), 3, 1
		want := c
		want.Recv.Data = c.Recv.Data[9:]
		reads(t, c, 9, text(9), want, b.went(3, ack, 256, 9, ""))
		// The other side's MSS doesn't count.
		c.Recv.Data, c.Recv.Next = count(100), b.your(100)
		want.Recv.Data, want.Recv.Next = c.Recv.Data[9:], b.your(100)
		reads(t, c, 9, text(9), want)
	}
}

// P19.3: bytes that came can be read to the end, whatever became of the end since; nobody is told any more.
func TestReadClosed(t *testing.T) {
	for _, b := range bases() {
		for _, why := range []api.Errno{api.OK, api.ErrReset, api.ErrTimeout} {
			c := closed(b.full(), why)
			want := c
			want.Recv.Data = c.Recv.Data[200:]
			c = reads(t, c, 200, text(200), want)
			want.Recv.Data = nil
			c = reads(t, c, 200, text(256)[200:], want)
			if why == api.OK {
				wontRead(t, c, 1, api.ErrState)
			} else {
				wontRead(t, c, 1, why)
			}
		}
		c := b.waiting()
		c.Recv = api.Recv{Next: b.your(257), Data: count(256), Known: true, End: b.your(256), Done: true}
		want := c
		want.Recv.Data = nil
		wontRead(t, reads(t, c, 256, text(256), want), 1, api.ErrEnd)
	}
}

// P19.3: why nothing can be read.
func TestReadNot(t *testing.T) {
	for _, b := range bases() {
		for _, c := range b.each() {
			for _, n := range []int{0, -1, -256, math.MinInt} {
				wontRead(t, c, n, api.ErrArg)
			}
			if len(c.Recv.Data) > 0 {
				continue
			}
			e := api.ErrWait
			switch {
			case c.Recv.Done:
				e = api.ErrEnd
			case c.Phase == api.Closed && c.Err == api.OK:
				e = api.ErrState
			case c.Phase == api.Closed:
				e = c.Err
			}
			for _, n := range []int{1, 9, math.MaxInt} {
				wontRead(t, c, n, e)
			}
		}
		ahead := b.open()
		ahead.Recv.Ahead = []api.Piece{{Seq: b.your(1), Data: []byte("b")}}
		wontRead(t, ahead, 1, api.ErrWait)
	}
}

// P19.4: each end ends behind what was written.
func TestClose(t *testing.T) {
	for _, b := range bases() {
		closes(t, b.dialling(), 60, closed(b.dialling(), api.OK))
		want := b.dialled()
		want.Send.End, want.Ended = true, true
		closes(t, b.dialled(), 60, want)
		closes(t, b.open(), 60, b.wait1(false), b.went(0, ack|fin, 0, 256, ""))
		closes(t, b.left(), 60, b.last(), b.went(0, ack|fin, 1, 256, ""))
		for _, c := range b.each() {
			if c.Phase == api.Closed || c.Phase == api.Waiting || c.Phase == api.Open && c.Send.End || c.Phase == api.Dialled && c.Send.End {
				closes(t, c, 60, c)
			}
		}
		// Behind what is in flight.
		want = b.sent("abc")
		want.Send.End, want.Send.EndSent, want.Ended = true, true, true
		closes(t, b.sent("abc"), 65, want, b.went(3, ack|fin, 0, 256, ""))
		// Behind what waits for room: not yet.
		c := b.sent("abc")
		c.Window, c.Send.Sent = 2, 2
		want = c
		want.Send.End, want.Ended = true, true
		closes(t, c, 65, want)
		// The end needs no room.
		c.Send.Sent, want.Send.Sent, want.Send.EndSent = 3, 3, true
		closes(t, c, 65, want, b.went(3, ack|fin, 0, 256, ""))
		c = b.open()
		c.Window = 0
		want = b.wait1(false)
		want.Window = 0
		closes(t, c, 60, want, b.went(0, ack|fin, 0, 256, ""))
	}
}

// P19.4: who breaks off tells the other side, if it may know of this one.
func TestAbort(t *testing.T) {
	for _, b := range bases() {
		for _, why := range []api.Errno{api.OK, api.ErrReset, api.ErrFrozen} {
			for _, c := range b.each() {
				switch c.Phase {
				case api.Closed:
					aborts(t, c, why, c)
				case api.Dialling, api.Waiting:
					aborts(t, c, why, closed(c, why))
				default:
					no := acked(b, c)
					no.Flags, no.Wnd = rst|ack, 0
					aborts(t, c, why, closed(c, why), no)
				}
			}
		}
		aborts(t, b.dialled(), api.ErrReset, closed(b.dialled(), api.ErrReset), b.went(0, rst|ack, 0, 0, ""))
		aborts(t, b.sent("abc"), api.ErrReset, closed(b.sent("abc"), api.ErrReset), b.went(3, rst|ack, 0, 0, ""))
		aborts(t, b.last(), api.ErrReset, closed(b.last(), api.ErrReset), b.went(1, rst|ack, 1, 0, ""))
	}
}

// P19.4: one that waits is closed in time.
func TestTickWaiting(t *testing.T) {
	for _, b := range bases() {
		c := b.waiting()
		for _, now := range []uint64{70, 90, 109} {
			ticks(t, c, now, c)
		}
		for _, now := range []uint64{110, 111, 1 << 62} {
			ticks(t, c, now, closed(c, api.OK))
		}
	}
}

// P19.4: ahead of its time nothing goes once more, and nothing of an end of which nothing is due.
func TestTickEarly(t *testing.T) {
	for _, b := range bases() {
		for _, c := range b.each() {
			for now := range uint64(60) {
				ticks(t, c, now, c)
			}
			if c.Due == 0 && c.Phase != api.Waiting {
				for _, now := range []uint64{0, 60, 69, 1000, 1 << 62} {
					ticks(t, c, now, c)
				}
			}
		}
	}
}

// P19.4: what is due goes once more, and waits twice as long.
func TestTick(t *testing.T) {
	for _, b := range bases() {
		for _, late := range []uint64{0, 1, 100} {
			for _, c := range []api.Conn{b.dialling(), b.dialled()} {
				flags := syn
				if c.Phase == api.Dialled {
					flags = syn | ack
				}
				want := c
				want.Tries, want.Clock.Wait, want.Timing, want.Due = 1, 20, false, 60+late+20
				c = ticks(t, c, 60+late, want, b.went(-1, flags, 0, 256, ""))
				ticks(t, c, want.Due-1, c)
				again := want
				again.Tries, again.Clock.Wait, again.Due = 2, 40, want.Due+40
				ticks(t, c, want.Due, again, b.went(-1, flags, 0, 256, ""))
			}
			at := 69 + late
			doubled := func(c api.Conn) api.Conn {
				c.Tries, c.Clock.Wait, c.Timing, c.Due = 1, 18, false, at+18
				return c
			}
			ticks(t, b.sent("abc"), at, doubled(b.sent("abc")), b.went(0, ack|psh, 0, 256, "abc"))
			ticks(t, b.sent(text(200)), at, doubled(b.sent(text(200))), b.went(0, ack|psh, 0, 256, text(64)))
			ticks(t, b.wait1(false), at, doubled(b.wait1(false)), b.went(0, ack|fin, 0, 256, ""))
			ticks(t, b.last(), at, doubled(b.last()), b.went(0, ack|fin, 1, 256, ""))
			both := b.sent("abc")
			both.Send.End, both.Send.EndSent, both.Ended, both.MSS = true, true, true, 3
			ticks(t, both, at, doubled(both), b.went(0, ack|fin|psh, 0, 256, "abc"))
			both.MSS = 2
			ticks(t, both, at, doubled(both), b.went(0, ack|psh, 0, 256, "ab"))
			// What wasn't sent yet doesn't go, and the window doesn't matter.
			some := b.sent("abcdef")
			some.Send.Sent, some.Window = 4, 0
			ticks(t, some, at, doubled(some), b.went(0, ack|psh, 0, 256, "abcd"))
			// If there is nothing, nothing is due.
			none := b.open()
			none.Due, none.Timing = 69, true
			want := doubled(none)
			want.Due = 0
			ticks(t, none, at, want)
		}
	}
}

// P19.4: after eight tries it gives up; the wait is bounded.
func TestTickTimeout(t *testing.T) {
	for _, b := range bases() {
		for _, c := range []api.Conn{b.dialling(), b.dialled(), b.sent("abc"), b.wait1(false), b.last()} {
			for n := range maxTries {
				wait := min(2*c.Clock.Wait, 240)
				got, sent := Tick(c, c.Due)
				if len(sent) != 1 || got.Tries != n+1 || got.Clock.Wait != wait || got.Due != c.Due+uint64(wait) || got.Phase != c.Phase || !Right(got) {
					t.Fatal(c, got, sent)
				}
				c = got
			}
			ticks(t, c, c.Due-1, c)
			ticks(t, c, c.Due, closed(c, api.ErrTimeout))
			ticks(t, c, c.Due+1000, closed(c, api.ErrTimeout))
		}
	}
}

// P19.5: the names of the states.
func TestState(t *testing.T) {
	for _, b := range bases() {
		for _, c := range []struct {
			c    api.Conn
			want string
		}{
			{api.Conn{}, "CLOSED"}, {b.dialling(), "SYN-SENT"}, {b.dialled(), "SYN-RECEIVED"}, {b.open(), "ESTABLISHED"}, {b.sent("abc"), "ESTABLISHED"}, {b.full(), "ESTABLISHED"},
			{b.wait1(false), "FIN-WAIT-1"}, {b.wait1(true), "FIN-WAIT-2"}, {b.left(), "CLOSE-WAIT"}, {b.closing(), "CLOSING"}, {b.last(), "LAST-ACK"}, {b.waiting(), "TIME-WAIT"},
		} {
			if was := copied(c.c); State(c.c) != c.want || !same(c.c, was) {
				t.Fatal(c.c, State(c.c))
			}
			for _, why := range []api.Errno{api.OK, api.ErrReset} {
				if shut := closed(c.c, why); State(shut) != "CLOSED" {
					t.Fatal(shut, State(shut))
				}
			}
		}
		// It ends, once it was asked to, though that didn't go yet.
		c := b.sent("abc")
		c.Send.Sent, c.Send.End, c.Ended = 1, true, true
		if State(c) != "FIN-WAIT-1" {
			t.Fatal(State(c))
		}
		c.Recv = b.left().Recv
		if State(c) != "CLOSING" {
			t.Fatal(State(c))
		}
		c.Ended = false
		if State(c) != "LAST-ACK" {
			t.Fatal(State(c))
		}
	}
}

// P19.5: what is right of all kinds.
func TestRight(t *testing.T) {
	for _, b := range bases() {
		for _, c := range b.each() {
			if was := copied(c); !Right(c) || !same(c, was) {
				t.Fatalf("%+v is right", c)
			}
			for i, turn := range []func(c *api.Conn){
				func(c *api.Conn) { c.Phase = -1 },
				func(c *api.Conn) { c.Phase = 5 },
				func(c *api.Conn) { c.Send.Sent = -1 },
				func(c *api.Conn) { c.Send.Sent = 257 },
				func(c *api.Conn) { c.Send.Data = count(257) },
				func(c *api.Conn) { c.Recv.Data = count(257) },
				func(c *api.Conn) { c.Recv.Ahead = []api.Piece{{Seq: c.Recv.Next, Data: []byte("a")}} },
				func(c *api.Conn) { c.Clock.Wait = 3 },
				func(c *api.Conn) { c.Clock.Wait = 241 },
				func(c *api.Conn) { c.Clock.Smooth = -2 },
				func(c *api.Conn) { c.Window = -1 },
				func(c *api.Conn) { c.Window = 65536 },
				func(c *api.Conn) { c.MSS = 0 },
				func(c *api.Conn) { c.MSS = 65 },
				func(c *api.Conn) { c.MSS = -1 },
				func(c *api.Conn) { c.Tries = -1 },
				func(c *api.Conn) { c.Tries = 9 },
			} {
				wrong := copied(c)
				if turn(&wrong); Right(wrong) {
					t.Fatalf("%d: %+v is right", i, wrong)
				}
			}
			for i, turn := range []func(c *api.Conn){
				func(c *api.Conn) { c.Window = 0 },
				func(c *api.Conn) { c.Window = 65535 },
				func(c *api.Conn) { c.MSS = 1 },
				func(c *api.Conn) { c.MSS = 64 },
				func(c *api.Conn) { c.Tries = 0 },
				func(c *api.Conn) { c.Tries = 8 },
				func(c *api.Conn) { c.Clock.Wait = 240 },
				func(c *api.Conn) { c.Until = 7 },
			} {
				still := copied(c)
				if turn(&still); !Right(still) {
					t.Fatalf("%d: %+v isn't right", i, still)
				}
			}
		}
	}
	if Right(api.Conn{}) {
		t.Fatal("nothing is no end")
	}
}

// turned fails, unless an end that is turned in something is right, or isn't.
func turned(t *testing.T, c api.Conn, want bool, turn func(c *api.Conn)) {
	t.Helper()
	c = copied(c)
	if turn(&c); Right(c) != want {
		t.Fatalf("Right(%+v) = %t", c, !want)
	}
}

// P19.5: what is right of an end of each phase.
func TestRightPhase(t *testing.T) {
	for _, b := range bases() {
		for _, c := range []api.Conn{b.dialling(), b.dialled()} {
			turned(t, c, true, func(c *api.Conn) { c.Send.Data, c.Send.End = []byte("abc"), true })
			turned(t, c, true, func(c *api.Conn) { c.Timing = false })
			turned(t, c, false, func(c *api.Conn) { c.Send.Data, c.Send.Sent = []byte("abc"), 1 })
			turned(t, c, false, func(c *api.Conn) { c.Send.End, c.Send.EndSent = true, true })
			turned(t, c, false, func(c *api.Conn) { c.Send.End, c.Send.EndSent, c.Send.EndAcked = true, true, true })
			turned(t, c, false, func(c *api.Conn) { c.Send.Una++ })
			turned(t, c, false, func(c *api.Conn) { c.Send.Una-- })
			turned(t, c, false, func(c *api.Conn) { c.First++ })
			turned(t, c, false, func(c *api.Conn) { c.Due = 0 })
			turned(t, c, false, func(c *api.Conn) { c.Err = api.ErrReset })
		}
		turned(t, b.open(), false, func(c *api.Conn) { c.Err = api.ErrReset })
		turned(t, b.open(), true, func(c *api.Conn) { c.Due = 70 })
		turned(t, b.last(), false, func(c *api.Conn) { c.Send.EndAcked = true })
		turned(t, b.closing(), false, func(c *api.Conn) { c.Send.EndAcked = true })
		turned(t, b.waiting(), false, func(c *api.Conn) { c.Phase = api.Open })

		turned(t, b.waiting(), false, func(c *api.Conn) { c.Recv = b.open().Recv })
		turned(t, b.waiting(), false, func(c *api.Conn) { c.Send.EndAcked = false })
		turned(t, b.waiting(), false, func(c *api.Conn) { c.Ended = false })
		turned(t, b.waiting(), false, func(c *api.Conn) { c.Due = 70 })
		turned(t, b.waiting(), false, func(c *api.Conn) { c.Timing = true })
		turned(t, b.waiting(), false, func(c *api.Conn) { c.Err = api.ErrReset })
		turned(t, b.waiting(), true, func(c *api.Conn) { c.Recv.Data = []byte("abc") })

		for _, c := range b.each() {
			if c.Phase == api.Closed {
				turned(t, c, true, func(c *api.Conn) { c.Err = api.ErrTimeout })
				turned(t, c, false, func(c *api.Conn) { c.Due = 70 })
				turned(t, c, false, func(c *api.Conn) { c.Timing = true })
			}
		}
	}
}

// P19: a clone is the same, whatever it is of.
func TestClone(t *testing.T) {
	for _, b := range bases() {
		for _, c := range append(b.each(), api.Conn{}) {
			c.Recv.Ahead = []api.Piece{{Seq: 7, Data: []byte("abc")}, {Seq: 90, Data: []byte("d")}}
			was := copied(c)
			got := Clone(c)
			if !same(got, was) {
				t.Fatalf("Clone(%+v) = %+v", was, got)
			}
			for _, l := range lists(got, nil) {
				scrub(l)
			}
			stays(t, c, was)
		}
	}
}

// plain is an end that is stepped by the chapter's words, one by one.
type plain struct {
	api.Conn
	now  uint64
	sent []api.Segment
}

func (p *plain) window() int { return buffer - len(p.Recv.Data) }

func (p *plain) flight() int {
	if p.Send.EndSent && !p.Send.EndAcked {
		return p.Send.Sent + 1
	}
	return p.Send.Sent
}

func (p *plain) out(number uint32, flags byte, data []byte) {
	s := api.Segment{Src: p.Self.Port, Dst: p.Peer.Port, Seq: number, Flags: flags, Wnd: uint16(p.window()), Data: data}
	if flags&ack != 0 {
		s.Ack = p.Recv.Next
	}
	if flags&syn != 0 {
		s.MSS = mss
	}
	p.sent = append(p.sent, s)
}

func (p *plain) ack() { p.out(p.Send.Una+uint32(p.flight()), ack, nil) }

func (p *plain) shut(why api.Errno) { p.Phase, p.Err, p.Due, p.Timing = api.Closed, why, 0, false }

func (p *plain) meet(s api.Segment) {
	p.Recv, p.Window, p.MSS = api.Recv{Next: s.Seq + 1}, int(s.Wnd), mss
	if s.MSS > 0 && s.MSS < mss {
		p.MSS = int(s.MSS)
	}
}

func (p *plain) measure(number uint32) {
	if p.Timing && int32(number-p.TimedSeq) >= 0 {
		p.Clock, p.Timing = rto.Measure(p.Clock, p.now-p.TimedAt), false
	}
}

func (p *plain) piece(piece api.Piece, end bool) {
	flags := ack
	if len(piece.Data) > 0 {
		flags |= psh
	}
	if end {
		flags |= fin
	}
	p.out(piece.Seq, flags, piece.Data)
}

func (p *plain) push() {
	if p.Phase != api.Open {
		return
	}
	for {
		within := p.Window
		if within == 0 && p.flight() == 0 {
			within = 1
		}
		send, piece, end, ok := sendq.Next(p.Send, within, p.MSS)
		if !ok {
			return
		}
		p.Send = send
		p.piece(piece, end)
		if !p.Timing {
			behind := piece.Seq + uint32(len(piece.Data))
			if end {
				behind++
			}
			p.Timing, p.TimedSeq, p.TimedAt = true, behind, p.now
		}
		if p.Due == 0 {
			p.Due = p.now + uint64(p.Clock.Wait)
		}
	}
}

func plainRefuse(s api.Segment) api.Segment {
	if s.Flags&ack != 0 {
		return api.Segment{Src: s.Dst, Dst: s.Src, Seq: s.Ack, Flags: rst}
	}
	return api.Segment{Src: s.Dst, Dst: s.Src, Ack: s.Seq + uint32(segment.Len(s)), Flags: rst | ack}
}

func plainHear(c api.Conn, s api.Segment, now uint64) (api.Conn, []api.Segment) {
	p := &plain{Conn: copied(c), now: now}
	switch p.Phase {
	case api.Closed:
	case api.Dialling:
		p.hearDialling(s)
	default:
		p.hear(s)
	}
	return p.Conn, p.sent
}

func (p *plain) hearDialling(s api.Segment) {
	mine := s.Flags&ack != 0 && s.Ack == p.First+1
	switch {
	case s.Flags&rst != 0 && mine:
		p.shut(api.ErrRefused)
	case s.Flags&rst != 0:
	case s.Flags&ack != 0 && !mine:
		p.sent = append(p.sent, plainRefuse(s))
	case s.Flags&syn != 0 && mine:
		p.meet(s)
		p.Phase, p.Tries, p.Due = api.Open, 0, 0
		p.measure(s.Ack)
		p.ack()
		p.push()
	case s.Flags&syn != 0:
		p.meet(s)
		p.Phase = api.Dialled
		p.out(p.First, syn|ack, nil)
	}
}

func (p *plain) hear(s api.Segment) {
	n, next, window := segment.Len(s), p.Recv.Next, p.window()
	if s.Flags&rst != 0 {
		if seq.Fits(s.Seq, 0, next, window) && p.Phase == api.Waiting {
			p.shut(api.OK)
		} else if seq.Fits(s.Seq, 0, next, window) {
			p.shut(api.ErrReset)
		}
		return
	}
	if s.Flags&syn != 0 {
		p.ack()
		return
	}
	if !seq.Fits(s.Seq, n, next, window) {
		if window == 0 && s.Flags&ack != 0 && s.Seq-next < 3 {
			bare := s
			bare.Data, bare.Flags = nil, s.Flags&^fin
			p.told(bare)
		}
		if n != 0 && p.sent == nil {
			p.ack()
		}
		return
	}
	if s.Flags&ack != 0 {
		p.told(s)
	}
}

func (p *plain) told(s api.Segment) {
	if p.Phase == api.Dialled {
		if s.Ack != p.First+1 {
			p.sent = append(p.sent, plainRefuse(s))
			return
		}
		p.Phase, p.Tries, p.Due = api.Open, 0, 0
		p.measure(s.Ack)
	}
	send, n, e := sendq.Ack(p.Send, s.Ack)
	if e != api.OK {
		p.ack()
		return
	}
	if p.Send = send; n > 0 {
		p.measure(s.Ack)
		p.Tries, p.Due = 0, 0
		if p.flight() != 0 {
			p.Due = p.now + uint64(p.Clock.Wait)
		}
	}
	if s.Ack == p.Send.Una {
		p.Window = int(s.Wnd)
		if s.Wnd == 0 {
			p.Tries = 0
		}
	}
	p.Recv = recvq.Accept(p.Recv, s.Seq, s.Data, s.Flags&fin != 0)
	if p.Recv.Done && p.Send.EndAcked && p.Phase == api.Open {
		if p.Ended {
			p.Phase, p.Until, p.Due, p.Timing = api.Waiting, p.now+holdClosed, 0, false
		} else {
			p.shut(api.OK)
		}
	}
	p.push()
	if p.sent == nil && segment.Len(s) != 0 {
		p.ack()
	}
}

func plainWrite(c api.Conn, data []byte, now uint64) (api.Conn, int, []api.Segment, api.Errno) {
	switch {
	case c.Phase == api.Closed && c.Err != api.OK:
		return c, 0, nil, c.Err
	case c.Phase == api.Closed, c.Phase == api.Waiting, c.Send.End:
		return c, 0, nil, api.ErrState
	case len(c.Send.Data) == buffer && len(data) > 0:
		return c, 0, nil, api.ErrWait
	}
	p := &plain{Conn: copied(c), now: now}
	n := min(len(data), buffer-len(c.Send.Data))
	p.Send.Data = append(p.Send.Data, data[:n]...)
	p.push()
	return p.Conn, n, p.sent, api.OK
}

func plainRead(c api.Conn, n int) (api.Conn, []byte, []api.Segment, api.Errno) {
	p := &plain{Conn: copied(c)}
	switch {
	case n < 1:
		return c, nil, nil, api.ErrArg
	case len(c.Recv.Data) > 0:
		n = min(n, len(c.Recv.Data))
		p.Recv.Data = p.Recv.Data[n:]
		if c.Phase == api.Open && buffer-len(c.Recv.Data) < mss {
			p.ack()
		}
		return p.Conn, c.Recv.Data[:n], p.sent, api.OK
	case c.Recv.Done:
		return c, nil, nil, api.ErrEnd
	case c.Phase == api.Closed && c.Err != api.OK:
		return c, nil, nil, c.Err
	case c.Phase == api.Closed:
		return c, nil, nil, api.ErrState
	}
	return c, nil, nil, api.ErrWait
}

func plainClose(c api.Conn, now uint64) (api.Conn, []api.Segment) {
	p := &plain{Conn: copied(c), now: now}
	if p.Phase == api.Dialling {
		p.shut(api.OK)
	} else if (p.Phase == api.Dialled || p.Phase == api.Open) && !p.Send.End {
		p.Send.End, p.Ended = true, !p.Recv.Done
		p.push()
	}
	return p.Conn, p.sent
}

func plainTick(c api.Conn, now uint64) (api.Conn, []api.Segment) {
	p := &plain{Conn: copied(c), now: now}
	if p.Phase == api.Waiting && p.Until <= now {
		p.shut(api.OK)
	}
	if p.Due == 0 || now < p.Due {
		return p.Conn, p.sent
	}
	if p.Tries == maxTries {
		p.shut(api.ErrTimeout)
		return p.Conn, p.sent
	}
	p.Tries++
	p.Clock, p.Timing = rto.Double(p.Clock), false
	p.Due = now + uint64(p.Clock.Wait)
	switch p.Phase {
	case api.Dialling:
		p.out(p.First, syn, nil)
	case api.Dialled:
		p.out(p.First, syn|ack, nil)
	default:
		piece, end, ok := sendq.Again(p.Send, p.MSS)
		if !ok {
			p.Due = 0
			break
		}
		p.piece(piece, end)
	}
	return p.Conn, p.sent
}

// one is one of some.
func one[T any](chance *rand.Rand, l ...T) T { return l[chance.Intn(len(l))] }

// near is a segment that may come to an end: often one that tells something.
func near(chance *rand.Rand, c api.Conn) api.Segment {
	s := api.Segment{Src: c.Peer.Port, Dst: c.Self.Port, Seq: c.Recv.Next, Ack: c.Send.Una, Wnd: one(chance, uint16(0), 0, 1, 2, 64, 100, 256, 256, 65535)}
	if chance.Intn(2) == 0 {
		s.Seq += uint32(one(chance, -300, -64, -2, -1, 1, 1, 2, 3, 5, 64, 250, 255, 256, 257))
	}
	if n := c.Send.Sent; chance.Intn(2) == 0 {
		s.Ack += uint32(one(chance, -1, 1, n/2, n, n, n+1, n+1, n+2))
	}
	if chance.Intn(12) > 0 {
		s.Flags |= ack
	}
	for _, f := range []struct {
		flag byte
		rare int
	}{{fin, 6}, {syn, 30}, {rst, 60}, {psh, 2}} {
		if chance.Intn(f.rare) == 0 {
			s.Flags |= f.flag
		}
	}
	if c.Phase == api.Dialling {
		s.Flags |= one(chance, syn, syn, syn, 0)
		s.Flags &^= one(chance, 0, 0, ack)
	}
	if s.Flags&syn != 0 {
		s.MSS = one(chance, uint16(0), 1, 10, 63, 64, 65, 65535)
	}
	if chance.Intn(2) == 0 {
		s.Data = make([]byte, one(chance, 1, 1, 2, 5, 64, 156, 300))
		chance.Read(s.Data)
	}
	return s
}

// both is what a call answered of an end, and what it should.
func both(t *testing.T, what string, c, got, want api.Conn, sent, out []api.Segment) api.Conn {
	t.Helper()
	is(t, what, c, got, sent, want, out)
	return got
}

// wander does anything to an end, and holds what comes of it against the chapter's words.
func wander(t *testing.T, chance *rand.Rand, c api.Conn, now uint64) api.Conn {
	t.Helper()
	was := copied(c)
	defer func() { stays(t, c, was) }()
	switch n := chance.Intn(40); {
	case n < 22:
		s := near(chance, c)
		got, sent := Hear(c, s, now)
		want, out := plainHear(c, s, now)
		return both(t, "Hear", c, got, want, sent, out)
	case n < 27:
		data := count(one(chance, 0, 1, 3, 64, 100, 300))
		got, took, sent, e := Write(c, data, now)
		want, wants, out, err := plainWrite(c, data, now)
		if took != wants || e != err {
			t.Fatal(c, took, wants, e, err)
		}
		return both(t, "Write", c, got, want, sent, out)
	case n < 32:
		most := one(chance, -1, 0, 1, 2, 64, 256, 999)
		got, read, sent, e := Read(c, most, now)
		want, wants, out, err := plainRead(c, most)
		if !bytes.Equal(read, wants) || e != err {
			t.Fatal(c, read, wants, e, err)
		}
		return both(t, "Read", c, got, want, sent, out)
	case n < 33:
		got, sent := Close(c, now)
		want, out := plainClose(c, now)
		return both(t, "Close", c, got, want, sent, out)
	}
	got, sent := Tick(c, now)
	want, out := plainTick(c, now)
	return both(t, "Tick", c, got, want, sent, out)
}

// P19.1 to P19.5: whatever is done to an end, it becomes what the chapter's words say, and is right; all states are come to.
func TestAnything(t *testing.T) {
	chance := rand.New(rand.NewSource(191))
	states := map[string]int{}
	for i := range 6000 {
		b := one(chance, bases()...)
		now := uint64(chance.Intn(100))
		c, _ := Dial(me, you, b.mine, now)
		if i%2 == 0 {
			c, _ = Answer(me, you, b.came(-1, syn, 0, one(chance, uint16(0), 7, 256), ""), b.mine, now)
		}
		for range chance.Intn(120) {
			now += uint64(one(chance, 0, 0, 1, 3, 11, 40, 240))
			c = wander(t, chance, c, now)
			states[State(c)]++
		}
	}
	if len(states) != 10 {
		t.Fatal(states)
	}
}

// side is one end of a run, what is on its way to it, and what was written and read at it.
type side struct {
	c             api.Conn
	self          api.Addr
	first         uint32
	line          []api.Segment
	all           []byte // what is to be written
	written, read []byte
	began, shut   bool
	met, ended    bool
}

// run is two ends, and the wire between them.
type run struct {
	t      *testing.T
	chance *rand.Rand
	now    uint64
	sides  [2]*side
	traced bool
	trace  []any // if it is traced: what the ends became, and sent, as if they began at 0
}

// begun is a run from such first numbers on; both may ask at the same time.
func begun(t *testing.T, chance *rand.Rand, a, z uint32, both bool) *run {
	r := &run{t: t, chance: chance, sides: [2]*side{{self: me, first: a}, {self: you, first: z}}}
	for _, s := range r.sides {
		s.all = make([]byte, chance.Intn(1200))
		chance.Read(s.all)
	}
	r.dial(0)
	if both {
		r.dial(1)
	}
	return r
}

func (r *run) dial(i int) {
	s := r.sides[i]
	s.began = true
	c, out := Dial(s.self, r.sides[1-i].self, s.first, r.now)
	r.becomes(i, c, out)
}

// becomes lets an end be another one, and what it sent be on its way.
func (r *run) becomes(i int, c api.Conn, out []api.Segment) {
	r.t.Helper()
	s, o := r.sides[i], r.sides[1-i]
	if !Right(c) {
		r.t.Fatalf("%+v isn't right", c)
	}
	s.met = s.met || c.Phase == api.Dialled || c.Phase == api.Open
	s.c = c
	o.line = append(o.line, out...)
	if r.traced {
		r.trace = append(r.trace, relative(c, s, o), away(out, s, o))
	}
}

// relative is an end as if both sides began at 0.
func relative(c api.Conn, s, o *side) api.Conn {
	c = copied(c)
	c.First -= s.first
	c.Send.Una -= s.first
	c.TimedSeq -= s.first
	if !s.met {
		return c
	}
	c.Recv.Next -= o.first
	for i := range c.Recv.Ahead {
		c.Recv.Ahead[i].Seq -= o.first
	}
	if c.Recv.Known {
		c.Recv.End -= o.first
	}
	return c
}

// away is segments likewise.
func away(l []api.Segment, s, o *side) []api.Segment {
	l = copiedAll(l)
	for i := range l {
		l[i].Seq -= s.first
		if l[i].Flags&ack != 0 {
			l[i].Ack -= o.first
		}
	}
	return l
}

// deliver lets a segment come; with twice it is on its way still.
func (r *run) deliver(i, at int, twice bool) {
	s, o := r.sides[i], r.sides[1-i]
	g := s.line[at]
	if !twice {
		r.lose(i, at)
	}
	if !s.began {
		if g.Flags == syn {
			s.began = true
			c, out := Answer(s.self, o.self, g, s.first, r.now)
			r.becomes(i, c, out)
		}
		return
	}
	c, out := Hear(s.c, g, r.now)
	r.becomes(i, c, out)
}

func (r *run) lose(i, at int) {
	s := r.sides[i]
	s.line = append(s.line[:at:at], s.line[at+1:]...)
}

// write writes what is to be written, so much at most, and ends behind all of it.
func (r *run) write(i, most int) {
	s := r.sides[i]
	if !s.began || s.shut {
		return
	}
	if left := s.all[len(s.written):]; len(left) > 0 {
		c, n, out, e := Write(s.c, left[:min(most, len(left))], r.now)
		if n > 0 && e != api.OK {
			r.t.Fatal(n, e)
		}
		s.written = append(s.written, left[:n]...)
		r.becomes(i, c, out)
		return
	}
	if s.c.Phase == api.Dialling {
		return
	}
	s.shut = true
	c, out := Close(s.c, r.now)
	r.becomes(i, c, out)
}

// readSome reads: it must be the beginning of what was written, and the end behind all of it.
func (r *run) readSome(i, most int) {
	s, o := r.sides[i], r.sides[1-i]
	if !s.began {
		return
	}
	c, data, out, e := Read(s.c, most, r.now)
	s.read = append(s.read, data...)
	if !bytes.HasPrefix(o.written, s.read) {
		r.t.Fatalf("%q was read, %q written", s.read, o.written)
	}
	if e == api.ErrEnd {
		s.ended = true
		if !o.shut || len(s.read) != len(o.written) {
			r.t.Fatalf("the end behind %d of %d bytes, %t", len(s.read), len(o.written), o.shut)
		}
	}
	r.becomes(i, c, out)
}

func (r *run) tick(by uint64) {
	r.now += by
	for i, s := range r.sides {
		if s.began {
			c, out := Tick(s.c, r.now)
			r.becomes(i, c, out)
		}
	}
}

// broken tells whether an end is shut by a reason.
func (r *run) broken() bool {
	return r.sides[0].c.Err != api.OK || r.sides[1].c.Err != api.OK
}

// storm does anything.
func (r *run) storm(steps int) {
	for range steps {
		i := r.chance.Intn(2)
		line := r.sides[i].line
		switch n := r.chance.Intn(20); {
		case n < 10 && len(line) > 0:
			r.deliver(i, r.chance.Intn(1+r.chance.Intn(len(line))), r.chance.Intn(8) == 0)
		case n < 12 && len(line) > 0:
			r.lose(i, r.chance.Intn(len(line)))
		case n < 15:
			r.write(i, 1+r.chance.Intn(200))
		case n < 17:
			r.readSome(i, 1+r.chance.Intn(100))
		case n < 19:
			r.tick(uint64(r.chance.Intn(4)))
		}
	}
}

// calm lets all come, and both read, till both have read the end, or one is shut by a reason.
func (r *run) calm() {
	for range 5000 {
		for i, s := range r.sides {
			for len(s.line) > 0 {
				r.deliver(i, 0, false)
			}
			r.write(i, 1000)
			r.readSome(i, 1000)
		}
		if r.broken() || r.sides[0].ended && r.sides[1].ended {
			return
		}
		r.tick(1)
	}
	r.t.Fatalf("nothing goes on: %+v, %+v", r.sides[0].c, r.sides[1].c)
}

// P19.6: whatever is lost, doubled and late, what is read was written, each byte once, and the end behind all of it; when nothing is lost any more, all comes.
func TestStorm(t *testing.T) {
	chance := rand.New(rand.NewSource(196))
	whole := 0
	const runs = 400
	for i := range runs {
		r := begun(t, chance, chance.Uint32(), chance.Uint32(), i%4 == 0)
		r.storm(chance.Intn(600))
		r.calm()
		if r.broken() {
			continue
		}
		whole++
		for i, s := range r.sides {
			if o := r.sides[1-i]; !bytes.Equal(s.read, o.all) {
				t.Fatalf("%d of %d bytes were read", len(s.read), len(o.all))
			}
		}
		// The one that ended last may try for long, if the other one waits no more.
		for range 3000 {
			r.tick(1)
			for i, s := range r.sides {
				for len(s.line) > 0 {
					r.deliver(i, 0, false)
				}
			}
		}
		if r.sides[0].c.Phase != api.Closed || r.sides[1].c.Phase != api.Closed {
			t.Fatalf("%+v, %+v", r.sides[0].c, r.sides[1].c)
		}
	}
	if whole < runs*9/10 {
		t.Fatalf("only %d of %d were whole", whole, runs)
	}
}

// P19.6: nobody reads for long: nothing is lost, and nobody gives up.
func TestFullForLong(t *testing.T) {
	for _, b := range bases() {
		r := begun(t, rand.New(rand.NewSource(7)), b.mine, b.theirs, false)
		for _, s := range r.sides {
			s.all = count(900)
		}
		for range 8000 {
			for i, s := range r.sides {
				for len(s.line) > 0 {
					r.deliver(i, 0, false)
				}
				r.write(i, 1000)
			}
			r.tick(1)
		}
		if r.broken() || recvq.Window(r.sides[0].c.Recv) != 0 || recvq.Window(r.sides[1].c.Recv) != 0 {
			t.Fatalf("%+v, %+v", r.sides[0].c, r.sides[1].c)
		}
		r.calm()
		for _, s := range r.sides {
			if r.broken() || !bytes.Equal(s.read, count(900)) {
				t.Fatalf("%d bytes were read of %+v", len(s.read), s.c)
			}
		}
	}
}

// P19.6: one that hears nothing any more gives up, unless nothing is due.
func TestSilence(t *testing.T) {
	chance := rand.New(rand.NewSource(197))
	silent := 0
	for range 50 {
		r := begun(t, chance, chance.Uint32(), chance.Uint32(), false)
		r.storm(200)
		s := r.sides[0]
		s.all = append(s.all, text(600)...)
		for range 3000 {
			s.line, r.sides[1].line = nil, nil
			r.write(0, 1000)
			r.tick(1)
		}
		if s.c.Phase != api.Closed && (s.c.Due != 0 || sendq.Flight(s.c.Send) != 0) {
			t.Fatalf("%+v", s.c)
		}
		if s.c.Phase == api.Closed {
			silent++
		}
	}
	if silent < 25 {
		t.Fatalf("only %d gave up", silent)
	}
}

// P19.6: numbers moved by as much change nothing else.
func TestMoved(t *testing.T) {
	for i := range 60 {
		trace := func(a, z uint32) []any {
			chance := rand.New(rand.NewSource(int64(i)))
			r := begun(t, chance, a, z, i%3 == 0)
			r.traced = true
			r.storm(300)
			r.calm()
			return r.trace
		}
		want := trace(0, 0)
		for _, b := range bases() {
			if !reflect.DeepEqual(trace(b.mine, b.theirs), want) {
				t.Fatalf("run %d: moved by %d and %d it goes otherwise", i, b.mine, b.theirs)
			}
		}
	}
}

// odd is an end of any form.
func odd(chance *rand.Rand) api.Conn {
	size := func() int { return one(chance, 0, 1, 5, 64, 192, 255, 256, 257, 600) }
	far := func() int { return one(chance, math.MinInt, -1, 0, 1, 2, 64, 65, 256, 65535, 65536, math.MaxInt) }
	time := func() uint64 { return one(chance, uint64(0), 1, 60, 1000, 1<<62, math.MaxUint64) }
	number := func() uint32 { return one(chance, uint32(0), 1, 100, 101, 300, 301, 1<<31, math.MaxUint32) }
	flag := func() bool { return chance.Intn(2) == 0 }
	c := api.Conn{
		Phase: one(chance, -1, 0, 1, 2, 3, 3, 3, 4, 5, math.MaxInt), Self: me, Peer: you, First: number(),
		Send:   api.Send{Una: number(), Data: count(size()), Sent: one(chance, size(), far()), End: flag(), EndSent: flag(), EndAcked: flag()},
		Recv:   api.Recv{Next: number(), Data: count(size()), Known: flag(), End: number(), Done: flag()},
		Window: far(), MSS: far(), Clock: api.Clock{Smooth: int64(far()), Spread: int64(far()), Wait: int64(far())},
		Due: time(), Tries: far(), Timing: flag(), TimedSeq: number(), TimedAt: time(), Until: time(), Ended: flag(), Err: one(chance, api.OK, api.ErrReset, -1, 99),
	}
	for range chance.Intn(4) {
		c.Recv.Ahead = append(c.Recv.Ahead, api.Piece{Seq: number(), Data: count(size())})
	}
	return c
}

// answers are what all calls answer, one behind the other.
type answers struct {
	Conns  []api.Conn
	Sent   [][]api.Segment
	Read   []byte
	N      int
	E      [2]api.Errno
	State  string
	Right  bool
	Refuse api.Segment
}

// ask asks all calls.
func ask(c api.Conn, s api.Segment, data []byte, n int, now uint64) answers {
	var a answers
	add := func(c api.Conn, sent []api.Segment) {
		a.Conns, a.Sent = append(a.Conns, c), append(a.Sent, sent)
	}
	add(Clone(c), nil)
	add(Dial(c.Self, c.Peer, c.First, now))
	add(Answer(c.Self, c.Peer, s, c.First, now))
	add(Hear(c, s, now))
	wrote, m, sent, e := Write(c, data, now)
	add(wrote, sent)
	read, b, sent, err := Read(c, n, now)
	add(read, sent)
	add(Close(c, now))
	add(Abort(c, api.Errno(n)))
	add(Tick(c, now))
	a.Read, a.N, a.E, a.State, a.Right, a.Refuse = b, m, [2]api.Errno{e, err}, State(c), Right(c), Refuse(s)
	return a
}

// lists are all lists of bytes of an end, and of segments.
func lists(c api.Conn, sent []api.Segment) [][]byte {
	l := [][]byte{c.Send.Data, c.Recv.Data}
	for _, p := range c.Recv.Ahead {
		l = append(l, p.Data)
	}
	for _, s := range sent {
		l = append(l, s.Data)
	}
	return l
}

// tidy is answers in other memory, empty lists being alike.
func (a answers) tidy() answers {
	conns, sent := a.Conns, a.Sent
	a.Conns, a.Sent = nil, nil
	for i := range conns {
		a.Conns, a.Sent = append(a.Conns, copied(conns[i])), append(a.Sent, copiedAll(sent[i]))
	}
	a.Read = []byte(string(a.Read))
	a.Refuse.Data = []byte(string(a.Refuse.Data))
	return a
}

// P1: no argument makes a call panic, or go on for ever; P2: the same again answers the same, and what is handed in stays.
func TestNoPanic(t *testing.T) {
	chance := rand.New(rand.NewSource(198))
	for range 8000 {
		c := odd(chance)
		s := near(chance, c)
		s.Flags = one(chance, s.Flags, byte(chance.Intn(256)))
		data, n := count(one(chance, 0, 1, 64, 300, 2000)), one(chance, math.MinInt, -1, 0, 1, 64, 300, math.MaxInt)
		now := one(chance, uint64(0), 1, 59, 60, 61, 1000, 1<<62, math.MaxUint64)
		was, given := copied(c), copiedAll([]api.Segment{s})
		one, two := ask(c, s, data, n, now).tidy(), ask(was, given[0], data, n, now).tidy()
		if !reflect.DeepEqual(one, two) || !same(one.Conns[0], was) {
			t.Fatalf("%+v, %+v", c, s)
		}
		stays(t, c, was)
		if !alike(given, []api.Segment{s}) {
			t.Fatalf("%+v was changed", given)
		}
		for _, next := range one.Conns {
			ask(next, s, data, n, now+1)
		}
	}
}

// P1: long lists come to their end.
func TestLong(t *testing.T) {
	long := count(1 << 13)
	for _, size := range []int{math.MinInt, 0, 1, 64, math.MaxInt} {
		for _, end := range []bool{false, true} {
			c := base{100, 300}.open()
			c.Send.Data, c.Send.End = long, end
			c.Window, c.MSS = math.MaxInt, size
			ask(c, base{100, 300}.came(0, ack|psh|fin, 0, 65535, strings.Repeat("x", 1<<20)), long, 1, 60)
			c.Recv.Data = long
			ask(c, base{100, 300}.came(0, ack|psh|fin, 0, 65535, strings.Repeat("x", 1<<20)), long, 1, 60)
		}
	}
}

// room is the same bytes, with others behind them.
func room(b []byte) []byte {
	whole := bytes.Repeat([]byte{'z'}, len(b)+400)
	return whole[:copy(whole, b)]
}

// roomy is an end all of whose lists have others behind them.
func roomy(c api.Conn) api.Conn {
	c.Send.Data, c.Recv.Data = room(c.Send.Data), room(c.Recv.Data)
	ahead := make([]api.Piece, len(c.Recv.Ahead), len(c.Recv.Ahead)+9)
	for i, p := range c.Recv.Ahead {
		ahead[i] = api.Piece{Seq: p.Seq, Data: room(p.Data)}
	}
	c.Recv.Ahead = ahead
	return c
}

// scrub writes over bytes, and over what lies behind them.
func scrub(b []byte) {
	b = b[:cap(b)]
	for i := range b {
		b[i] = '#'
	}
}

// P2, and rules 3 and 4: what is handed in stays, what lies behind a list's length is neither read nor written, and what is answered shares no memory with what was handed in, nor with another answer.
func TestNothingShared(t *testing.T) {
	b := base{100, 300}
	ahead := b.open()
	ahead.Recv.Ahead = []api.Piece{{Seq: b.your(2), Data: []byte("cd")}, {Seq: b.your(9), Data: []byte("k")}}
	small := b.open()
	small.Send.Data, small.MSS = []byte("abcdefgh"), 3
	for _, c := range append(b.each(), ahead, small) {
		for _, s := range []api.Segment{b.came(0, ack|psh, 0, 256, "ab"), b.came(0, ack|psh|fin, 1, 256, "ab"), b.came(4, ack|psh, 2, 5, "ef"), b.came(-1, syn|ack, 0, 256, "x"), b.came(256, ack|psh, 1, 9, "x")} {
			for _, n := range []int{1, 3, 300} {
				shares(t, c, s, n)
			}
		}
	}
}

// shares fails, if what the calls answer hangs on memory that others have.
func shares(t *testing.T, c api.Conn, s api.Segment, n int) {
	t.Helper()
	want := ask(copied(c), s, count(n), n, 1000).tidy()
	given, data := roomy(c), room(count(n))
	g := s
	g.Data = room(s.Data)
	mine := append(lists(given, []api.Segment{g}), data)
	var was []string
	for _, l := range mine {
		was = append(was, string(l[:cap(l)]))
	}
	got := ask(given, g, data, n, 1000)
	for i, l := range mine {
		if string(l[:cap(l)]) != was[i] {
			t.Fatalf("%+v was changed, or what lies behind it", c)
		}
		scrub(l)
	}
	for _, p := range given.Recv.Ahead[:cap(given.Recv.Ahead)][len(given.Recv.Ahead):] {
		if p.Data != nil || p.Seq != 0 {
			t.Fatalf("what lies behind the pieces of %+v was written", c)
		}
	}
	clear(given.Recv.Ahead)
	if !reflect.DeepEqual(got.tidy(), want) {
		t.Fatalf("%+v: the answer hangs on what was handed in, or on what lies behind it", c)
	}
	for i := range got.Conns {
		whole := lists(want.Conns[i], want.Sent[i])
		for j, l := range lists(got.Conns[i], got.Sent[i]) {
			if !bytes.Equal(l, whole[j]) {
				t.Fatalf("%+v: an answer hangs on another one", c)
			}
			scrub(l)
		}
	}
	if !bytes.Equal(got.Read, want.Read) {
		t.Fatalf("%+v: what is read hangs on the end", c)
	}
}
