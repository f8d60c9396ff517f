package frag

import (
	"bytes"
	"math"
	"math/rand"
	"reflect"
	"slices"
	"testing"

	"caravel/api"
)

var (
	ipA = api.IP{10, 49, 50, 51}
	ipB = api.IP{11, 65, 66, 67}
)

// count is so many bytes of which no two near each other are alike.
func count(n int) []byte {
	b := make([]byte, n)
	for i := range b {
		b[i] = byte(i + i/256*7)
	}
	return b
}

// some is a packet with so many bytes.
func some(n int) api.Packet {
	return api.Packet{ID: 7, TTL: 64, Proto: api.ProtoUDP, Src: ipA, Dst: ipB, Data: count(n)}
}

// piece is the part of a packet of MaxData bytes from a place up to another one.
func piece(from, to int, more bool) api.Packet {
	p := some(api.MaxData)
	p.Off, p.Data, p.More = from, p.Data[from:to], more
	return p
}

// filled is so many bytes that are alike, as a piece of the same packet.
func filled(off, n int, more bool, with byte) api.Packet {
	p := some(0)
	p.Off, p.Data, p.More = off, bytes.Repeat([]byte{with}, n), more
	return p
}

// same tells whether two packets are alike, Data that is nil like Data without bytes.
func same(a, b api.Packet) bool {
	data := bytes.Equal(a.Data, b.Data)
	a.Data, b.Data = nil, nil
	return data && reflect.DeepEqual(a, b)
}

// none tells whether a packet is the zero value.
func none(p api.Packet) bool {
	return same(p, api.Packet{})
}

// sameParts tells whether two lists of parts are alike.
func sameParts(a, b []api.Part) bool {
	return slices.EqualFunc(a, b, func(a, b api.Part) bool { return a.Off == b.Off && bytes.Equal(a.Data, b.Data) })
}

// sameHoles tells whether two lists of holes are alike.
func sameHoles(a, b []api.Hole) bool {
	return slices.EqualFunc(a, b, func(a, b api.Hole) bool {
		parts := sameParts(a.Got, b.Got)
		a.Got, b.Got = nil, nil
		return parts && reflect.DeepEqual(a, b)
	})
}

// copied is the same holes in other memory.
func copied(l []api.Hole) []api.Hole {
	var out []api.Hole
	for _, h := range l {
		var got []api.Part
		for _, part := range h.Got {
			got = append(got, api.Part{Off: part.Off, Data: append([]byte(nil), part.Data...)})
		}
		h.Got = got
		out = append(out, h)
	}
	return out
}

// hole is one of the packet of some, with these parts.
func hole(end int, got ...api.Part) api.Hole {
	return api.Hole{Src: ipA, Dst: ipB, Proto: api.ProtoUDP, ID: 7, TTL: 64, End: end, Got: got}
}

// others are so many holes, each of another packet, none of them that of some.
func others(n int) []api.Hole {
	var l []api.Hole
	for i := range n {
		h := hole(-1, api.Part{Off: 8, Data: count(8 + i)})
		h.ID, h.Since = uint16(100+i), uint64(i)
		l = append(l, h)
	}
	return l
}

// feed lets pieces come one after the other, at time 0; of all but the last one nothing may be told.
func feed(t *testing.T, l []api.Hole, pieces ...api.Packet) ([]api.Hole, api.Packet, bool, api.Errno) {
	t.Helper()
	for i, p := range pieces {
		next, got, ok, e := Add(l, p, 0)
		if i == len(pieces)-1 {
			return next, got, ok, e
		}
		if !none(got) || ok || e != api.OK {
			t.Fatalf("piece %d: %v, %t, %d", i, got, ok, e)
		}
		l = next
	}
	return l, api.Packet{}, false, api.OK
}

// The chapter's example, and the document's second one: 400 bytes go in 176, 176 and 48, and are whole, whichever comes last.
func TestExample(t *testing.T) {
	p := some(400)
	pieces, e := Split(p)
	if e != api.OK || len(pieces) != 3 || len(pieces[0].Data) != 176 || len(pieces[1].Data) != 176 || len(pieces[2].Data) != 48 {
		t.Fatal(pieces, e)
	}
	for last := range 3 {
		one, two := pieces[(last+1)%3], pieces[(last+2)%3]
		for _, turn := range [][]api.Packet{{one, two, pieces[last]}, {two, one, pieces[last]}} {
			l, got, ok, e := feed(t, nil, turn...)
			if len(l) != 0 || !same(got, p) || !ok || e != api.OK {
				t.Errorf("last %d: %v, %v, %t, %d", last, l, got, ok, e)
			}
		}
	}
}

// P7.1: of each length up to MaxData the pieces are what the document says; of a greater one there are none.
func TestSplitLengths(t *testing.T) {
	for n := range 2500 {
		p := some(n)
		pieces, e := Split(p)
		if n > 1000 {
			if len(pieces) != 0 || e != api.ErrLong {
				t.Fatalf("%d bytes: %v, %d", n, pieces, e)
			}
			continue
		}
		if e != api.OK || len(pieces) != max(1, (n+175)/176) {
			t.Fatalf("%d bytes: %d pieces, %d", n, len(pieces), e)
		}
		for i, got := range pieces {
			want := p
			want.Off, want.More, want.Data = i*176, i+1 < len(pieces), p.Data[i*176:min(n, i*176+176)]
			if !same(got, want) {
				t.Fatalf("%d bytes, piece %d: %v; want %v", n, i, got, want)
			}
		}
	}
}

// P7.1: a packet without data is one piece, and all else of it is that of the packet.
func TestSplitNoData(t *testing.T) {
	for _, data := range [][]byte{nil, {}} {
		for _, p := range []api.Packet{
			{Data: data},
			{ID: 65535, TTL: 255, Proto: 255, Src: ipB, Dst: ipA, Data: data},
			{ID: 1, TTL: 1, Proto: 1, Src: ipA, Data: data},
		} {
			if pieces, e := Split(p); len(pieces) != 1 || !same(pieces[0], p) || e != api.OK {
				t.Errorf("Split(%v) = %v, %d", p, pieces, e)
			}
		}
	}
}

// P7.1: a packet that is a piece itself is refused, whatever its length, which goes behind that.
func TestSplitPiece(t *testing.T) {
	for _, n := range []int{0, 8, 176, 177, 1000, 1001, 5000} {
		for _, off := range []int{math.MinInt, -8, -1, 0, 1, 7, 8, 176, 1000, 65528, math.MaxInt} {
			for _, more := range []bool{false, true} {
				p := some(n)
				p.Off, p.More = off, more
				want := api.OK
				if off != 0 || more {
					want = api.ErrArg
				} else if n > 1000 {
					want = api.ErrLong
				}
				if pieces, e := Split(p); e != want || (len(pieces) > 0) != (want == api.OK) {
					t.Errorf("Off %d, More %t, %d bytes: %v, %d; want %d", off, more, n, pieces, e, want)
				}
			}
		}
	}
}

// P7.2: a hole is old from 30 ticks behind Since on, and not ahead of Since.
func TestAgeTimes(t *testing.T) {
	const most = math.MaxUint64
	for _, c := range []struct {
		since, now uint64
		old        bool
	}{
		{0, 0, false}, {0, 1, false}, {0, 29, false}, {0, 30, true}, {0, 31, true}, {0, 1000, true}, {0, most, true},
		{5, 0, false}, {5, 4, false}, {5, 5, false}, {5, 34, false}, {5, 35, true}, {5, 36, true}, {100, 0, false}, {100, 70, false},
		{1 << 62, 0, false}, {1 << 62, 1<<62 - 1, false}, {1 << 62, 1 << 62, false}, {1 << 62, 1<<62 + 29, false}, {1 << 62, 1<<62 + 30, true},
		{1<<62 - 30, 1 << 62, true}, {1<<62 - 29, 1 << 62, false}, {1<<32 - 1, 1<<32 + 28, false}, {1<<32 - 1, 1<<32 + 29, true},
		{most, 0, false}, {most, 29, false}, {most, 30, false}, {most, most, false}, {most - 29, most, false}, {most - 30, most, true},
	} {
		h := hole(-1, api.Part{Off: 8, Data: count(8)})
		h.Since = c.since
		l := Age([]api.Hole{h}, c.now)
		if c.old && len(l) != 0 || !c.old && !sameHoles(l, []api.Hole{h}) {
			t.Errorf("since %d, now %d: %v", c.since, c.now, l)
		}
		// A piece of another packet that isn't right: what came is aged, whatever comes.
		l, p, ok, e := Add([]api.Hole{h}, api.Packet{Off: -1}, c.now)
		if c.old && len(l) != 0 || !c.old && !sameHoles(l, []api.Hole{h}) || !none(p) || ok || e != api.ErrLong {
			t.Errorf("since %d, now %d: Add %v, %v, %t, %d", c.since, c.now, l, p, ok, e)
		}
	}
}

// P7.2: of any holes those that aren't old stay, in their order, as they are.
func TestAgeLists(t *testing.T) {
	if l := Age(nil, 0); len(l) != 0 {
		t.Error(l)
	}
	chance := rand.New(rand.NewSource(7))
	for range 2000 {
		l := others(chance.Intn(20))
		var want []api.Hole
		for i := range l {
			l[i].Since = uint64(chance.Intn(100))
			l[i].End = chance.Intn(3) - 1
			if l[i].Since+30 > 80 {
				want = append(want, l[i])
			}
		}
		if got := Age(l, 80); !sameHoles(got, want) {
			t.Fatalf("Age(%v) = %v", l, got)
		}
	}
}

// P7.2: a piece is refused as too long if it begins below 0, or ends above 1000, whatever else is wrong.
func TestAddLong(t *testing.T) {
	offs := []int{math.MinInt, math.MinInt + 8, -1 << 32, -1000, 1 << 16, 1 << 32, 1 << 62, math.MaxInt - 7, math.MaxInt}
	for off := -20; off < 1100; off++ {
		offs = append(offs, off)
	}
	l := others(8)
	for _, off := range offs {
		for _, n := range []int{0, 1, 7, 8, 16, 500, 999, 1000, 1001, 1008, 2000} {
			for _, more := range []bool{false, true} {
				p := some(n)
				p.Off, p.More = off, more
				long := off < 0 || off > 1000 || n > 1000 || off+n > 1000
				after, got, ok, e := Add(l, p, 29)
				if long != (e == api.ErrLong) {
					t.Fatalf("Off %d, %d bytes, More %t: %d", off, n, more, e)
				}
				if long && (!sameHoles(after, l) || !none(got) || ok) {
					t.Fatalf("Off %d, %d bytes, More %t: %v, %v, %t", off, n, more, after, got, ok)
				}
			}
		}
	}
}

// P7.2: a piece from 0 without More is whole at once, of each length, whatever is put together meanwhile.
func TestAddWhole(t *testing.T) {
	own := hole(500, api.Part{Off: 8, Data: count(8)})
	for n := range 1001 {
		p := some(n)
		p.TTL = 3
		for _, l := range [][]api.Hole{nil, others(8), {own}, append(others(7), own)} {
			after, got, ok, e := Add(l, p, 29)
			if !sameHoles(after, l) || !same(got, p) || !ok || e != api.OK {
				t.Fatalf("%d bytes: %v, %v, %t, %d", n, after, got, ok, e)
			}
		}
	}
	old := own
	old.Since = 5
	if l, got, ok, e := Add([]api.Hole{own, old}, some(9), 34); !sameHoles(l, []api.Hole{old}) || !same(got, some(9)) || !ok || e != api.OK {
		t.Error(l, got, ok, e)
	}
}

// P7.2: each place and length of a piece: a multiple of 8 to begin with, one for its length with More, and some bytes.
func TestAddForm(t *testing.T) {
	full := others(8)
	for off := range 201 {
		for n := range 120 {
			for _, more := range []bool{false, true} {
				if off == 0 && !more {
					continue
				}
				p := piece(off, off+n, more)
				wrong := off%8 != 0 || n == 0 || more && n%8 != 0
				l, got, ok, e := Add(nil, p, 12)
				want := hole(-1, api.Part{Off: off, Data: p.Data})
				want.Since = 12
				if !more {
					want.End = off + n
				}
				switch {
				case !none(got) || ok || wrong != (e == api.ErrForm):
					t.Fatalf("Off %d, %d bytes, More %t: %v, %t, %d", off, n, more, got, ok, e)
				case wrong && len(l) != 0, !wrong && (e != api.OK || !sameHoles(l, []api.Hole{want})):
					t.Fatalf("Off %d, %d bytes, More %t: %v, %d", off, n, more, l, e)
				}
				if l, got, ok, e = Add(full, p, 12); !sameHoles(l, full) || !none(got) || ok || wrong != (e == api.ErrForm) || !wrong && e != api.ErrFull {
					t.Fatalf("full, Off %d, %d bytes, More %t: %v, %v, %t, %d", off, n, more, l, got, ok, e)
				}
			}
		}
	}
}

// P7.2: a piece that has no right form leaves its own hole as it is.
func TestFormLeavesTheHole(t *testing.T) {
	own := append(others(2), hole(24, api.Part{Off: 8, Data: count(8)}))
	for _, p := range []api.Packet{
		piece(4, 12, true), piece(4, 24, false), piece(8, 8, true), piece(8, 8, false), piece(0, 0, true), piece(0, 7, true), piece(16, 23, true), piece(1, 8, true),
	} {
		if l, got, ok, e := Add(own, p, 1); !sameHoles(l, own) || !none(got) || ok || e != api.ErrForm {
			t.Errorf("%v: %v, %v, %t, %d", p, l, got, ok, e)
		}
	}
}

// P7.2: a hole is told by Src, Dst, Proto and ID, by nothing else; a new one goes behind the others.
func TestWhichHole(t *testing.T) {
	first, last := piece(0, 16, true), piece(16, 20, false)
	start, _, _, _ := Add(nil, first, 0)
	for _, c := range []struct {
		name string
		turn func(p *api.Packet)
		own  bool
	}{
		{"the same", func(p *api.Packet) {}, true},
		{"TTL", func(p *api.Packet) { p.TTL++ }, true},
		{"ID", func(p *api.Packet) { p.ID++ }, false},
		{"ID, the higher byte", func(p *api.Packet) { p.ID += 256 }, false},
		{"Proto", func(p *api.Packet) { p.Proto++ }, false},
		{"Src, the first byte", func(p *api.Packet) { p.Src[0]++ }, false},
		{"Src, the last byte", func(p *api.Packet) { p.Src[3]++ }, false},
		{"Dst, the first byte", func(p *api.Packet) { p.Dst[0]++ }, false},
		{"Dst, the last byte", func(p *api.Packet) { p.Dst[3]++ }, false},
		{"Src and Dst changed", func(p *api.Packet) { p.Src, p.Dst = p.Dst, p.Src }, false},
	} {
		p := last
		c.turn(&p)
		l, got, ok, e := Add(start, p, 9)
		if c.own {
			if len(l) != 0 || !same(got, some(20)) || !ok || e != api.OK {
				t.Errorf("%s: %v, %v, %t, %d", c.name, l, got, ok, e)
			}
			continue
		}
		beside := api.Hole{Src: p.Src, Dst: p.Dst, Proto: p.Proto, ID: p.ID, TTL: p.TTL, Since: 9, End: 20, Got: []api.Part{{Off: 16, Data: p.Data}}}
		if !sameHoles(l, append(copied(start), beside)) || !none(got) || ok || e != api.OK {
			t.Errorf("%s: %v, %v, %t, %d", c.name, l, got, ok, e)
		}
	}
}

// P7.2: at most eight packets are put together; a ninth one has room when one of them is whole, is gone, or is old.
func TestFull(t *testing.T) {
	var l []api.Hole
	for i := range 8 {
		p := piece(0, 16, true)
		p.ID = uint16(i)
		var e api.Errno
		if l, _, _, e = Add(l, p, uint64(i)); len(l) != i+1 || l[i].ID != uint16(i) || e != api.OK {
			t.Fatal(i, l, e)
		}
	}
	ninth := piece(8, 16, true)
	ninth.ID = 8
	full := copied(l)
	for range 3 {
		if l, p, ok, e := Add(full, ninth, 29); !sameHoles(l, full) || !none(p) || ok || e != api.ErrFull {
			t.Error(l, p, ok, e)
		}
	}
	if l, _, _, e := Add(full, ninth, 30); len(l) != 8 || l[0].ID != 1 || l[7].ID != 8 || l[7].Since != 30 || e != api.OK {
		t.Error("one is old", l, e)
	}
	for i := range 8 {
		done := piece(16, 17, false)
		done.ID = uint16(i)
		less := slices.Delete(copied(full), i, i+1)
		l, p, ok, e := Add(full, done, 29)
		if !sameHoles(l, less) || len(p.Data) != 17 || p.ID != uint16(i) || !ok || e != api.OK {
			t.Error(i, l, p, ok, e)
		}
		if l, _, _, e = Add(l, ninth, 29); len(l) != 8 || l[7].ID != 8 || e != api.OK {
			t.Error(i, "one was whole", l, e)
		}
		wrong := piece(8, 12, false)
		wrong.ID = uint16(i)
		if l, p, ok, e = Add(full, wrong, 29); !sameHoles(l, less) || !none(p) || ok || e != api.ErrForm {
			t.Error(i, l, p, ok, e)
		}
		more := piece(24, 32, true)
		more.ID = uint16(i)
		if l, p, ok, e = Add(full, more, 29); len(l) != 8 || len(l[i].Got) != 2 || !none(p) || ok || e != api.OK {
			t.Error(i, "its own hole", l, p, ok, e)
		}
	}
	if l, _, _, e := Add(others(9), ninth, 0); !sameHoles(l, others(9)) || e != api.ErrFull {
		t.Error("more than eight", l, e)
	}
}

// P7.2: TTL and Since are those of the piece that came first, not of that which begins the packet, nor of one that came twice.
func TestOfTheFirst(t *testing.T) {
	one, two, three := piece(176, 352, true), piece(0, 176, true), piece(352, 400, false)
	one.TTL, two.TTL, three.TTL = 9, 200, 1
	l, _, _, _ := Add(nil, one, 40)
	l, _, _, _ = Add(l, two, 50)
	l, _, _, _ = Add(l, two, 51)
	if len(l) != 1 || l[0].TTL != 9 || l[0].Since != 40 {
		t.Fatal(l)
	}
	want := some(400)
	want.TTL = 9
	if l, p, ok, e := Add(l, three, 69); len(l) != 0 || !same(p, want) || !ok || e != api.OK {
		t.Error(l, p, ok, e)
	}
	// At 70 what came is old: the last piece begins a hole anew.
	again := hole(400, api.Part{Off: 352, Data: three.Data})
	again.TTL, again.Since = 1, 70
	if l, p, ok, e := Add(l, three, 70); !sameHoles(l, []api.Hole{again}) || !none(p) || ok || e != api.OK {
		t.Error(l, p, ok, e)
	}
}

// P7.2: a piece that doesn't fit is refused, and its hole is gone; one that just fits is laid to the others.
func TestFits(t *testing.T) {
	for _, c := range []struct {
		name   string
		before []api.Packet
		p      api.Packet
		fits   bool
	}{
		{"ends at End, with More", []api.Packet{piece(24, 30, false), piece(8, 16, true)}, piece(16, 24, true), true},
		{"ends at End in the same way", []api.Packet{piece(24, 30, false)}, piece(24, 30, false), true},
		{"ends at End from elsewhere", []api.Packet{piece(24, 30, false)}, piece(16, 30, false), true},
		{"with More, up to End", []api.Packet{piece(16, 24, false)}, piece(8, 24, true), true},
		{"with More, behind End", []api.Packet{piece(16, 24, false)}, piece(8, 32, true), false},
		{"with More, just behind End", []api.Packet{piece(16, 23, false)}, piece(8, 24, true), false},
		{"with More, from End on", []api.Packet{piece(16, 24, false)}, piece(24, 32, true), false},
		{"without More, behind End", []api.Packet{piece(16, 24, false)}, piece(16, 25, false), false},
		{"without More, far behind End", []api.Packet{piece(16, 24, false)}, piece(800, 1000, false), false},
		{"without More, ahead of End", []api.Packet{piece(16, 24, false)}, piece(16, 23, false), false},
		{"without More, far ahead of End", []api.Packet{piece(160, 240, false)}, piece(8, 9, false), false},
		{"without More, where a part ends", []api.Packet{piece(8, 24, true)}, piece(16, 24, false), true},
		{"without More, behind where a part ends", []api.Packet{piece(8, 24, true)}, piece(16, 25, false), true},
		{"without More, just ahead of where a part ends", []api.Packet{piece(8, 24, true)}, piece(16, 23, false), false},
		{"without More, ahead of a part", []api.Packet{piece(80, 96, true)}, piece(8, 16, false), false},
		{"without More, ahead of the second part", []api.Packet{piece(8, 16, true), piece(80, 96, true)}, piece(16, 95, false), false},
		{"without More, behind the first of two, that came last", []api.Packet{piece(80, 96, true), piece(8, 16, true)}, piece(88, 95, false), false},
		{"without More, behind all", []api.Packet{piece(80, 96, true), piece(8, 16, true)}, piece(96, 97, false), true},
	} {
		for beside := range 3 {
			l, _, _, e := feed(t, others(beside), c.before...)
			if e != api.OK || len(l) != beside+1 {
				t.Fatal(c.name, l, e)
			}
			after := others(1)[0]
			after.ID = 999
			l = append(l, after)
			got, p, ok, e := Add(l, c.p, 1)
			if !none(p) || ok {
				t.Errorf("%s: %v, %t", c.name, p, ok)
			}
			if c.fits && (e != api.OK || len(got) != len(l)) {
				t.Errorf("%s: %v, %d", c.name, got, e)
			}
			if !c.fits && (e != api.ErrForm || !sameHoles(got, slices.Delete(copied(l), beside, beside+1))) {
				t.Errorf("%s: %v, %d", c.name, got, e)
			}
		}
	}
}

// P7.2: a packet whose last piece has More is not whole till one comes that ends there without.
func TestEndIsToBeTold(t *testing.T) {
	l, p, ok, e := feed(t, nil, piece(8, 16, true), piece(0, 8, true))
	want := hole(-1, api.Part{Off: 0, Data: count(16)})
	if !sameHoles(l, []api.Hole{want}) || !none(p) || ok || e != api.OK {
		t.Fatal(l, p, ok, e)
	}
	if l, p, ok, e = Add(l, piece(8, 16, false), 0); len(l) != 0 || !same(p, some(16)) || !ok || e != api.OK {
		t.Error(l, p, ok, e)
	}
}

// P7.2: parts are joined where they touch or lie over each other, and stand in order; of bytes that came already those count that came first.
func TestLay(t *testing.T) {
	part := func(off int, runs ...int) api.Part {
		var b []byte
		for i := 0; i < len(runs); i += 2 {
			b = append(b, bytes.Repeat([]byte{byte(runs[i])}, runs[i+1])...)
		}
		return api.Part{Off: off, Data: b}
	}
	for _, c := range []struct {
		name   string
		pieces []api.Packet
		got    []api.Part
	}{
		{"apart, behind", []api.Packet{filled(8, 8, true, 1), filled(24, 8, true, 2)}, []api.Part{part(8, 1, 8), part(24, 2, 8)}},
		{"apart, ahead", []api.Packet{filled(24, 8, true, 1), filled(8, 8, true, 2)}, []api.Part{part(8, 2, 8), part(24, 1, 8)}},
		{"apart, between", []api.Packet{filled(0, 8, true, 1), filled(32, 8, true, 2), filled(16, 8, true, 3)}, []api.Part{part(0, 1, 8), part(16, 3, 8), part(32, 2, 8)}},
		{"touching, behind", []api.Packet{filled(8, 8, true, 1), filled(16, 8, true, 2)}, []api.Part{part(8, 1, 8, 2, 8)}},
		{"touching, ahead", []api.Packet{filled(16, 8, true, 1), filled(8, 8, true, 2)}, []api.Part{part(8, 2, 8, 1, 8)}},
		{"touching both", []api.Packet{filled(8, 8, true, 1), filled(24, 8, true, 2), filled(16, 8, true, 3)}, []api.Part{part(8, 1, 8, 3, 8, 2, 8)}},
		{"twice", []api.Packet{filled(8, 8, true, 1), filled(8, 8, true, 2)}, []api.Part{part(8, 1, 8)}},
		{"over the end", []api.Packet{filled(8, 16, true, 1), filled(16, 16, true, 2)}, []api.Part{part(8, 1, 16, 2, 8)}},
		{"over the beginning", []api.Packet{filled(16, 16, true, 1), filled(8, 16, true, 2)}, []api.Part{part(8, 2, 8, 1, 16)}},
		{"within", []api.Packet{filled(8, 24, true, 1), filled(16, 8, true, 2)}, []api.Part{part(8, 1, 24)}},
		{"around", []api.Packet{filled(16, 8, true, 1), filled(8, 24, true, 2)}, []api.Part{part(8, 2, 8, 1, 8, 2, 8)}},
		{"around two", []api.Packet{filled(16, 8, true, 1), filled(32, 8, true, 2), filled(8, 40, true, 3)}, []api.Part{part(8, 3, 8, 1, 8, 3, 8, 2, 8, 3, 8)}},
		{"over two", []api.Packet{filled(8, 16, true, 1), filled(32, 16, true, 2), filled(16, 24, true, 3)}, []api.Part{part(8, 1, 16, 3, 8, 2, 16)}},
		{"over one of three", []api.Packet{filled(0, 8, true, 1), filled(24, 8, true, 2), filled(48, 8, true, 3), filled(16, 16, true, 4)}, []api.Part{part(0, 1, 8), part(16, 4, 8, 2, 8), part(48, 3, 8)}},
	} {
		l, p, ok, e := feed(t, nil, c.pieces...)
		if !sameHoles(l, []api.Hole{hole(-1, c.got...)}) || !none(p) || ok || e != api.OK {
			t.Errorf("%s: %v, %v, %t, %d", c.name, l, p, ok, e)
		}
	}
}

// P7.2: what lies over each other counts in the packet likewise, and the packet is of nothing but what its pieces bore.
func TestLaidOverIsWhole(t *testing.T) {
	l, p, ok, e := feed(t, nil, filled(16, 16, true, 1), filled(24, 20, false, 2), filled(0, 24, true, 3))
	want := some(0)
	want.Data = slices.Concat(bytes.Repeat([]byte{3}, 16), bytes.Repeat([]byte{1}, 16), bytes.Repeat([]byte{2}, 12))
	if len(l) != 0 || !same(p, want) || !ok || e != api.OK {
		t.Error(l, p, ok, e)
	}
}

// plain is a packet that is put together byte by byte, by a way of its own: what came at each place (below 0: nothing).
type plain struct {
	end int
	at  [1000]int
}

// newPlain is one to which nothing came.
func newPlain() *plain {
	s := &plain{end: -1}
	for i := range s.at {
		s.at[i] = -1
	}
	return s
}

// add lets a piece of right form come: whether it fits, and whether all came.
func (s *plain) add(p api.Packet) (fits, whole bool) {
	to := p.Off + len(p.Data)
	if s.end >= 0 && (to > s.end || !p.More && to != s.end) {
		return false, false
	}
	if s.end < 0 && !p.More {
		for i := to; i < 1000; i++ {
			if s.at[i] >= 0 {
				return false, false
			}
		}
	}
	for i, b := range p.Data {
		if s.at[p.Off+i] < 0 {
			s.at[p.Off+i] = int(b)
		}
	}
	if !p.More {
		s.end = to
	}
	return true, s.end >= 0 && !slices.Contains(s.at[:s.end], -1)
}

// parts is what came, each run of bytes one part.
func (s *plain) parts() []api.Part {
	var l []api.Part
	for i, b := range s.at {
		if b < 0 {
			continue
		}
		if i == 0 || s.at[i-1] < 0 {
			l = append(l, api.Part{Off: i})
		}
		l[len(l)-1].Data = append(l[len(l)-1].Data, byte(b))
	}
	return l
}

// held lets a piece come by both ways, which have to answer the same: the holes then, and the plain packet.
func held(t *testing.T, l []api.Hole, s *plain, p api.Packet) ([]api.Hole, *plain) {
	t.Helper()
	fits, whole := s.add(p)
	after, got, ok, e := Add(l, p, 0)
	want := some(0)
	switch {
	case !fits:
		if len(after) != 0 || !none(got) || ok || e != api.ErrForm {
			t.Fatalf("%v doesn't fit %v: %v, %v, %t, %d", p, l, after, got, ok, e)
		}
		return nil, newPlain()
	case whole:
		want.Data = s.parts()[0].Data
		if len(after) != 0 || !same(got, want) || !ok || e != api.OK {
			t.Fatalf("%v makes %v whole: %v, %v, %t, %d", p, l, after, got, ok, e)
		}
		return nil, newPlain()
	}
	if !sameHoles(after, []api.Hole{hole(s.end, s.parts()...)}) || !none(got) || ok || e != api.OK {
		t.Fatalf("%v comes to %v: %v, %v, %t, %d; want %v", p, l, after, got, ok, e, s.parts())
	}
	return after, s
}

// P7.2: each four pieces within 32 bytes, held against the plain way.
func TestEachFourPieces(t *testing.T) {
	var pieces []api.Packet
	for from := 0; from < 32; from += 8 {
		for to := from + 8; to <= 32; to += 8 {
			pieces = append(pieces, filled(from, to-from, true, 0))
			if from > 0 {
				pieces = append(pieces, filled(from, to-from, false, 0))
			}
		}
	}
	try := func(turn ...int) {
		var l []api.Hole
		s := newPlain()
		for i, k := range turn {
			p := pieces[k]
			p.Data = bytes.Repeat([]byte{byte(i + 1)}, len(p.Data))
			l, s = held(t, l, s, p)
		}
	}
	for a := range pieces {
		for b := range pieces {
			for c := range pieces {
				for d := range pieces {
					try(a, b, c, d)
				}
			}
		}
	}
}

// P7.2: any pieces, long and short, held against the plain way.
func TestAnyPieces(t *testing.T) {
	chance := rand.New(rand.NewSource(72))
	for range 2000 {
		var l []api.Hole
		s := newPlain()
		room := 16 + 8*chance.Intn(124)
		for range 40 {
			off := chance.Intn(room) / 8 * 8
			n := 1 + chance.Intn(min(1000-off, 200))
			more := chance.Intn(8) > 0
			if more {
				n = (n + 7) / 8 * 8
			}
			if !more && off == 0 || off+n > 1000 {
				continue
			}
			l, s = held(t, l, s, filled(off, n, more, byte(chance.Uint32())))
		}
	}
}

// P7.3: the pieces of a packet of any length, in any order, some of them twice, come to it, and to nothing earlier.
func TestPiecesComeToThePacket(t *testing.T) {
	chance := rand.New(rand.NewSource(73))
	for n := range 1001 {
		p := some(n)
		pieces, e := Split(p)
		if e != api.OK {
			t.Fatal(n, e)
		}
		for range 10 {
			var order []int
			for i := range pieces {
				for range 1 + chance.Intn(2) {
					order = append(order, i)
				}
			}
			chance.Shuffle(len(order), func(i, j int) { order[i], order[j] = order[j], order[i] })
			come(t, p, pieces, order)
		}
	}
}

// P7.3: in each order that six pieces can come in.
func TestEachOrder(t *testing.T) {
	p := some(1000)
	pieces, _ := Split(p)
	var each func(order []int)
	each = func(order []int) {
		if len(order) == len(pieces) {
			come(t, p, pieces, order)
		}
		for i := range pieces {
			if !slices.Contains(order, i) {
				each(append(slices.Clone(order), i))
			}
		}
	}
	each(nil)
}

// come lets pieces come in an order, till all are there.
func come(t *testing.T, p api.Packet, pieces []api.Packet, order []int) {
	t.Helper()
	var l []api.Hole
	there := map[int]int{}
	for k, i := range order {
		there[i]++
		var got api.Packet
		var ok bool
		var e api.Errno
		l, got, ok, e = Add(l, pieces[i], uint64(k))
		all := len(there) == len(pieces)
		if e != api.OK || ok != all || all && !same(got, p) || !all && (!none(got) || len(l) != 1) {
			t.Fatalf("%d bytes, order %v, at %d: %v, %t, %d", len(p.Data), order, k, got, ok, e)
		}
		if all {
			if len(l) != 0 {
				t.Fatalf("%d bytes, order %v: %v is left", len(p.Data), order, l)
			}
			return
		}
	}
	t.Fatalf("%d bytes, order %v: not whole", len(p.Data), order)
}

// P7.3: pieces of several packets, mixed, come each to its own.
func TestMixed(t *testing.T) {
	chance := rand.New(rand.NewSource(74))
	for range 300 {
		var pieces []api.Packet
		packets := map[uint16]api.Packet{}
		for id := range 8 {
			p := some(177 + chance.Intn(824))
			p.ID = uint16(id)
			chance.Read(p.Data)
			packets[p.ID] = p
			cut, _ := Split(p)
			pieces = append(pieces, cut...)
		}
		chance.Shuffle(len(pieces), func(i, j int) { pieces[i], pieces[j] = pieces[j], pieces[i] })
		var l []api.Hole
		for _, piece := range pieces {
			var p api.Packet
			var ok bool
			var e api.Errno
			l, p, ok, e = Add(l, piece, 0)
			if e != api.OK || ok && !same(p, packets[piece.ID]) {
				t.Fatal(p, ok, e)
			}
			if ok {
				delete(packets, p.ID)
			}
		}
		if len(packets) != 0 || len(l) != 0 {
			t.Fatalf("%v are missing, %v are left", packets, l)
		}
	}
}

// odd are holes that nothing comes to by right ways.
func odd(chance *rand.Rand) []api.Hole {
	numbers := []int{math.MinInt, math.MinInt + 1, -1 << 40, -1008, -8, -1, 0, 1, 8, 16, 999, 1000, 1001, 1 << 40, 1 << 62, math.MaxInt - 8, math.MaxInt}
	var l []api.Hole
	for range chance.Intn(11) {
		h := hole(numbers[chance.Intn(len(numbers))])
		h.ID, h.Since = uint16(chance.Intn(4)), []uint64{0, 1, math.MaxUint64}[chance.Intn(3)]
		for range chance.Intn(5) {
			h.Got = append(h.Got, api.Part{Off: numbers[chance.Intn(len(numbers))], Data: count(chance.Intn(3) * chance.Intn(900))})
		}
		l = append(l, h)
	}
	return l
}

// P1: no argument makes a call panic, or go on for ever; P2: the same again answers the same.
func TestNoPanic(t *testing.T) {
	chance := rand.New(rand.NewSource(1))
	offs := []int{math.MinInt, -8, -1, 0, 1, 8, 16, 512, 992, 1000, 1001, math.MaxInt - 8, math.MaxInt}
	times := []uint64{0, 1, 29, 30, 1 << 62, math.MaxUint64}
	for range 30000 {
		l := odd(chance)
		p := some(chance.Intn(3) * 8 * chance.Intn(70))
		p.ID, p.Off, p.More = uint16(chance.Intn(4)), offs[chance.Intn(len(offs))], chance.Intn(2) == 0
		now := times[chance.Intn(len(times))]
		was := copied(l)
		l1, p1, ok1, e1 := Add(l, p, now)
		if e1 != api.OK && (!none(p1) || ok1) || e1 == api.OK && !ok1 && !none(p1) {
			t.Fatalf("Add(%v, %v) = %v, %t, %d", l, p, p1, ok1, e1)
		}
		if !sameHoles(l, was) {
			t.Fatalf("Add(%v) changed what it was handed: %v", was, l)
		}
		l2, p2, ok2, e2 := Add(was, p, now)
		if !sameHoles(l1, l2) || !same(p1, p2) || ok1 != ok2 || e1 != e2 {
			t.Fatalf("%v, %v, %t, %d; then %v, %v, %t, %d", l1, p1, ok1, e1, l2, p2, ok2, e2)
		}
		Age(l, now)
		Split(p)
	}
	Split(api.Packet{Data: make([]byte, 1<<22)})
	Add(nil, api.Packet{Data: make([]byte, 1<<22)}, 0)
	Add(make([]api.Hole, 100000), api.Packet{Off: 8, Data: []byte{1}}, math.MaxUint64)
	Age(make([]api.Hole, 100000), math.MaxUint64)
}

// P2, and rules 3 and 4: what is handed in stays, and what is answered shares no memory with it, nor within itself.
func TestNothingShared(t *testing.T) {
	p := some(400)
	pieces, _ := Split(p)
	for i := range pieces {
		_ = append(pieces[i].Data, 99, 99)
		clear(pieces[i].Data)
	}
	if !same(p, some(400)) {
		t.Error("the pieces hang on the packet")
	}
	pieces, _ = Split(p)
	clear(p.Data)
	for i, off := range []int{0, 176, 352} {
		if !bytes.Equal(pieces[i].Data, count(400)[off:min(400, off+176)]) {
			t.Error("the packet hangs on piece", i)
		}
	}
	short := some(9)
	pieces, _ = Split(short)
	clear(pieces[0].Data)
	if !same(short, some(9)) {
		t.Error("the only piece hangs on the packet")
	}
}

// P2, and rules 3 and 4: likewise of the calls that take holes, on each of their ways out.
func TestHolesAreNotShared(t *testing.T) {
	own := hole(-1, api.Part{Off: 8, Data: count(8)}, api.Part{Off: 24, Data: count(16)})
	before := []api.Hole{others(1)[0], own, others(2)[1]}
	before[0].Since, before[1].Since = 5, 5
	another := piece(8, 16, true)
	another.ID = 9
	for name, p := range map[string]api.Packet{
		"aged alone": {Off: -1}, "whole at once": some(9), "its form": piece(4, 12, true), "a new hole": another,
		"doesn't fit": piece(8, 12, false), "laid between": piece(16, 24, true), "laid ahead": piece(0, 8, true),
		"apart": piece(48, 56, true), "twice": piece(8, 16, true), "End": piece(40, 50, false),
	} {
		handed := copied(before)
		data := bytes.Clone(p.Data)
		l, got, _, _ := Add(handed, p, 30)
		aged := Age(handed, 30)
		was, wasAged, wasGot := copied(l), copied(aged), bytes.Clone(got.Data)
		if !sameHoles(handed, before) || !bytes.Equal(p.Data, data) {
			t.Errorf("%s: what was handed in was changed", name)
		}
		scrub(handed)
		clear(p.Data)
		if !sameHoles(l, was) || !sameHoles(aged, wasAged) || !bytes.Equal(got.Data, wasGot) {
			t.Errorf("%s: the answer hangs on what was handed in", name)
		}
		for i := range l {
			for j := range l[i].Got {
				one := copied(l)
				_ = append(l[i].Got[j].Data, 99, 99, 99, 99, 99, 99, 99, 99, 99)
				if !sameHoles(l, one) {
					t.Errorf("%s: two lists of the answer share memory", name)
				}
			}
			one := copied(l)
			_ = append(l[i].Got, api.Part{Off: 77})
			if !sameHoles(l, one) {
				t.Errorf("%s: two lists of the answer share memory", name)
			}
		}
	}
}

// scrub writes over all that holes point to, and over them.
func scrub(l []api.Hole) {
	for i := range l {
		for j := range l[i].Got {
			clear(l[i].Got[j].Data)
			l[i].Got[j] = api.Part{Off: 555}
		}
		l[i] = api.Hole{ID: 555}
	}
}

// P2, and rule 4: to write to what Age or Add answered turns nothing that was handed in, nor a later answer.
func TestAnswersAreNew(t *testing.T) {
	before := []api.Hole{hole(-1, api.Part{Off: 8, Data: count(8)}), others(1)[0]}
	was := copied(before)
	for range 2 {
		scrub(Age(before, 0))
		for _, p := range []api.Packet{{Off: -1}, some(9), piece(16, 24, true), piece(4, 12, true), piece(64, 72, true), {Off: 8, Data: count(4)}} {
			l, got, _, _ := Add(before, p, 0)
			scrub(l)
			clear(got.Data)
			if !sameHoles(before, was) {
				t.Fatalf("%v: the answer hangs on what was handed in", p)
			}
		}
	}
	l, p, ok, e := Add(before, piece(0, 8, true), 0)
	if len(l) != 2 || !bytes.Equal(l[0].Got[0].Data[:8], count(8)) || !none(p) || ok || e != api.OK {
		t.Error(l, p, ok, e)
	}
	l, p, ok, e = feed(t, nil, piece(8, 12, false), piece(0, 8, true))
	clear(p.Data)
	if len(l) != 0 || !ok || e != api.OK {
		t.Error(l, ok, e)
	}
	if _, p, _, _ = feed(t, nil, piece(8, 12, false), piece(0, 8, true)); !same(p, some(12)) {
		t.Error(p)
	}
}

// P2, and rule 4: what lies behind a list's length is neither read nor written.
func TestBehindTheLength(t *testing.T) {
	room := count(600)
	p := some(0)
	p.Data = room[:200]
	pieces, e := Split(p)
	if len(pieces) != 2 || !bytes.Equal(pieces[1].Data, room[176:200]) || e != api.OK {
		t.Error(pieces, e)
	}
	p.Data, p.Off, p.More = room[8:16], 8, true
	parts := []api.Part{{Off: 16, Data: room[16:24]}, {Off: 40, Data: room[40:48]}, {Off: 80, Data: room[80:88]}}
	own := hole(-1, parts[:1]...)
	list := []api.Hole{own, others(1)[0], others(2)[1]}
	was := copied(list)
	l, _, _, e := Add(list[:1], p, 0)
	if !sameHoles(l, []api.Hole{hole(-1, api.Part{Off: 8, Data: room[8:24]})}) || e != api.OK {
		t.Error(l, e)
	}
	p.ID = 88
	if l, _, _, e = Add(list[:1], p, 0); len(l) != 2 || e != api.OK {
		t.Error(l, e)
	}
	if l = Age(list[:1], 0); len(l) != 1 {
		t.Error(l)
	}
	if !bytes.Equal(room, count(600)) || !sameHoles(list, was) || parts[1].Off != 40 || parts[2].Off != 80 {
		t.Error("what lies behind the length was written")
	}
}
