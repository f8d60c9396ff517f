package bridge

import (
	"bytes"
	"math"
	"math/rand"
	"reflect"
	"slices"
	"testing"

	"caravel/api"
)

// all is the address of all.
var all = api.MAC{255, 255, 255, 255, 255, 255}

// card is the address of a card: each number's is another one.
func card(n int) api.MAC {
	return api.MAC{2, 0, 0, 0, byte(n >> 8), byte(n)}
}

// frame is the bytes of a frame, with a body.
func frame(dst, src api.MAC) []byte {
	return slices.Concat(dst[:], src[:], []byte{8, 0}, []byte("body"))
}

// far are numbers that no port has.
func far() []int {
	return []int{
		math.MinInt, math.MinInt + 1, -1 << 32, -65536, -256, -9, -8, -2, -1,
		8, 9, 16, 255, 256, 65535, 65536, 1 << 31, 1 << 32, 1<<32 + 1, 1 << 62, math.MaxInt - 1, math.MaxInt,
	}
}

// with is a bridge of so many ports that knows the first so many cards, card n at the port n modulo the ports.
func with(ports, cards int) api.Bridge {
	b := api.Bridge{Ports: ports}
	for n := range cards {
		b.Learnt = append(b.Learnt, api.Learnt{MAC: card(n), Port: n % ports})
	}
	return b
}

// but is the ports of a bridge without one of them, by a way of its own.
func but(ports, port int) []int {
	var l []int
	for p := 0; p < port; p++ {
		l = append(l, p)
	}
	for p := port + 1; p < ports; p++ {
		l = append(l, p)
	}
	return l
}

// copied is the same bridge in other memory, by a way of its own.
func copied(b api.Bridge) api.Bridge {
	b.Learnt = append([]api.Learnt(nil), b.Learnt...)
	return b
}

// same tells whether two bridges are alike, a list that is nil like one without elements.
func same(a, b api.Bridge) bool {
	return a.Ports == b.Ports && slices.Equal(a.Learnt, b.Learnt)
}

// sent fails, unless a frame goes out by these ports, and these cards are known then.
func sent(t *testing.T, b api.Bridge, port int, f []byte, ports []int, known []api.Learnt) {
	t.Helper()
	was := copied(b)
	got, l, e := Forward(b, port, f)
	want := api.Bridge{Ports: was.Ports, Learnt: known}
	if !same(got, want) || !slices.Equal(l, ports) || e != api.OK {
		t.Fatalf("Forward(%v, %d, %x) = %v, %v, %d; want %v, %v", was, port, f, got, l, e, want, ports)
	}
	if !same(b, was) {
		t.Fatalf("%v was changed to %v", was, b)
	}
}

// The chapter's example.
func TestExample(t *testing.T) {
	x, y := card(10), card(11)
	b, e := New(3)
	if e != api.OK {
		t.Fatal(e)
	}
	for _, c := range []struct {
		port     int
		dst, src api.MAC
		out      []int
	}{
		{0, y, x, []int{1, 2}},
		{2, x, y, []int{0}},
		{0, y, x, []int{2}},
	} {
		var out []int
		b, out, e = Forward(b, c.port, frame(c.dst, c.src))
		if !slices.Equal(out, c.out) || e != api.OK {
			t.Error(c, out, e)
		}
	}
	if want := (api.Bridge{Ports: 3, Learnt: []api.Learnt{{MAC: y, Port: 2}, {MAC: x, Port: 0}}}); !same(b, want) {
		t.Error(b)
	}
}

// P12.1: a new bridge has from 1 to 8 ports, and knows no card.
func TestNew(t *testing.T) {
	tries := append(far(), 0)
	for n := range 300 {
		tries = append(tries, n)
	}
	for _, n := range tries {
		b, e := New(n)
		if n < 1 || n > 8 {
			if !reflect.DeepEqual(b, api.Bridge{}) || e != api.ErrArg {
				t.Errorf("New(%d) = %v, %d", n, b, e)
			}
			continue
		}
		if b.Ports != n || len(b.Learnt) != 0 || e != api.OK {
			t.Errorf("New(%d) = %v, %d", n, b, e)
		}
		for c := range 20 {
			if p, ok := Find(b, card(c)); p != 0 || ok {
				t.Errorf("a new one finds a card at %d", p)
			}
		}
		if p, ok := Find(b, api.MAC{}); p != 0 || ok {
			t.Errorf("a new one finds the zero address at %d", p)
		}
	}
}

// P12.1: each card that is known is found at its port, and no other one.
func TestFind(t *testing.T) {
	for ports := 1; ports <= 8; ports++ {
		for n := range 17 {
			b := with(ports, n)
			for c := range 40 {
				p, ok := Find(b, card(c))
				if c < n && (p != c%ports || !ok) || c >= n && (p != 0 || ok) {
					t.Fatalf("Find(%v, card %d) = %d, %t", b, c, p, ok)
				}
			}
		}
	}
	b := api.Bridge{Ports: 8, Learnt: []api.Learnt{{MAC: card(1), Port: 5}, {MAC: api.MAC{}, Port: 6}, {MAC: all, Port: 7}}}
	if p, ok := Find(b, api.MAC{}); p != 6 || !ok {
		t.Error("the zero address:", p, ok)
	}
	if p, ok := Find(b, all); p != 7 || !ok {
		t.Error("the address of all:", p, ok)
	}
}

// P12.1: an address that differs in one bit is another card's.
func TestFindEachBit(t *testing.T) {
	for _, a := range []api.MAC{{}, all, card(1), {0x52, 0x54, 0, 0x12, 0x34, 0x56}} {
		b := api.Bridge{Ports: 4, Learnt: []api.Learnt{{MAC: a, Port: 3}}}
		if p, ok := Find(b, a); p != 3 || !ok {
			t.Error(a, p, ok)
		}
		for bit := range 48 {
			other := a
			other[bit/8] ^= 1 << (bit % 8)
			if p, ok := Find(b, other); p != 0 || ok {
				t.Errorf("%x, where %x is known: %d, %t", other, a, p, ok)
			}
		}
	}
}

// P12.2: there is no such port, below 0, or of the ports' number on; that is told ahead of a frame that is cut.
func TestNoPort(t *testing.T) {
	for ports := 1; ports <= 8; ports++ {
		for _, cards := range []int{0, 3, 16} {
			b := with(ports, cards)
			for _, p := range append(far(), ports, ports+1) {
				for _, f := range [][]byte{frame(card(1), card(2)), frame(all, card(90)), {}, nil, make([]byte, 13)} {
					got, l, e := Forward(b, p, f)
					if !same(got, with(ports, cards)) || l != nil || e != api.ErrArg {
						t.Fatalf("Forward(%v, %d, %x) = %v, %v, %d", b, p, f, got, l, e)
					}
				}
			}
		}
	}
}

// P12.2: a frame has 14 bytes at least; of one that is shorter nothing is learnt.
func TestCut(t *testing.T) {
	whole := append(frame(card(1), card(90)), make([]byte, 3000)...)
	for _, cards := range []int{0, 1, 2, 15, 16} {
		for n := range len(whole) + 1 {
			b := with(4, cards)
			got, l, e := Forward(b, 2, whole[:n])
			if n < 14 {
				if !same(got, with(4, cards)) || l != nil || e != api.ErrCut {
					t.Fatalf("%d bytes: %v, %v, %d", n, got, l, e)
				}
				continue
			}
			if p, ok := Find(got, card(90)); p != 2 || !ok || e != api.OK {
				t.Fatalf("%d bytes: %v, %v, %d", n, got, l, e)
			}
		}
	}
	if b, l, e := Forward(with(4, 3), 2, nil); !same(b, with(4, 3)) || l != nil || e != api.ErrCut {
		t.Error(b, l, e)
	}
}

// P12.2: whom a frame is from and to is told by its first twelve bytes alone, each one of them.
func TestWhichBytes(t *testing.T) {
	for at := range 14 {
		f := slices.Concat([]byte{2, 1, 1, 1, 1, 1}, []byte{4, 2, 2, 2, 2, 2}, []byte{3, 3})
		f[at] ^= 128
		dst, src := api.MAC(f[:6]), api.MAC(f[6:12])
		b := api.Bridge{Ports: 3, Learnt: []api.Learnt{{MAC: dst, Port: 1}}}
		sent(t, b, 0, f, []int{1}, []api.Learnt{{MAC: dst, Port: 1}, {MAC: src, Port: 0}})
	}
}

// P12.2: of the frame's type and body nothing hangs.
func TestRestIsNothing(t *testing.T) {
	for _, rest := range [][]byte{{0, 0}, {8, 0}, {8, 6}, {255, 255}, []byte("a body that is longer"), make([]byte, 2000)} {
		f := slices.Concat(make([]byte, 0, 3000), frame(card(2), card(1))[:12], rest)
		sent(t, with(3, 3), 2, f, nil, []api.Learnt{{MAC: card(0), Port: 0}, {MAC: card(2), Port: 2}, {MAC: card(1), Port: 2}})
	}
}

// P12.2: a card that is seen stands last, at the port at which it was seen, and nowhere else.
func TestSees(t *testing.T) {
	for ports := 1; ports <= 8; ports++ {
		for n := range 17 {
			for c := range n {
				for p := range ports {
					b := with(ports, n)
					known := append(append([]api.Learnt(nil), b.Learnt[:c]...), b.Learnt[c+1:]...)
					known = append(known, api.Learnt{MAC: card(c), Port: p})
					sent(t, b, p, frame(card(99), card(c)), but(ports, p), known)
				}
			}
		}
	}
}

// P12.2: a card that wasn't known stands behind the others; the first of these is forgotten, if there were 16.
func TestForgets(t *testing.T) {
	for ports := 1; ports <= 8; ports++ {
		for n := range 17 {
			for p := range ports {
				b := with(ports, n)
				known := append([]api.Learnt(nil), b.Learnt...)
				if n == 16 {
					known = known[1:]
				}
				known = append(known, api.Learnt{MAC: card(77), Port: p})
				sent(t, b, p, frame(card(99), card(77)), but(ports, p), known)
			}
		}
	}
}

// P12.2: more and more cards come: those are kept that were seen last, among them one that is seen again and again.
func TestForgetsInTurn(t *testing.T) {
	b, _ := New(8)
	for n := range 60 {
		if n%5 == 4 {
			b, _, _ = Forward(b, 7, frame(all, card(0)))
		}
		b, _, _ = Forward(b, n%8, frame(all, card(n)))
		if len(b.Learnt) != min(n+1, 16) {
			t.Fatalf("%d: %v", n, b)
		}
		for c := range n + 1 {
			if _, ok := Find(b, card(c)); ok != (c == 0 || c > n-15) {
				t.Fatalf("%d: card %d: %t: %v", n, c, ok, b)
			}
		}
	}
}

// P12.2: what means several cards is not learnt, whichever first byte; it goes out all the same.
func TestSeveral(t *testing.T) {
	for first := range 256 {
		for _, rest := range []byte{0, 1, 254, 255} {
			src := api.MAC{byte(first), 9, rest, rest, rest, rest}
			for _, n := range []int{0, 3, 15, 16} {
				b := with(4, n)
				known := append([]api.Learnt(nil), b.Learnt...)
				if first%2 == 0 {
					if n == 16 {
						known = known[1:]
					}
					known = append(known, api.Learnt{MAC: src, Port: 1})
				}
				sent(t, b, 1, frame(card(99), src), []int{0, 2, 3}, known)
			}
		}
	}
}

// P12.2: of what means several cards nothing is seen, even if the bridge knows it from elsewhere.
func TestSeveralStay(t *testing.T) {
	group := api.MAC{1, 0, 94, 0, 0, 1}
	b := api.Bridge{Ports: 3, Learnt: []api.Learnt{{MAC: group, Port: 1}, {MAC: all, Port: 2}, {MAC: card(1), Port: 0}}}
	for _, src := range []api.MAC{group, all} {
		for p := range 3 {
			sent(t, b, p, frame(card(99), src), but(3, p), b.Learnt)
		}
	}
}

// P12.2: to a card that isn't known, and to all, by all ports but the one by which it came, rising.
func TestFloods(t *testing.T) {
	for ports := 1; ports <= 8; ports++ {
		for p := range ports {
			want := but(ports, p)
			for _, dst := range []api.MAC{card(99), {}, all, {1, 0, 94, 0, 0, 1}, {3, 255, 255, 255, 255, 255}, {254, 255, 255, 255, 255, 255}} {
				sent(t, api.Bridge{Ports: ports}, p, frame(dst, card(5)), want, []api.Learnt{{MAC: card(5), Port: p}})
				// What is sent by several is not learnt.
				sent(t, api.Bridge{Ports: ports}, p, frame(dst, all), want, nil)
			}
		}
	}
}

// P12.2: to a card that is known, by its port alone; by none, if the frame came by that.
func TestKnown(t *testing.T) {
	for ports := 1; ports <= 8; ports++ {
		for _, n := range []int{1, 2, 5, 15, 16} {
			for c := range n {
				for p := range ports {
					b := with(ports, n)
					want := []int{c % ports}
					if c%ports == p {
						want = nil
					}
					sent(t, b, p, frame(card(c), all), want, b.Learnt)
				}
			}
		}
	}
}

// P12.2: the address of all means all, even if the bridge knows it; another one of several cards is one like others.
func TestToAll(t *testing.T) {
	for bit := -1; bit < 48; bit++ {
		dst := all
		if bit >= 0 {
			dst[bit/8] ^= 1 << (bit % 8)
		}
		b := api.Bridge{Ports: 4, Learnt: []api.Learnt{{MAC: dst, Port: 2}}}
		known := []api.Learnt{{MAC: dst, Port: 2}, {MAC: card(5), Port: 1}}
		want := []int{2}
		if bit < 0 {
			want = []int{0, 2, 3}
		}
		sent(t, b, 1, frame(dst, card(5)), want, known)
	}
}

// P12.2: what is known is what is known now, when the frame's own card was seen.
func TestKnownNow(t *testing.T) {
	// To itself: it is where it was seen, at this port.
	sent(t, with(4, 0), 3, frame(card(1), card(1)), nil, []api.Learnt{{MAC: card(1), Port: 3}})
	sent(t, with(4, 2), 3, frame(card(1), card(1)), nil, []api.Learnt{{MAC: card(0), Port: 0}, {MAC: card(1), Port: 3}})
	// Of several cards to the same: it isn't known.
	group := api.MAC{1, 0, 94, 0, 0, 1}
	sent(t, with(4, 0), 3, frame(group, group), []int{0, 1, 2}, nil)
	// To the card that is forgotten by it.
	b := with(4, 16)
	known := append(append([]api.Learnt(nil), b.Learnt[1:]...), api.Learnt{MAC: card(50), Port: 3})
	sent(t, b, 3, frame(card(0), card(50)), []int{0, 1, 2}, known)
	sent(t, b, 3, frame(card(1), card(50)), []int{1}, known)
	// Of a card that was known nothing is forgotten.
	known = append(append([]api.Learnt(nil), b.Learnt[:15]...), api.Learnt{MAC: card(15), Port: 2})
	sent(t, b, 2, frame(card(0), card(15)), []int{0}, known)
}

// sighting is that a card was seen at a port.
type sighting = api.Learnt

// recent are the last sightings of the sixteen cards that were seen last, the latest behind the others.
func recent(seen []sighting) []api.Learnt {
	var l []api.Learnt
	met := map[api.MAC]bool{}
	for i := len(seen) - 1; i >= 0 && len(l) < 16; i-- {
		if !met[seen[i].MAC] {
			met[seen[i].MAC] = true
			l = append(l, seen[i])
		}
	}
	slices.Reverse(l)
	return l
}

// anyone is the address of one of some cards, now and then one that means several.
func anyone(chance *rand.Rand, cards int) api.MAC {
	switch chance.Intn(8) {
	case 0:
		return all
	case 1:
		return api.MAC{1, 0, 94, 0, 0, byte(chance.Intn(3))}
	}
	return card(chance.Intn(cards))
}

// P12.1 to P12.3: whatever comes in, held against all that was ever seen.
func TestAnything(t *testing.T) {
	chance := rand.New(rand.NewSource(121))
	for ports := 1; ports <= 8; ports++ {
		for _, cards := range []int{2, 5, 16, 17, 18, 30, 200} {
			b, _ := New(ports)
			var seen []sighting
			for range 500 {
				p, dst, src := chance.Intn(ports), anyone(chance, cards), anyone(chance, cards)
				if src[0]%2 == 0 {
					seen = append(seen, sighting{MAC: src, Port: p})
				}
				known := recent(seen)
				want := but(ports, p)
				if i := slices.IndexFunc(known, func(l api.Learnt) bool { return l.MAC == dst }); i >= 0 {
					want = []int{known[i].Port}
				}
				if slices.Equal(want, []int{p}) {
					want = nil
				}
				sent(t, b, p, frame(dst, src), want, known)
				b, _, _ = Forward(b, p, frame(dst, src))
			}
		}
	}
}

// P12.3: a frame never goes out by the port by which it came; what is sent to a card that was seen last at a port goes there alone, though the bridge saw fifteen others since.
func TestFollows(t *testing.T) {
	chance := rand.New(rand.NewSource(122))
	for range 3000 {
		ports := 1 + chance.Intn(8)
		b, _ := New(ports)
		for range chance.Intn(40) {
			b, _, _ = Forward(b, chance.Intn(ports), frame(anyone(chance, 60), anyone(chance, 60)))
		}
		at := chance.Intn(ports)
		b, _, _ = Forward(b, at, frame(all, card(7)))
		for n := range chance.Intn(16) {
			b, _, _ = Forward(b, chance.Intn(ports), frame(anyone(chance, 60), card(100+n)))
		}
		for p := range ports {
			_, l, e := Forward(b, p, frame(card(7), all))
			if slices.Contains(l, p) || e != api.OK || p != at && !slices.Equal(l, []int{at}) || p == at && len(l) != 0 {
				t.Fatalf("%v: from %d to %d: %v, %d", b, p, at, l, e)
			}
			if _, l, _ = Forward(b, p, frame(anyone(chance, 60), anyone(chance, 60))); slices.Contains(l, p) {
				t.Fatalf("%v: it goes out by %d, by which it came: %v", b, p, l)
			}
		}
	}
}

// odd is a bridge of any form.
func odd(chance *rand.Rand) api.Bridge {
	numbers := append(far(), 0, 1, 2, 3, 4, 5, 6, 7)
	one := func() int { return numbers[chance.Intn(len(numbers))] }
	b := api.Bridge{Ports: one()}
	for range chance.Intn(40) {
		b.Learnt = append(b.Learnt, api.Learnt{MAC: anyone(chance, 20), Port: one()})
	}
	return b
}

// P1: no argument makes a call panic, or go on for ever; P2: the same again answers the same, and what is handed in stays.
func TestNoPanic(t *testing.T) {
	chance := rand.New(rand.NewSource(123))
	numbers := append(far(), 0, 1, 2, 3, 4, 5, 6, 7)
	for range 60000 {
		b, p := odd(chance), numbers[chance.Intn(len(numbers))]
		if chance.Intn(2) == 0 {
			p = b.Ports - 1 - chance.Intn(3)
		}
		f := frame(anyone(chance, 20), anyone(chance, 20))
		f = f[:chance.Intn(len(f)+1)]
		was, wasFrame := copied(b), bytes.Clone(f)
		one, l, e := Forward(b, p, f)
		if !same(b, was) || !bytes.Equal(f, wasFrame) {
			t.Fatalf("%v, %x: what was handed in was changed", was, f)
		}
		two, m, why := Forward(was, p, wasFrame)
		if !same(one, two) || !slices.Equal(l, m) || e != why {
			t.Fatalf("%v, %v, %d; then %v, %v, %d", one, l, e, two, m, why)
		}
		if e != api.OK && (!same(one, was) || l != nil) {
			t.Fatalf("%v, %d, %x: %v, %v, %d", was, p, f, one, l, e)
		}
		at, ok := Find(b, card(3))
		if again, so := Find(was, card(3)); again != at || so != ok {
			t.Fatal(at, ok, again, so)
		}
	}
}

// P1: a bridge that says that it has any number of ports, long lists, and long frames, come to their end.
func TestLong(t *testing.T) {
	for _, ports := range append(far(), 0, 1, 7) {
		b := api.Bridge{Ports: ports, Learnt: make([]api.Learnt, 1<<20)}
		for _, p := range []int{math.MinInt, -1, 0, 1, ports - 1, ports, math.MaxInt} {
			Forward(b, p, make([]byte, 1<<20))
			Forward(api.Bridge{Ports: ports}, p, frame(all, card(1)))
		}
		Find(b, all)
	}
}

// scrub writes over all cards that a bridge points to, and over what lies behind them.
func scrub(b api.Bridge) {
	l := b.Learnt[:cap(b.Learnt)]
	for i := range l {
		l[i] = api.Learnt{MAC: card(999), Port: 5}
	}
}

// roomy is a bridge whose list has cards behind its length.
func roomy(b api.Bridge) api.Bridge {
	l := make([]api.Learnt, 40)
	for i := range l {
		l[i] = api.Learnt{MAC: card(500 + i), Port: 1}
	}
	b.Learnt = l[:copy(l, b.Learnt)]
	return b
}

// P2, and rules 3 and 4: what is handed in stays, what lies behind a list's length is neither read nor written, and what is answered shares no memory with what was handed in, nor with another answer.
func TestNothingShared(t *testing.T) {
	for _, n := range []int{0, 1, 2, 15, 16} {
		for _, src := range []api.MAC{card(0), card(15), card(40), card(510), all} {
			for _, dst := range []api.MAC{card(1), card(505), all} {
				for _, port := range []int{-1, 0, 3, 4} {
					for _, size := range []int{13, 14, 18} {
						shares(t, with(4, n), port, frame(dst, src)[:size])
					}
				}
			}
		}
	}
}

// shares fails, if what Forward answers hangs on memory that others have.
func shares(t *testing.T, was api.Bridge, port int, f []byte) {
	t.Helper()
	want, ports, why := Forward(copied(was), port, bytes.Clone(f))
	b, whole := roomy(was), roomy(was)
	in := append(make([]byte, 0, 64), f...)
	got, l, e := Forward(b, port, in)
	again, m, _ := Forward(b, port, in)
	if !slices.Equal(b.Learnt[:40], whole.Learnt[:40]) {
		t.Fatalf("%v was changed, or what lies behind it", was)
	}
	for _, a := range in[len(f):cap(in)] {
		if a != 0 {
			t.Fatalf("%x: what lies behind it was changed", f)
		}
	}
	if !same(got, want) || !slices.Equal(l, ports) || e != why {
		t.Fatalf("%v, %d, %x: %v, %v, %d; want %v, %v, %d", was, port, f, got, l, e, want, ports, why)
	}
	scrub(b)
	clear(in[:cap(in)])
	if !same(got, want) || !slices.Equal(l, ports) {
		t.Fatalf("%v: the answer hangs on what was handed in", was)
	}
	scrub(got)
	clear(l[:cap(l)])
	if !same(again, want) || !slices.Equal(m, ports) {
		t.Fatalf("%v: an answer hangs on another one", was)
	}
}

// P2, and rule 4: new bridges share nothing with each other.
func TestNewIsNew(t *testing.T) {
	one, _ := New(4)
	one, _, _ = Forward(one, 1, frame(all, card(1)))
	two, _ := New(4)
	if !same(two, api.Bridge{Ports: 4}) || len(one.Learnt) != 1 {
		t.Error(one, two)
	}
}
