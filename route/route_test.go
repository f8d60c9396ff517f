package route

import (
	"fmt"
	"math"
	"math/rand"
	"slices"
	"strings"
	"testing"

	"caravel/addr"
	"caravel/api"
)

// ten is the net of the chapter's example.
var ten = api.IP{10, 0, 0, 0}

// host is the address of a host: each number's is another one.
func host(n int) api.IP {
	return api.IP{172, 16, byte(n >> 8), byte(n)}
}

// bitsOf is an address' bits, one a byte of a text, the highest one of each byte first.
func bitsOf(a api.IP) string {
	return fmt.Sprintf("%08b%08b%08b%08b", a[0], a[1], a[2], a[3])
}

// fromBits is the address that begins with the bits of a text, with noughts behind them.
func fromBits(s string) api.IP {
	var a api.IP
	for i, c := range s {
		if c == '1' {
			a[i/8] |= 128 >> (i % 8)
		}
	}
	return a
}

// cut is an address with noughts behind its first bits, by a way of its own.
func cut(a api.IP, bits int) api.IP {
	return fromBits(bitsOf(a)[:bits])
}

// key is a text by which routes are in order: those with more bits have the lesser one, of as many it is told by their nets.
func key(r api.Route) string {
	return fmt.Sprintf("%03d %s", 100-r.Bits, bitsOf(r.Net))
}

// inOrder are routes as they stand, by a way of its own.
func inOrder(l []api.Route) []api.Route {
	l = slices.Clone(l)
	slices.SortFunc(l, func(a, b api.Route) int { return strings.Compare(key(a), key(b)) })
	return l
}

// added is what Add answers of right routes, by a way of its own.
func added(l []api.Route, r api.Route) ([]api.Route, api.Errno) {
	if r.Bits < 0 || r.Bits > 32 {
		return l, api.ErrArg
	}
	r.Net = cut(r.Net, r.Bits)
	for _, o := range l {
		if key(o) == key(r) {
			return l, api.ErrTwice
		}
	}
	if len(l) == 8 {
		return l, api.ErrFull
	}
	return inOrder(append(slices.Clone(l), r)), api.OK
}

// deleted is what Del answers of right routes, by a way of its own.
func deleted(l []api.Route, net api.IP, bits int) ([]api.Route, api.Errno) {
	var rest []api.Route
	for _, r := range l {
		if fmt.Sprint(r.Net, r.Bits) != fmt.Sprint(net, bits) {
			rest = append(rest, r)
		}
	}
	if len(rest) == len(l) {
		return l, api.ErrNone
	}
	return rest, api.OK
}

// found is what Find answers of right routes, by a way of its own: it looks for the longest one, wherever it stands.
func found(l []api.Route, to api.IP) (api.IP, api.Errno) {
	most, via := -1, api.IP{}
	for _, r := range l {
		if bitsOf(to)[:r.Bits] == bitsOf(r.Net)[:r.Bits] && r.Bits > most {
			most, via = r.Bits, r.Via
		}
	}
	if most < 0 {
		return api.IP{}, api.ErrRoute
	}
	if bitsOf(via) == strings.Repeat("0", 32) {
		return to, api.OK
	}
	return via, api.OK
}

// some are right routes, so many, of many lengths; all but each third by a neighbour.
func some(count int) []api.Route {
	all := []api.Route{
		{Net: api.IP{10, 1, 2, 3}, Bits: 32, Via: host(1)},
		{Net: api.IP{10, 1, 2, 4}, Bits: 32, Via: host(2)},
		{Net: api.IP{10, 1, 2, 0}, Bits: 24},
		{Net: api.IP{10, 1, 0, 0}, Bits: 16, Via: host(4)},
		{Net: api.IP{10, 0, 0, 0}, Bits: 8, Via: host(5)},
		{Net: api.IP{11, 0, 0, 0}, Bits: 8},
		{Net: api.IP{128, 0, 0, 0}, Bits: 1, Via: host(7)},
		{Net: api.IP{}, Bits: 0, Via: host(8)},
	}
	return all[len(all)-count:]
}

// adds fails, unless Add answers these routes, and so.
func adds(t *testing.T, l []api.Route, r api.Route, want []api.Route, why api.Errno) {
	t.Helper()
	was := slices.Clone(l)
	if got, e := Add(l, r); !slices.Equal(got, want) || e != why {
		t.Fatalf("Add(%v, %v) = %v, %d; want %v, %d", was, r, got, e, want, why)
	}
	if !slices.Equal(l, was) {
		t.Fatalf("%v was changed to %v", was, l)
	}
}

// dels fails, unless Del answers these routes, and so.
func dels(t *testing.T, l []api.Route, net api.IP, bits int, want []api.Route, why api.Errno) {
	t.Helper()
	was := slices.Clone(l)
	if got, e := Del(l, net, bits); !slices.Equal(got, want) || e != why {
		t.Fatalf("Del(%v, %v, %d) = %v, %d; want %v, %d", was, net, bits, got, e, want, why)
	}
	if !slices.Equal(l, was) {
		t.Fatalf("%v was changed to %v", was, l)
	}
}

// finds fails, unless a host is had so.
func finds(t *testing.T, l []api.Route, to, want api.IP, why api.Errno) {
	t.Helper()
	was := slices.Clone(l)
	if got, e := Find(l, to); got != want || e != why {
		t.Fatalf("Find(%v, %v) = %v, %d; want %v, %d", l, to, got, e, want, why)
	}
	if !slices.Equal(l, was) {
		t.Fatalf("%v was changed to %v", was, l)
	}
}

// is fails, unless Right tells so of routes.
func is(t *testing.T, l []api.Route, want bool) {
	t.Helper()
	was := slices.Clone(l)
	if Right(l) != want {
		t.Fatalf("Right(%v) = %t", l, !want)
	}
	if !slices.Equal(l, was) {
		t.Fatalf("%v was changed to %v", was, l)
	}
}

// The chapter's example.
func TestExample(t *testing.T) {
	l, e := Add(nil, api.Route{Via: api.IP{10, 0, 0, 1}})
	if e != api.OK {
		t.Fatal(e)
	}
	l, e = Add(l, api.Route{Net: ten, Bits: 8})
	if e != api.OK {
		t.Fatal(e)
	}
	finds(t, l, api.IP{10, 2, 3, 4}, api.IP{10, 2, 3, 4}, api.OK)
	finds(t, l, api.IP{1, 2, 3, 4}, api.IP{10, 0, 0, 1}, api.OK)
}

// P14.1: no routes are right, and up to 8 of them.
func TestRightMany(t *testing.T) {
	is(t, nil, true)
	is(t, []api.Route{}, true)
	for count := range 9 {
		is(t, some(count), true)
	}
	var l []api.Route
	for n := range 40 {
		l = append(l, api.Route{Net: host(n), Bits: 32, Via: host(99)})
		is(t, l, n < 8)
	}
}

// numbers are numbers of bits, among them those that no net has.
func numbers() []int {
	return []int{math.MinInt, math.MinInt + 1, -1 << 32, -256, -33, -32, -8, -1, 33, 34, 40, 63, 64, 255, 256, 264, 288, 1<<32 - 1, 1 << 32, 1<<32 + 8, math.MaxInt - 1, math.MaxInt}
}

// P14.1: Bits of each route is from 0 to 32, wherever it stands.
func TestRightBits(t *testing.T) {
	for bits := range 33 {
		is(t, []api.Route{{Bits: bits}}, true)
	}
	for _, bits := range numbers() {
		is(t, []api.Route{{Bits: bits}}, false)
		is(t, []api.Route{{Bits: bits, Net: host(1), Via: host(2)}}, false)
		for at := range 8 {
			l := slices.Clone(some(8))
			l[at].Bits = bits
			is(t, l, false)
		}
	}
	// In order as to Bits, but out of what they may be.
	is(t, []api.Route{{Bits: 33}, {Bits: 32}}, false)
	is(t, []api.Route{{Bits: 0}, {Bits: -1}}, false)
}

// P14.1: behind its first Bits a Net has noughts alone, among these anything.
func TestRightNet(t *testing.T) {
	for bits := range 33 {
		for at := range 32 {
			var net api.IP
			net[at/8] = 128 >> (at % 8)
			is(t, []api.Route{{Net: net, Bits: bits}}, at < bits)
			is(t, []api.Route{{Net: net, Bits: bits, Via: host(1)}}, at < bits)
		}
		ones := strings.Repeat("1", 32)
		is(t, []api.Route{{Net: fromBits(ones[:bits]), Bits: bits}}, true)
		is(t, []api.Route{{Net: fromBits(ones), Bits: bits}}, bits == 32)
	}
	for at := 2; at < 8; at++ {
		l := slices.Clone(some(8))
		l[at].Net[3] |= 1
		is(t, l, false)
	}
}

// P14.1: Via may be anything.
func TestRightVia(t *testing.T) {
	for _, via := range []api.IP{{}, ten, {10, 1, 2, 3}, {255, 255, 255, 255}, {0, 0, 0, 1}} {
		for at := range 8 {
			l := slices.Clone(some(8))
			l[at].Via = via
			is(t, l, true)
		}
	}
}

// P14.1: routes with more Bits stand first.
func TestRightOrderOfBits(t *testing.T) {
	for a := range 33 {
		for b := range 33 {
			is(t, []api.Route{{Bits: a}, {Bits: b}}, a > b)
			// Their nets don't matter then.
			if a != b {
				ones := strings.Repeat("1", 32)
				is(t, []api.Route{{Net: fromBits(ones[:a]), Bits: a}, {Bits: b}}, a > b)
				is(t, []api.Route{{Bits: a}, {Net: fromBits(ones[:b]), Bits: b}}, a > b)
			}
		}
	}
}

// nets are addresses, in order.
func nets() []api.IP {
	return []api.IP{{}, {0, 0, 0, 1}, {0, 0, 0, 128}, {0, 0, 0, 255}, {0, 0, 1, 0}, {0, 0, 255, 0}, {0, 1, 0, 0}, {0, 127, 255, 255}, {0, 128, 0, 0}, {1, 0, 0, 0}, {1, 2, 3, 4}, {1, 2, 4, 3}, {1, 3, 2, 4}, {2, 1, 3, 4}, {9, 255, 255, 255}, {10, 0, 0, 0}, {100, 0, 0, 0}, {127, 255, 255, 255}, {128, 0, 0, 0}, {255, 0, 0, 0}, {255, 255, 255, 254}, {255, 255, 255, 255}}
}

// P14.1: of as many Bits they stand by Net, byte by byte, no two alike, by whatever neighbours.
func TestRightOrderOfNets(t *testing.T) {
	for i, a := range nets() {
		for j, b := range nets() {
			is(t, []api.Route{{Net: a, Bits: 32}, {Net: b, Bits: 32}}, i < j)
			is(t, []api.Route{{Net: a, Bits: 32, Via: host(1)}, {Net: b, Bits: 32, Via: host(2)}}, i < j)
			is(t, []api.Route{{Net: a, Bits: 32, Via: host(2)}, {Net: b, Bits: 32, Via: host(1)}}, i < j)
			is(t, []api.Route{{Net: cut(a, 8), Bits: 8}, {Net: cut(b, 8), Bits: 8}}, a[0] < b[0])
		}
	}
}

// P14.1: two that aren't in order are seen wherever they stand.
func TestRightEachPlace(t *testing.T) {
	for i := range 8 {
		for j := range i {
			l := slices.Clone(some(8))
			l[i], l[j] = l[j], l[i]
			is(t, l, false)
			l = slices.Clone(some(8))
			l[i] = l[j]
			is(t, l, false)
		}
	}
}

// P14.1: each route comes to its place, whatever is there, and in whatever order they come.
func TestAddPlace(t *testing.T) {
	all := some(8)
	for set := range 1 << 8 {
		var l []api.Route
		for n, r := range all {
			if set>>n&1 == 1 {
				l = append(l, r)
			}
		}
		for n, r := range all {
			if set>>n&1 == 0 {
				adds(t, l, r, inOrder(append(slices.Clone(l), r)), api.OK)
			}
		}
	}
	chance := rand.New(rand.NewSource(141))
	for range 500 {
		var l []api.Route
		for _, n := range chance.Perm(8) {
			l, _ = Add(l, all[n])
		}
		if !slices.Equal(l, all) {
			t.Fatal(l)
		}
	}
}

// P14.1: of two that have as many Bits, the one with the lesser Net stands first.
func TestAddByNet(t *testing.T) {
	for i, a := range nets() {
		for j, b := range nets() {
			one, two := api.Route{Net: a, Bits: 32, Via: host(1)}, api.Route{Net: b, Bits: 32}
			switch {
			case i < j:
				adds(t, []api.Route{one}, two, []api.Route{one, two}, api.OK)
			case i > j:
				adds(t, []api.Route{one}, two, []api.Route{two, one}, api.OK)
			default:
				adds(t, []api.Route{one}, two, []api.Route{one}, api.ErrTwice)
			}
		}
	}
}

// P14.1: a route whose Bits isn't from 0 to 32 is refused ahead of all else; each from 0 to 32 is taken.
func TestAddBits(t *testing.T) {
	for _, bits := range numbers() {
		for count := range 9 {
			for _, net := range []api.IP{{}, ten, {10, 1, 2, 3}, {255, 255, 255, 255}} {
				adds(t, some(count), api.Route{Net: net, Bits: bits, Via: host(3)}, some(count), api.ErrArg)
			}
		}
	}
	for bits := range 33 {
		r := api.Route{Bits: bits, Via: host(3)}
		adds(t, nil, r, []api.Route{r}, api.OK)
	}
}

// P14.1: what a Net has behind its first Bits counts as noughts; Via is taken as it is.
func TestAddNet(t *testing.T) {
	for bits := range 33 {
		for _, net := range append(nets(), api.IP{170, 170, 170, 170}, api.IP{85, 85, 85, 85}) {
			want := api.Route{Net: cut(net, bits), Bits: bits, Via: net}
			adds(t, nil, api.Route{Net: net, Bits: bits, Via: net}, []api.Route{want}, api.OK)
			// So that it is there already.
			adds(t, []api.Route{want}, api.Route{Net: net, Bits: bits}, []api.Route{want}, api.ErrTwice)
		}
	}
}

// P14.1: a route with that Net and Bits is there but once, by whomever, and the one that is there stays; it doesn't matter then whether there is room.
func TestAddTwice(t *testing.T) {
	for count := range 9 {
		l := some(count)
		for _, r := range l {
			for _, via := range []api.IP{r.Via, {}, host(50)} {
				adds(t, l, api.Route{Net: r.Net, Bits: r.Bits, Via: via}, l, api.ErrTwice)
				if r.Bits < 32 {
					r.Net[3] |= 1
					adds(t, l, api.Route{Net: r.Net, Bits: r.Bits, Via: via}, l, api.ErrTwice)
				}
			}
		}
	}
	// That Net with other Bits, and these Bits with another Net, are other routes.
	l := []api.Route{{Net: ten, Bits: 8}}
	for bits := range 33 {
		if bits < 8 {
			adds(t, l, api.Route{Net: ten, Bits: bits}, []api.Route{l[0], {Net: cut(ten, bits), Bits: bits}}, api.OK)
		}
		if bits > 8 {
			adds(t, l, api.Route{Net: ten, Bits: bits}, []api.Route{{Net: ten, Bits: bits}, l[0]}, api.OK)
		}
	}
	for at := range 8 {
		net := ten
		net[0] ^= 128 >> at
		adds(t, l, api.Route{Net: net, Bits: 8}, inOrder([]api.Route{l[0], {Net: net, Bits: 8}}), api.OK)
	}
}

// P14.1: to 8 routes no other one is added.
func TestAddFull(t *testing.T) {
	for _, r := range []api.Route{{Net: host(1), Bits: 32}, {Net: ten, Bits: 7}, {Net: ten, Bits: 9, Via: host(3)}, {Net: api.IP{255}, Bits: 31}} {
		adds(t, some(8), r, some(8), api.ErrFull)
		adds(t, some(7), r, inOrder(append(slices.Clone(some(7)), api.Route{Net: cut(r.Net, r.Bits), Bits: r.Bits, Via: r.Via})), api.OK)
	}
}

// P14.1: just the route with that Net and Bits goes; the others stay in order.
func TestDel(t *testing.T) {
	for count := range 9 {
		l := some(count)
		for at, r := range l {
			dels(t, l, r.Net, r.Bits, append(slices.Clone(l[:at]), l[at+1:]...), api.OK)
		}
		for _, r := range some(8)[:8-count] {
			dels(t, l, r.Net, r.Bits, l, api.ErrNone)
		}
	}
}

// P14.1: with one bit of Net turned, or with other Bits, it is no route that is there.
func TestDelJustThat(t *testing.T) {
	l := some(8)
	for _, r := range l {
		for at := range 32 {
			net := r.Net
			net[at/8] ^= 128 >> (at % 8)
			want, why := deleted(l, net, r.Bits)
			if why != api.ErrNone && r.Bits != 32 && r.Bits != 8 {
				t.Fatal(net, r.Bits)
			}
			dels(t, l, net, r.Bits, want, why)
		}
		for bits := -40; bits <= 80; bits++ {
			if bits != r.Bits {
				dels(t, l, r.Net, bits, l, api.ErrNone)
			}
		}
		for _, bits := range numbers() {
			dels(t, l, r.Net, bits, l, api.ErrNone)
		}
	}
	// What stands behind the first Bits counts here.
	dels(t, []api.Route{{Net: ten, Bits: 8}}, api.IP{10, 0, 0, 1}, 8, []api.Route{{Net: ten, Bits: 8}}, api.ErrNone)
	dels(t, []api.Route{{Via: ten}}, api.IP{0, 0, 0, 1}, 0, []api.Route{{Via: ten}}, api.ErrNone)
	dels(t, []api.Route{{Via: ten}}, api.IP{}, 0, nil, api.OK)
	dels(t, nil, api.IP{}, 0, nil, api.ErrNone)
}

// P14.2: a host is had by the neighbour of the first route within which it lies.
func TestFind(t *testing.T) {
	for _, c := range []struct {
		to, want api.IP
	}{
		{api.IP{10, 1, 2, 3}, host(1)},
		{api.IP{10, 1, 2, 4}, host(2)},
		{api.IP{10, 1, 2, 5}, api.IP{10, 1, 2, 5}},
		{api.IP{10, 1, 2, 0}, api.IP{10, 1, 2, 0}},
		{api.IP{10, 1, 2, 255}, api.IP{10, 1, 2, 255}},
		{api.IP{10, 1, 3, 3}, host(4)},
		{api.IP{10, 1, 255, 255}, host(4)},
		{api.IP{10, 2, 2, 3}, host(5)},
		{api.IP{10, 0, 0, 0}, host(5)},
		{api.IP{11, 1, 2, 3}, api.IP{11, 1, 2, 3}},
		{api.IP{128, 0, 0, 0}, host(7)},
		{api.IP{255, 255, 255, 255}, host(7)},
		{api.IP{127, 255, 255, 255}, host(8)},
		{api.IP{12, 1, 2, 3}, host(8)},
		{api.IP{9, 255, 255, 255}, host(8)},
		{api.IP{}, host(8)},
	} {
		finds(t, some(8), c.to, c.want, api.OK)
	}
}

// P14.2: there is no way to a host that lies in no route.
func TestFindNone(t *testing.T) {
	for _, to := range nets() {
		finds(t, nil, to, api.IP{}, api.ErrRoute)
		finds(t, []api.Route{}, to, api.IP{}, api.ErrRoute)
	}
	for bits := range 33 {
		for _, net := range nets() {
			for _, via := range []api.IP{{}, host(1)} {
				l := []api.Route{{Net: cut(net, bits), Bits: bits, Via: via}}
				want := via
				if via == (api.IP{}) {
					want = net
				}
				finds(t, l, net, want, api.OK)
				for at := range bits {
					to := net
					to[at/8] ^= 128 >> (at % 8)
					finds(t, l, to, api.IP{}, api.ErrRoute)
				}
			}
		}
	}
}

// P14.2: four noughts alone mean that a host is had at once.
func TestFindVia(t *testing.T) {
	for at := range 32 {
		var via api.IP
		via[at/8] = 128 >> (at % 8)
		finds(t, []api.Route{{Via: via}}, ten, via, api.OK)
		finds(t, []api.Route{{Net: ten, Bits: 8, Via: via}, {Via: host(1)}}, api.IP{10, 9, 9, 9}, via, api.OK)
	}
	finds(t, []api.Route{{}}, ten, ten, api.OK)
	finds(t, []api.Route{{}}, api.IP{}, api.IP{}, api.OK)
	// A neighbour may be the host itself, and may lie in no route.
	finds(t, []api.Route{{Net: ten, Bits: 8, Via: ten}}, ten, ten, api.OK)
	finds(t, []api.Route{{Net: ten, Bits: 8, Via: host(1)}}, ten, host(1), api.OK)
}

// P14.2: at once by the longest route is not by the next one's neighbour.
func TestFindAtOnce(t *testing.T) {
	for bits := 1; bits < 33; bits++ {
		l := []api.Route{{Net: cut(api.IP{10, 1, 2, 3}, bits), Bits: bits}, {Via: host(1)}}
		finds(t, l, api.IP{10, 1, 2, 3}, api.IP{10, 1, 2, 3}, api.OK)
		finds(t, l, api.IP{245, 1, 2, 3}, host(1), api.OK)
	}
}

// one is a route near others: of few nets, of any Bits.
func one(chance *rand.Rand) api.Route {
	r := api.Route{Net: near(chance), Bits: chance.Intn(33)}
	if chance.Intn(3) > 0 {
		r.Via = host(chance.Intn(20))
	}
	return r
}

// near is an address that begins as many others do.
func near(chance *rand.Rand) api.IP {
	net := api.IP{170, 170, 170, 170}
	for range chance.Intn(3) {
		at := chance.Intn(32)
		net[at/8] ^= 128 >> (at % 8)
	}
	return net
}

// P14.1 and P14.2: whatever is added and taken away, in whatever order, held against another way of saying it.
func TestAnything(t *testing.T) {
	chance := rand.New(rand.NewSource(142))
	for range 400 {
		var l []api.Route
		for range 100 {
			switch chance.Intn(5) {
			case 0, 1:
				r := one(chance)
				if chance.Intn(20) == 0 {
					r.Bits = numbers()[chance.Intn(len(numbers()))]
				}
				want, why := added(l, r)
				adds(t, l, r, want, why)
				l = want
			case 2:
				r := one(chance)
				if len(l) > 0 && chance.Intn(4) > 0 {
					r = l[chance.Intn(len(l))]
				}
				want, why := deleted(l, r.Net, r.Bits)
				dels(t, l, r.Net, r.Bits, want, why)
				l = want
			default:
				to := near(chance)
				want, why := found(l, to)
				finds(t, l, to, want, why)
			}
			is(t, l, true)
		}
	}
}

// P14.3: no route in which the host lies is longer than the one that counts.
func TestLongestCounts(t *testing.T) {
	chance := rand.New(rand.NewSource(143))
	for range 5000 {
		var l []api.Route
		for range chance.Intn(12) {
			r := one(chance)
			// Told by its neighbour which route counts.
			r.Via = api.IP{1, byte(r.Bits), byte(chance.Intn(256)), 1}
			l, _ = Add(l, r)
		}
		to := near(chance)
		via, e := Find(l, to)
		for _, r := range l {
			if addr.Within(to, r.Net, r.Bits) && (e != api.OK || r.Bits > int(via[1])) {
				t.Fatalf("Find(%v, %v) = %v, %d, but it lies in %v", l, to, via, e, r)
			}
		}
		if e == api.OK && !slices.ContainsFunc(l, func(r api.Route) bool { return r.Via == via && addr.Within(to, r.Net, r.Bits) }) {
			t.Fatalf("Find(%v, %v) = %v", l, to, via)
		}
	}
}

// P14.3: of nets within each other the longest one counts, as long as it is there.
func TestLongestGoes(t *testing.T) {
	to := api.IP{201, 102, 203, 104}
	var l []api.Route
	for _, bits := range []int{0, 32, 8, 31, 1, 17, 16, 24} {
		l, _ = Add(l, api.Route{Net: to, Bits: bits, Via: host(bits + 1)})
	}
	for _, bits := range []int{32, 31, 24, 17, 16, 8, 1, 0} {
		finds(t, l, to, host(bits+1), api.OK)
		l, _ = Del(l, cut(to, bits), bits)
	}
	finds(t, l, to, api.IP{}, api.ErrRoute)
}

// odd are routes of any form.
func odd(chance *rand.Rand) []api.Route {
	var l []api.Route
	for range chance.Intn(30) {
		r := one(chance)
		if chance.Intn(4) == 0 {
			r.Bits = numbers()[chance.Intn(len(numbers()))]
		}
		l = append(l, r)
	}
	return l
}

// P1: no argument makes a call panic, or go on for ever; P2: the same again answers the same, and what is handed in stays.
func TestNoPanic(t *testing.T) {
	chance := rand.New(rand.NewSource(144))
	for range 60000 {
		l, r := odd(chance), one(chance)
		if chance.Intn(4) == 0 {
			r.Bits = numbers()[chance.Intn(len(numbers()))]
		}
		was := slices.Clone(l)
		if Right(l) != Right(was) {
			t.Fatal(was)
		}
		got, e := Add(l, r)
		if again, why := Add(was, r); !slices.Equal(got, again) || e != why {
			t.Fatal(was, r)
		}
		got, e = Del(l, r.Net, r.Bits)
		if again, why := Del(was, r.Net, r.Bits); !slices.Equal(got, again) || e != why {
			t.Fatal(was, r)
		}
		via, e := Find(l, r.Net)
		if again, why := Find(was, r.Net); via != again || e != why {
			t.Fatal(was, r)
		}
		if !slices.Equal(l, was) {
			t.Fatalf("%v was changed to %v", was, l)
		}
	}
}

// P1: long lists come to their end.
func TestLong(t *testing.T) {
	l := make([]api.Route, 1<<20)
	for i := range l {
		l[i] = api.Route{Net: api.IP{1, byte(i >> 16), byte(i >> 8), byte(i)}, Bits: 32}
	}
	is(t, l, false)
	if _, e := Add(l, api.Route{Net: ten, Bits: 8}); e == api.OK {
		t.Error(e)
	}
	Del(l, ten, 8)
	Del(l, l[len(l)-1].Net, 32)
	Find(l, ten)
}

// roomy is routes in a list that has others behind its length.
func roomy(l []api.Route) []api.Route {
	whole := make([]api.Route, 40)
	for i := range whole {
		whole[i] = api.Route{Net: host(i), Bits: 32, Via: host(500 + i)}
	}
	return whole[:copy(whole, l)]
}

// scrub writes over all routes of a list, and over what lies behind them.
func scrub(l []api.Route) {
	l = l[:cap(l)]
	for i := range l {
		l[i] = api.Route{Net: host(999), Bits: 32, Via: host(999)}
	}
}

// P2, and rules 3 and 4: what is handed in stays, what lies behind a list's length is neither read nor written, and what is answered shares no memory with what was handed in, nor with another answer.
func TestNothingShared(t *testing.T) {
	calls := []func([]api.Route, api.Route) ([]api.Route, api.Errno){
		Add,
		func(l []api.Route, r api.Route) ([]api.Route, api.Errno) { return Del(l, r.Net, r.Bits) },
	}
	for _, call := range calls {
		for count := range 9 {
			for _, r := range append(some(8), api.Route{Net: host(count), Bits: 32}, api.Route{Net: ten, Bits: 9, Via: host(3)}, api.Route{Bits: 33}) {
				shares(t, call, some(count), r)
			}
		}
	}
}

// shares fails, if what a call answers hangs on memory that others have.
func shares(t *testing.T, call func([]api.Route, api.Route) ([]api.Route, api.Errno), routes []api.Route, r api.Route) {
	t.Helper()
	want, why := call(slices.Clone(routes), r)
	l, whole := roomy(routes), roomy(routes)
	got, e := call(l, r)
	again, _ := call(l, r)
	if !slices.Equal(l[:cap(l)], whole[:cap(whole)]) {
		t.Fatalf("%v was changed, or what lies behind it", whole)
	}
	if !slices.Equal(got, want) || e != why {
		t.Fatalf("%v, %v: %v, %d; want %v, %d", whole, r, got, e, want, why)
	}
	// host(len(l)) stands just behind the length.
	via, e := Find(l, host(len(l)))
	if want, why := found(routes, host(len(l))); via != want || e != why || !Right(l) {
		t.Fatal("what lies behind is read:", via, e)
	}
	scrub(l)
	if !slices.Equal(got, want) {
		t.Fatalf("%v: the answer hangs on what was handed in", whole)
	}
	scrub(got)
	if !slices.Equal(again, want) {
		t.Fatalf("%v: an answer hangs on another one", whole)
	}
}
