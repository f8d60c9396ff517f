package neigh

import (
	"math"
	"math/rand"
	"slices"
	"testing"

	"caravel/api"
)

// all is the card's address that means all.
var all = api.MAC{255, 255, 255, 255, 255, 255}

// here and mine are the address and the card of the host that hears.
var (
	here = api.IP{10, 0, 0, 99}
	mine = api.MAC{2, 0, 0, 0, 9, 99}
)

// host is the address of a host: each number's is another one.
func host(n int) api.IP {
	return api.IP{10, 0, byte(n >> 8), byte(n)}
}

// card is the address of a card: each number's is another one.
func card(n int) api.MAC {
	return api.MAC{2, 0, 0, 0, byte(n >> 8), byte(n)}
}

// known are so many neighbours, host n of them heard of at the time n+1.
func known(count int) []api.Neigh {
	var l []api.Neigh
	for n := range count {
		l = append(l, api.Neigh{IP: host(n), MAC: card(n), Since: uint64(n + 1)})
	}
	return l
}

// without is the neighbours but the one at a place, by a way of its own.
func without(l []api.Neigh, at int) []api.Neigh {
	var rest []api.Neigh
	for i := range l {
		if i != at {
			rest = append(rest, l[i])
		}
	}
	return rest
}

// learnt is what Learn answers, by a way of its own: it looks at the latest first.
func learnt(l []api.Neigh, ip api.IP, mac api.MAC, now uint64) []api.Neigh {
	if ip[0]|ip[1]|ip[2]|ip[3] == 0 || mac[0]%2 == 1 {
		return l
	}
	back := []api.Neigh{{IP: ip, MAC: mac, Since: now}}
	for i := len(l) - 1; i >= 0; i-- {
		if l[i].IP != ip && len(back) < 8 {
			back = append(back, l[i])
		}
	}
	slices.Reverse(back)
	return back
}

// learns fails, unless these neighbours are known then.
func learns(t *testing.T, l []api.Neigh, ip api.IP, mac api.MAC, now uint64, want []api.Neigh) {
	t.Helper()
	was := slices.Clone(l)
	if got := Learn(l, ip, mac, now); !slices.Equal(got, want) {
		t.Fatalf("Learn(%v, %v, %x, %d) = %v; want %v", was, ip, mac, now, got, want)
	}
	if !slices.Equal(l, was) {
		t.Fatalf("%v was changed to %v", was, l)
	}
}

// hears fails, unless a host at here and mine knows these neighbours then, and answers so, if it does.
func hears(t *testing.T, l []api.Neigh, a api.Arp, now uint64, want []api.Neigh, answer api.Arp, answers bool) {
	t.Helper()
	was := slices.Clone(l)
	got, r, ok := Hear(l, a, here, mine, now)
	if !slices.Equal(got, want) || r != answer || ok != answers {
		t.Fatalf("Hear(%v, %v, %d) = %v, %v, %t; want %v, %v, %t", was, a, now, got, r, ok, want, answer, answers)
	}
	if !slices.Equal(l, was) {
		t.Fatalf("%v was changed to %v", was, l)
	}
}

// finds fails, unless a neighbour's card is this one.
func finds(t *testing.T, l []api.Neigh, ip api.IP, now uint64, want api.MAC, why api.Errno) {
	t.Helper()
	if got, e := Find(l, ip, now); got != want || e != why {
		t.Fatalf("Find(%v, %v, %d) = %x, %d; want %x, %d", l, ip, now, got, e, want, why)
	}
}

// The chapter's example.
func TestExample(t *testing.T) {
	one, two := api.IP{10, 0, 0, 1}, api.IP{10, 0, 0, 2}
	a, b := api.MAC{2, 0, 0, 0, 0, 1}, api.MAC{2, 0, 0, 0, 0, 2}
	l, r, ok := Hear(nil, Ask(one, a, two), two, b, 5)
	if want := (api.Arp{Op: 2, FromMAC: b, From: two, ToMAC: a, To: one}); r != want || !ok {
		t.Error(r, ok)
	}
	if !slices.Equal(l, []api.Neigh{{IP: one, MAC: a, Since: 5}}) {
		t.Error(l)
	}
}

// P13.1: a neighbour that is learnt stands last, with its card, since now, and nowhere else.
func TestLearnAgain(t *testing.T) {
	for count := range 9 {
		l := known(count)
		for n := range count {
			for _, now := range []uint64{0, 3, 50, 1 << 62, math.MaxUint64} {
				for _, mac := range []api.MAC{card(n), card(70), {}} {
					want := append(without(l, n), api.Neigh{IP: host(n), MAC: mac, Since: now})
					learns(t, l, host(n), mac, now, want)
				}
			}
		}
	}
}

// P13.1: one that wasn't known stands behind the others; the first of these goes, if there were 8.
func TestLearnOneMore(t *testing.T) {
	for count := range 9 {
		l := known(count)
		for _, ip := range []api.IP{host(70), {0, 0, 0, 1}, {1, 0, 0, 0}, {255, 255, 255, 255}} {
			want := slices.Clone(l)
			if count == 8 {
				want = want[1:]
			}
			learns(t, l, ip, card(70), 9, append(want, api.Neigh{IP: ip, MAC: card(70), Since: 9}))
		}
	}
}

// P13.1: that one is old doesn't matter to Learn: each counts, and stays where it is.
func TestLearnKeepsOld(t *testing.T) {
	l := known(8)
	learns(t, l, host(70), card(70), 5000, append(slices.Clone(l[1:]), api.Neigh{IP: host(70), MAC: card(70), Since: 5000}))
	learns(t, l[:7], host(70), card(70), 5000, append(slices.Clone(l[:7]), api.Neigh{IP: host(70), MAC: card(70), Since: 5000}))
}

// P13.1: two hosts may have one card.
func TestLearnSameCard(t *testing.T) {
	l := known(3)
	learns(t, l, host(70), card(1), 9, append(slices.Clone(l), api.Neigh{IP: host(70), MAC: card(1), Since: 9}))
}

// P13.1: four noughts are no neighbour's address, but whatever has one other byte is one.
func TestLearnNoughts(t *testing.T) {
	for _, count := range []int{0, 3, 8} {
		learns(t, known(count), api.IP{}, card(70), 9, known(count))
	}
	for bit := range 32 {
		var ip api.IP
		ip[bit/8] = 1 << (bit % 8)
		learns(t, nil, ip, card(70), 9, []api.Neigh{{IP: ip, MAC: card(70), Since: 9}})
	}
}

// P13.1: what means several cards is no neighbour's card, whichever first byte; the other bytes don't matter.
func TestLearnSeveral(t *testing.T) {
	for first := range 256 {
		for _, rest := range []byte{0, 1, 254, 255} {
			mac := api.MAC{byte(first), rest, rest, rest, rest, rest}
			for _, count := range []int{0, 3, 8} {
				for _, ip := range []api.IP{host(1), host(70)} {
					l := known(count)
					if first%2 == 1 {
						learns(t, l, ip, mac, 9, l)
						continue
					}
					learns(t, l, ip, mac, 9, learnt(l, ip, mac, 9))
				}
			}
		}
	}
}

// P13.1: a neighbour that is known, and not old, is found with its card; no other one is.
func TestFind(t *testing.T) {
	for count := range 9 {
		l := known(count)
		for n := range 20 {
			if n < count {
				finds(t, l, host(n), 50, card(n), api.OK)
			} else {
				finds(t, l, host(n), 50, api.MAC{}, api.ErrNone)
			}
		}
		finds(t, l, api.IP{}, 50, api.MAC{}, api.ErrNone)
	}
}

// P13.1: an address that differs in one bit is another neighbour's.
func TestFindEachBit(t *testing.T) {
	for _, ip := range []api.IP{host(3), {1, 2, 3, 4}, {255, 255, 255, 255}, {}} {
		l := []api.Neigh{{IP: host(77), MAC: card(2), Since: 5}, {IP: ip, MAC: card(1), Since: 5}}
		finds(t, l, ip, 5, card(1), api.OK)
		for bit := range 32 {
			other := ip
			other[bit/8] ^= 1 << (bit % 8)
			finds(t, l, other, 5, api.MAC{}, api.ErrNone)
		}
	}
}

// sinces are times at which one is heard of.
func sinces() []uint64 {
	return []uint64{0, 1, 5, 99, 100, 101, 1<<32 - 50, 1<<62 - 100, 1 << 62, math.MaxUint64 - 100, math.MaxUint64 - 99, math.MaxUint64}
}

// P13.1: one is old from 100 ticks behind its time on; ahead of its time it isn't.
func TestOld(t *testing.T) {
	for _, since := range sinces() {
		l := []api.Neigh{{IP: host(1), MAC: card(1), Since: since}}
		for _, d := range []uint64{0, 1, 2, 50, 98, 99, 100, 101, 200, 256, 65536, 1 << 32, 1 << 61, 1 << 62, 1 << 63} {
			if since+d >= since {
				wanted := l
				if d >= 100 {
					wanted = nil
				}
				aged(t, l, since+d, wanted)
			}
			if since >= d {
				aged(t, l, since-d, l)
			}
		}
	}
}

// aged fails, unless of one neighbour those wanted are left: by Age, and by Find.
func aged(t *testing.T, l []api.Neigh, now uint64, want []api.Neigh) {
	t.Helper()
	if got := Age(l, now); !slices.Equal(got, want) {
		t.Fatalf("Age(%v, %d) = %v", l, now, got)
	}
	if len(want) == 0 {
		finds(t, l, l[0].IP, now, api.MAC{}, api.ErrNone)
		return
	}
	finds(t, l, l[0].IP, now, l[0].MAC, api.OK)
}

// P13.1: Age leaves out the old ones, wherever they stand; the others stay in order.
func TestAge(t *testing.T) {
	for count := range 9 {
		for set := range 1 << count {
			var l, want []api.Neigh
			for n := range count {
				one := api.Neigh{IP: host(n), MAC: card(n), Since: uint64(101 + n)}
				if set>>n&1 == 1 {
					one.Since = uint64(100 - n)
				} else {
					want = append(want, one)
				}
				l = append(l, one)
			}
			was := slices.Clone(l)
			if got := Age(l, 200); !slices.Equal(got, want) {
				t.Fatalf("Age(%v, 200) = %v; want %v", was, got, want)
			}
			if !slices.Equal(l, was) {
				t.Fatalf("%v was changed to %v", was, l)
			}
		}
	}
	if got := Age(nil, 7); len(got) != 0 {
		t.Error(got)
	}
}

// ops are numbers, among them those of no Arp.
func ops() []int {
	return []int{math.MinInt, -1 << 32, -256, -2, -1, 0, 1, 2, 3, 4, 255, 256, 257, 258, 1<<32 + 1, 1<<32 + 2, math.MaxInt}
}

// P13.2: of an Arp that neither asks nor tells nothing is heard.
func TestHearOtherOps(t *testing.T) {
	for _, op := range ops() {
		if op == 1 || op == 2 {
			continue
		}
		for _, from := range []api.IP{host(1), host(70)} {
			for _, to := range []api.IP{here, host(2)} {
				l := known(3)
				hears(t, l, api.Arp{Op: op, FromMAC: card(60), From: from, ToMAC: mine, To: to}, 9, l, api.Arp{}, false)
			}
		}
	}
}

// P13.2: of what says that it comes of the host itself nothing is heard, be it known, or be it asked for.
func TestHearItself(t *testing.T) {
	for _, op := range []int{1, 2} {
		for _, to := range []api.IP{here, host(1), {}} {
			for _, from := range []api.MAC{mine, card(60)} {
				a := api.Arp{Op: op, FromMAC: from, From: here, ToMAC: mine, To: to}
				for _, l := range [][]api.Neigh{nil, known(3), append(known(3), api.Neigh{IP: here, MAC: card(9), Since: 3})} {
					hears(t, l, a, 9, l, api.Arp{}, false)
				}
			}
		}
	}
	// A host of four noughts asks a host of four noughts.
	if l, r, ok := Hear(known(2), api.Arp{Op: 1, FromMAC: card(3)}, api.IP{}, mine, 9); !slices.Equal(l, known(2)) || r != (api.Arp{}) || ok {
		t.Error(l, r, ok)
	}
}

// P13.2: who is known, old or not, is learnt, whomever the Arp is to; only who asks for the host is answered.
func TestHearKnown(t *testing.T) {
	for count := 1; count <= 8; count++ {
		for n := range count {
			for _, op := range []int{1, 2} {
				for _, to := range []api.IP{host(n), host((n + 1) % count), host(80), {}} {
					for _, now := range []uint64{0, 50, 100, 200, 5000} {
						l := known(count)
						a := api.Arp{Op: op, FromMAC: card(60), From: host(n), ToMAC: mine, To: to}
						hears(t, l, a, now, append(without(l, n), api.Neigh{IP: host(n), MAC: card(60), Since: now}), api.Arp{}, false)
					}
				}
			}
		}
	}
}

// P13.2: who isn't known is learnt only of an Arp to the host.
func TestHearStranger(t *testing.T) {
	for count := range 9 {
		l := known(count)
		for _, op := range []int{1, 2} {
			for _, to := range []api.IP{host(0), host(70), host(80), {}, {10, 0, 0, 98}, {255, 255, 255, 255}} {
				hears(t, l, api.Arp{Op: op, FromMAC: card(60), From: host(70), ToMAC: mine, To: to}, 9, l, api.Arp{}, false)
			}
		}
		want := learnt(l, host(70), card(60), 9)
		for _, to := range []api.MAC{mine, {}, all, card(5)} {
			a := api.Arp{Op: 2, FromMAC: card(60), From: host(70), ToMAC: to, To: here}
			hears(t, l, a, 9, want, api.Arp{}, false)
			a.Op = 1
			hears(t, l, a, 9, want, api.Arp{Op: 2, FromMAC: mine, From: here, ToMAC: card(60), To: host(70)}, true)
		}
	}
}

// P13.2: who asks is answered, though it can't be learnt.
func TestHearAnswersAll(t *testing.T) {
	for _, l := range [][]api.Neigh{nil, known(3), known(8)} {
		for _, from := range []api.IP{{}, host(1), host(70)} {
			for _, mac := range []api.MAC{all, {1, 0, 94, 0, 0, 1}, card(60)} {
				a := api.Arp{Op: 1, FromMAC: mac, From: from, To: here}
				want := learnt(l, from, mac, 9)
				hears(t, l, a, 9, want, api.Arp{Op: 2, FromMAC: mine, From: here, ToMAC: mac, To: from}, true)
				a.Op = 2
				hears(t, l, a, 9, want, api.Arp{}, false)
			}
		}
	}
}

// P13.2: one that is known keeps its card, if another one means several.
func TestHearSeveral(t *testing.T) {
	for _, op := range []int{1, 2} {
		for _, mac := range []api.MAC{all, {1, 0, 94, 0, 0, 1}, {3}} {
			hears(t, known(4), api.Arp{Op: op, FromMAC: mac, From: host(1), To: host(2)}, 9, known(4), api.Arp{}, false)
		}
	}
}

// P13.2: whether an Arp is to the host is told by each bit of its address.
func TestHearEachBit(t *testing.T) {
	for bit := range 32 {
		to := here
		to[bit/8] ^= 1 << (bit % 8)
		hears(t, nil, api.Arp{Op: 1, FromMAC: card(60), From: host(70), To: to}, 9, nil, api.Arp{}, false)
		// Who has nearly its address isn't the host itself.
		a := api.Arp{Op: 1, FromMAC: card(60), From: to, To: here}
		hears(t, nil, a, 9, []api.Neigh{{IP: to, MAC: card(60), Since: 9}}, api.Arp{Op: 2, FromMAC: mine, From: here, ToMAC: card(60), To: to}, true)
	}
}

// P13.3: an Ask is from a host and its card to no card, and the one asked for.
func TestAsk(t *testing.T) {
	for _, ip := range []api.IP{host(1), {}, {255, 255, 255, 255}} {
		for _, mac := range []api.MAC{card(1), {}, all} {
			for _, who := range []api.IP{host(2), ip, {}, {1, 2, 3, 4}} {
				if got, want := Ask(ip, mac, who), (api.Arp{Op: 1, FromMAC: mac, From: ip, To: who}); got != want {
					t.Errorf("Ask(%v, %x, %v) = %v", ip, mac, who, got)
				}
			}
		}
	}
}

// P13.3: a Tell is from a host and its card to the card of all, and the host itself.
func TestTell(t *testing.T) {
	for _, ip := range []api.IP{host(1), {}, {255, 255, 255, 255}} {
		for _, mac := range []api.MAC{card(1), {}, all} {
			if got, want := Tell(ip, mac), (api.Arp{Op: 2, FromMAC: mac, From: ip, ToMAC: all, To: ip}); got != want {
				t.Errorf("Tell(%v, %x) = %v", ip, mac, got)
			}
		}
	}
}

// someone is the address of one of some hosts, now and then four noughts, or the one that hears.
func someone(chance *rand.Rand) api.IP {
	switch chance.Intn(10) {
	case 0:
		return api.IP{}
	case 1, 2:
		return here
	}
	return host(chance.Intn(14))
}

// some is the address of one of some cards, now and then one of several.
func some(chance *rand.Rand) api.MAC {
	if chance.Intn(8) == 0 {
		return all
	}
	return card(chance.Intn(20))
}

// meant is what Hear answers of a host at here and mine, by a way of its own.
func meant(l []api.Neigh, a api.Arp, now uint64) ([]api.Neigh, api.Arp, bool) {
	var met bool
	for _, n := range l {
		met = met || n.IP == a.From
	}
	switch {
	case a.Op < 1 || a.Op > 2 || a.From == here:
		return l, api.Arp{}, false
	case a.To == here && a.Op == 1:
		return learnt(l, a.From, a.FromMAC, now), api.Arp{Op: 2, FromMAC: mine, From: here, ToMAC: a.FromMAC, To: a.From}, true
	case a.To == here || met:
		return learnt(l, a.From, a.FromMAC, now), api.Arp{}, false
	}
	return l, api.Arp{}, false
}

// P13.1 and P13.2: whatever comes, in whatever order, held against another way of saying it.
func TestAnything(t *testing.T) {
	chance := rand.New(rand.NewSource(131))
	for range 300 {
		var l []api.Neigh
		now := uint64(chance.Intn(300))
		for range 200 {
			now += uint64(chance.Intn(30))
			switch chance.Intn(8) {
			case 0:
				ip, mac := someone(chance), some(chance)
				learns(t, l, ip, mac, now, learnt(l, ip, mac, now))
				l = Learn(l, ip, mac, now)
			case 1:
				l = Age(l, now)
			default:
				a := api.Arp{Op: chance.Intn(4), FromMAC: some(chance), From: someone(chance), ToMAC: some(chance), To: someone(chance)}
				want, r, ok := meant(l, a, now)
				hears(t, l, a, now, want, r, ok)
				l, _, _ = Hear(l, a, here, mine, now)
			}
			right(t, l)
		}
	}
}

// right fails, unless these are neighbours as they may be.
func right(t *testing.T, l []api.Neigh) {
	t.Helper()
	for i, n := range l {
		if i > 0 && n.Since < l[i-1].Since || n.IP == (api.IP{}) || n.MAC[0]&1 == 1 {
			t.Fatal(l)
		}
		if slices.ContainsFunc(l[:i], func(o api.Neigh) bool { return o.IP == n.IP }) {
			t.Fatal(l)
		}
	}
	if len(l) > 8 {
		t.Fatal(l)
	}
}

// P13.4: who hears an Ask for its address answers with its card, and who asked finds it then; and the other way.
func TestAskedAndFound(t *testing.T) {
	chance := rand.New(rand.NewSource(132))
	for range 2000 {
		now := uint64(chance.Intn(1 << 30))
		asker, its := host(chance.Intn(50)), card(chance.Intn(50))
		mine, theirs := known(chance.Intn(9)), known(chance.Intn(9))
		theirs, answer, ok := Hear(theirs, Ask(asker, its, host(60)), host(60), card(61), now)
		if !ok {
			t.Fatal("no answer")
		}
		finds(t, theirs, asker, now+99, its, api.OK)
		mine, _, ok = Hear(mine, answer, asker, its, now+1)
		if ok {
			t.Fatal("the answer is answered")
		}
		finds(t, mine, host(60), now+100, card(61), api.OK)
		finds(t, mine, host(60), now+101, api.MAC{}, api.ErrNone)
	}
}

// P13.4: whoever knew a host, be it long ago, and hears its Tell finds the new card; who didn't know it learns nothing.
func TestTold(t *testing.T) {
	for count := range 9 {
		for n := range 9 {
			for _, now := range []uint64{5, 100, 7000} {
				l, r, ok := Hear(known(count), Tell(host(n), card(61)), here, mine, now)
				if r != (api.Arp{}) || ok {
					t.Fatal(r, ok)
				}
				if n < count {
					finds(t, l, host(n), now, card(61), api.OK)
				} else {
					finds(t, l, host(n), now, api.MAC{}, api.ErrNone)
				}
			}
		}
	}
}

// odd are neighbours of any form.
func odd(chance *rand.Rand) []api.Neigh {
	var l []api.Neigh
	for range chance.Intn(30) {
		l = append(l, api.Neigh{IP: someone(chance), MAC: some(chance), Since: moment(chance)})
	}
	return l
}

// moment is any time, often one near others.
func moment(chance *rand.Rand) uint64 {
	s := sinces()
	return s[chance.Intn(len(s))] + uint64(chance.Intn(5)) - 2
}

// P1: no argument makes a call panic, or go on for ever; P2: the same again answers the same, and what is handed in stays.
func TestNoPanic(t *testing.T) {
	chance := rand.New(rand.NewSource(133))
	kinds := ops()
	for range 60000 {
		l, ip, mac, now := odd(chance), someone(chance), some(chance), moment(chance)
		was := slices.Clone(l)
		a := api.Arp{Op: kinds[chance.Intn(len(kinds))], FromMAC: some(chance), From: someone(chance), ToMAC: some(chance), To: someone(chance)}
		if !slices.Equal(Learn(l, ip, mac, now), Learn(was, ip, mac, now)) || !slices.Equal(Age(l, now), Age(was, now)) {
			t.Fatal(was, ip, mac, now)
		}
		one, r, ok := Hear(l, a, ip, mac, now)
		two, s, so := Hear(was, a, ip, mac, now)
		if !slices.Equal(one, two) || r != s || ok != so {
			t.Fatal(was, a, ip, mac, now)
		}
		at, e := Find(l, ip, now)
		if again, why := Find(was, ip, now); again != at || why != e {
			t.Fatal(was, ip, now)
		}
		if Ask(ip, mac, a.From) != Ask(ip, mac, a.From) || Tell(ip, mac) != Tell(ip, mac) {
			t.Fatal(ip, mac)
		}
		if !slices.Equal(l, was) {
			t.Fatalf("%v was changed to %v", was, l)
		}
	}
}

// P1: long lists come to their end.
func TestLong(t *testing.T) {
	l := make([]api.Neigh, 1<<20)
	for i := range l {
		l[i].IP = api.IP{byte(i >> 24), byte(i >> 16), byte(i >> 8), byte(i)}
	}
	Learn(l, host(70), card(1), 5)
	Find(l, here, 5)
	Age(l, 5)
	Age(l, 500)
	Hear(l, Ask(host(70), card(1), here), here, mine, 5)
}

// roomy is neighbours in a list that has others behind its length.
func roomy(l []api.Neigh) []api.Neigh {
	whole := make([]api.Neigh, 40)
	for i := range whole {
		whole[i] = api.Neigh{IP: host(500 + i), MAC: card(500 + i), Since: 5}
	}
	return whole[:copy(whole, l)]
}

// scrub writes over all neighbours of a list, and over what lies behind them.
func scrub(l []api.Neigh) {
	l = l[:cap(l)]
	for i := range l {
		l[i] = api.Neigh{IP: host(999), MAC: card(999), Since: 999}
	}
}

// P2, and rules 3 and 4: what is handed in stays, what lies behind a list's length is neither read nor written, and what is answered shares no memory with what was handed in, nor with another answer.
func TestNothingShared(t *testing.T) {
	calls := []func(l []api.Neigh, ip api.IP, mac api.MAC, now uint64) []api.Neigh{
		Learn,
		func(l []api.Neigh, _ api.IP, _ api.MAC, now uint64) []api.Neigh { return Age(l, now) },
		hearing(1, here), hearing(2, here), hearing(1, host(3)), hearing(2, host(3)), hearing(3, here),
	}
	for _, call := range calls {
		for _, count := range []int{0, 1, 3, 7, 8} {
			for _, ip := range []api.IP{{}, host(0), host(2), host(7), host(70), host(510), here} {
				for _, mac := range []api.MAC{card(70), all} {
					for _, now := range []uint64{0, 5, 102, 500} {
						shares(t, call, count, ip, mac, now)
					}
				}
			}
		}
	}
}

// hearing is that a host at here hears of another one.
func hearing(op int, to api.IP) func(l []api.Neigh, ip api.IP, mac api.MAC, now uint64) []api.Neigh {
	return func(l []api.Neigh, ip api.IP, mac api.MAC, now uint64) []api.Neigh {
		l, _, _ = Hear(l, api.Arp{Op: op, FromMAC: mac, From: ip, To: to}, here, mine, now)
		return l
	}
}

// shares fails, if what a call answers hangs on memory that others have.
func shares(t *testing.T, call func([]api.Neigh, api.IP, api.MAC, uint64) []api.Neigh, count int, ip api.IP, mac api.MAC, now uint64) {
	t.Helper()
	want := call(known(count), ip, mac, now)
	l, whole := roomy(known(count)), roomy(known(count))
	got, again := call(l, ip, mac, now), call(l, ip, mac, now)
	if !slices.Equal(l[:cap(l)], whole[:cap(whole)]) {
		t.Fatalf("%v was changed, or what lies behind it", whole)
	}
	if !slices.Equal(got, want) {
		t.Fatalf("%v, %v, %x, %d: %v; want %v", whole, ip, mac, now, got, want)
	}
	if e, why := Find(l, host(500+count), 5); why != api.ErrNone {
		t.Fatal("what lies behind is found:", e)
	}
	scrub(l)
	if !slices.Equal(got, want) {
		t.Fatalf("%v: the answer hangs on what was handed in", whole)
	}
	scrub(got)
	if !slices.Equal(again, want) {
		t.Fatalf("%v: an answer hangs on another one", whole)
	}
}
