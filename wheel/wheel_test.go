package wheel

import (
	"math"
	"math/rand"
	"slices"
	"testing"

	"caravel/api"
)

// most is how many timers there may be, and last the greatest time: the chapter's bounds, as numbers.
const (
	most = 64
	last = uint64(4611686018427387904)
)

// at is a timer.
func at(id int, time uint64) api.Timer {
	return api.Timer{ID: id, At: time}
}

// wheel is a wheel of a time, and of timers as they stand there.
func wheel(now uint64, timers ...api.Timer) api.Wheel {
	return api.Wheel{Now: now, Timers: timers}
}

// full is a wheel with so many timers, timer n of them due n / 3 + 1 ticks behind now.
func full(now uint64, count int) api.Wheel {
	w := wheel(now)
	for n := range count {
		w.Timers = append(w.Timers, at(n, now+uint64(n/3)+1))
	}
	return w
}

// same tells whether two wheels are alike.
func same(a, b api.Wheel) bool {
	return a.Now == b.Now && slices.Equal(a.Timers, b.Timers)
}

// copied is a wheel that shares nothing, by a way of its own.
func copied(w api.Wheel) api.Wheel {
	c := wheel(w.Now)
	for _, t := range w.Timers {
		c.Timers = append(c.Timers, at(t.ID, t.At))
	}
	return c
}

// without is a wheel's timers but those of an ID, and whether there was such a one.
func without(w api.Wheel, id int) ([]api.Timer, bool) {
	var rest []api.Timer
	for _, t := range w.Timers {
		if t.ID != id {
			rest = append(rest, t)
		}
	}
	return rest, len(rest) < len(w.Timers)
}

// plainSet is Set of a right wheel by the chapter's words: the new one is set last, and then all are sorted by when they are due.
func plainSet(w api.Wheel, id int, after uint64) (api.Wheel, api.Errno) {
	rest, _ := without(w, id)
	switch {
	case after > last:
		return w, api.ErrArg
	case len(rest) > most-1:
		return w, api.ErrFull
	case after == 0:
		after = 1
	}
	rest = append(rest, at(id, w.Now+after))
	slices.SortStableFunc(rest, func(a, b api.Timer) int {
		if a.At < b.At {
			return -1
		}
		if a.At > b.At {
			return 1
		}
		return 0
	})
	return api.Wheel{Now: w.Now, Timers: rest}, api.OK
}

// plainTick is Tick of a right wheel by the chapter's words.
func plainTick(w api.Wheel) (api.Wheel, []int) {
	next := wheel(w.Now + 1)
	var due []int
	for _, t := range w.Timers {
		if t.At == next.Now {
			due = append(due, t.ID)
		} else {
			next.Timers = append(next.Timers, t)
		}
	}
	return next, due
}

// plainRight is Right by the chapter's words.
func plainRight(w api.Wheel) bool {
	ids := map[int]int{}
	for _, t := range w.Timers {
		ids[t.ID]++
		if t.At <= w.Now {
			return false
		}
	}
	sorted := slices.IsSortedFunc(w.Timers, func(a, b api.Timer) int {
		if a.At < b.At {
			return -1
		}
		if a.At > b.At {
			return 1
		}
		return 0
	})
	return w.Now <= last && len(w.Timers) <= most && len(ids) == len(w.Timers) && sorted
}

// stays fails, unless a wheel that was handed in is as it was.
func stays(t *testing.T, w, was api.Wheel) {
	t.Helper()
	if !same(w, was) {
		t.Fatalf("%v was changed to %v", was, w)
	}
}

// is fails, unless Right tells so of a wheel.
func is(t *testing.T, w api.Wheel, want bool) {
	t.Helper()
	was := copied(w)
	if Right(w) != want {
		t.Fatalf("Right(%v) = %t", w, !want)
	}
	stays(t, w, was)
}

// sets fails, unless Set answers so; it answers the wheel then.
func sets(t *testing.T, w api.Wheel, id int, after uint64, want api.Wheel, why api.Errno) api.Wheel {
	t.Helper()
	was := copied(w)
	got, e := Set(w, id, after)
	if !same(got, want) || e != why {
		t.Fatalf("Set(%v, %d, %d) = %v, %d; want %v, %d", was, id, after, got, e, want, why)
	}
	stays(t, w, was)
	return got
}

// stops fails, unless Stop answers so; it answers the wheel then.
func stops(t *testing.T, w api.Wheel, id int, want api.Wheel, there bool) api.Wheel {
	t.Helper()
	was := copied(w)
	got, ok := Stop(w, id)
	if !same(got, want) || ok != there {
		t.Fatalf("Stop(%v, %d) = %v, %t; want %v, %t", was, id, got, ok, want, there)
	}
	stays(t, w, was)
	return got
}

// dues fails, unless Due answers so.
func dues(t *testing.T, w api.Wheel, id int, want uint64, there bool) {
	t.Helper()
	was := copied(w)
	if got, ok := Due(w, id); got != want || ok != there {
		t.Fatalf("Due(%v, %d) = %d, %t; want %d, %t", w, id, got, ok, want, there)
	}
	stays(t, w, was)
}

// ticks fails, unless Tick answers so; it answers the wheel then.
func ticks(t *testing.T, w, want api.Wheel, told ...int) api.Wheel {
	t.Helper()
	was := copied(w)
	got, due := Tick(w)
	if !same(got, want) || !slices.Equal(due, told) {
		t.Fatalf("Tick(%v) = %v, %v; want %v, %v", was, got, due, want, told)
	}
	stays(t, w, was)
	return got
}

// The chapter's example.
func TestExample(t *testing.T) {
	var w api.Wheel
	for _, x := range []struct {
		id    int
		after uint64
	}{{1, 2}, {2, 1}, {3, 2}} {
		var e api.Errno
		if w, e = Set(w, x.id, x.after); e != api.OK {
			t.Fatal(x, e)
		}
	}
	w = ticks(t, w, wheel(1, at(1, 2), at(3, 2)), 2)
	ticks(t, w, wheel(2), 1, 3)
}

// nows are times that may be, at which something may turn.
func nows() []uint64 {
	return []uint64{0, 1, 2, 63, 64, 255, 256, 1<<31 - 1, 1<<32 - 1, 1 << 32, 1<<61 + 5, last - 2, last - 1, last}
}

// P16.1: a clone is the same, whatever the wheel.
func TestClone(t *testing.T) {
	for _, now := range append(nows(), last+1, math.MaxUint64) {
		for count := range 70 {
			w := full(now, count)
			was := copied(w)
			if got := Clone(w); !same(got, was) {
				t.Fatalf("Clone(%v) = %v", was, got)
			}
			stays(t, w, was)
		}
	}
	if got := Clone(api.Wheel{}); !same(got, api.Wheel{}) {
		t.Fatal(got)
	}
}

// P16.1: Right holds the time to its bound.
func TestRightNow(t *testing.T) {
	for _, now := range nows() {
		is(t, wheel(now), true)
		is(t, wheel(now, at(1, now+1)), true)
		is(t, wheel(now, at(1, math.MaxUint64)), true)
	}
	for _, now := range []uint64{last + 1, last + 2, 1<<63 - 1, 1 << 63, math.MaxUint64 - 1, math.MaxUint64} {
		is(t, wheel(now), false)
		is(t, wheel(now, at(1, now+1)), false)
		is(t, wheel(now, at(1, math.MaxUint64)), false)
	}
}

// P16.1: a right wheel has 64 timers at most.
func TestRightCount(t *testing.T) {
	for _, now := range nows() {
		for count := range 140 {
			is(t, full(now, count), count <= 64)
		}
	}
}

// P16.1: no two timers are of one ID, wherever they stand.
func TestRightIDs(t *testing.T) {
	for _, count := range []int{2, 3, 5, 64} {
		for i := range count {
			for j := range i {
				w := full(7, count)
				w.Timers[i].ID = w.Timers[j].ID
				is(t, w, false)
			}
		}
	}
	is(t, wheel(0, at(0, 1), at(-1, 1), at(math.MinInt, 1), at(math.MaxInt, 1), at(1<<32, 1), at(1<<8, 1)), true)
}

// P16.1: each timer is due behind now.
func TestRightBehindNow(t *testing.T) {
	for _, now := range nows() {
		is(t, wheel(now, at(1, now+1), at(2, now+1)), true)
		is(t, wheel(now, at(1, now)), false)
		is(t, wheel(now, at(1, now), at(2, now+1)), false)
		is(t, wheel(now, at(1, now+1), at(2, now)), false)
		if now > 0 {
			is(t, wheel(now, at(1, now-1)), false)
			is(t, wheel(now, at(1, 0)), false)
		}
	}
}

// P16.1: timers stand in the order in which they are due; of one time each order is right.
func TestRightOrder(t *testing.T) {
	for _, now := range []uint64{0, 7, last} {
		is(t, wheel(now, at(1, now+1), at(2, now+2), at(3, now+9)), true)
		is(t, wheel(now, at(1, now+1), at(2, now+9), at(3, now+2)), false)
		is(t, wheel(now, at(1, now+2), at(2, now+1), at(3, now+9)), false)
		is(t, wheel(now, at(1, now+9), at(2, now+2), at(3, now+1)), false)
		is(t, wheel(now, at(1, now+5), at(2, now+5), at(3, now+5)), true)
		is(t, wheel(now, at(3, now+5), at(2, now+5), at(1, now+5)), true)
		is(t, wheel(now, at(3, now+5), at(2, now+5), at(1, now+4)), false)
		is(t, wheel(now, at(3, now+1), at(2, math.MaxUint64), at(1, math.MaxUint64)), true)
		is(t, wheel(now, at(3, math.MaxUint64), at(2, now+1)), false)
	}
}

// P16.1: all small wheels, held against another way of saying it.
func TestRightAll(t *testing.T) {
	for now := range uint64(3) {
		for n := range 12 * 12 * 12 {
			w := wheel(now)
			for _, x := range []int{n % 12, n / 12 % 12, n / 144} {
				w.Timers = append(w.Timers, at(x%3, uint64(x/3+1)))
			}
			for count := range 4 {
				is(t, wheel(now, w.Timers[:count]...), plainRight(wheel(now, w.Timers[:count]...)))
			}
		}
	}
}

// P16.1: what is set is due so many ticks behind now.
func TestSet(t *testing.T) {
	for _, now := range nows() {
		for _, after := range []uint64{1, 2, 3, 40, 240, 1 << 32, last - 1, last} {
			for _, id := range []int{0, 1, -1, 64, 1 << 40, math.MinInt, math.MaxInt} {
				w := sets(t, wheel(now), id, after, wheel(now, at(id, now+after)), api.OK)
				dues(t, w, id, now+after, true)
				is(t, w, true)
			}
		}
	}
}

// P16.1: what is set after 0 ticks is due after 1.
func TestSetAtOnce(t *testing.T) {
	for _, now := range nows() {
		w := sets(t, wheel(now), 3, 0, wheel(now, at(3, now+1)), api.OK)
		w = sets(t, w, 4, 0, wheel(now, at(3, now+1), at(4, now+1)), api.OK)
		w = sets(t, w, 3, 0, wheel(now, at(4, now+1), at(3, now+1)), api.OK)
		ticks(t, w, wheel(now+1), 4, 3)
	}
}

// P16.1: above 2^62 ticks nothing is set, be the wheel full or not, and what was set stays.
func TestSetTooLate(t *testing.T) {
	for _, now := range nows() {
		for _, after := range []uint64{last + 1, last + 2, 1<<63 - 1, 1 << 63, math.MaxUint64 - now, math.MaxUint64 - 1, math.MaxUint64} {
			for _, count := range []int{0, 1, 63, 64} {
				for _, id := range []int{0, 63, 70} {
					sets(t, full(now, count), id, after, full(now, count), api.ErrArg)
				}
			}
		}
	}
}

// P16.1: beside 64 others nothing is set; what is one of 64 is set anew.
func TestSetFull(t *testing.T) {
	for _, now := range []uint64{0, 9, last} {
		for _, after := range []uint64{0, 1, 5, 1000, last} {
			for _, id := range []int{64, 65, -1, math.MaxInt} {
				sets(t, full(now, 64), id, after, full(now, 64), api.ErrFull)
				want, _ := plainSet(full(now, 63), id, after)
				is(t, sets(t, full(now, 63), id, after, want, api.OK), true)
			}
			for id := range 64 {
				want, _ := plainSet(full(now, 64), id, after)
				is(t, sets(t, full(now, 64), id, after, want, api.OK), true)
			}
		}
	}
}

// P16.1: of one time the one that is set last stands last, set anew or not.
func TestSetOrder(t *testing.T) {
	w := wheel(5)
	w = sets(t, w, 1, 4, wheel(5, at(1, 9)), api.OK)
	w = sets(t, w, 2, 2, wheel(5, at(2, 7), at(1, 9)), api.OK)
	w = sets(t, w, 9, 4, wheel(5, at(2, 7), at(1, 9), at(9, 9)), api.OK)
	w = sets(t, w, 0, 4, wheel(5, at(2, 7), at(1, 9), at(9, 9), at(0, 9)), api.OK)
	w = sets(t, w, 7, 3, wheel(5, at(2, 7), at(7, 8), at(1, 9), at(9, 9), at(0, 9)), api.OK)
	// The same once more: it stands behind the others then.
	w = sets(t, w, 1, 4, wheel(5, at(2, 7), at(7, 8), at(9, 9), at(0, 9), at(1, 9)), api.OK)
	w = sets(t, w, 1, 4, wheel(5, at(2, 7), at(7, 8), at(9, 9), at(0, 9), at(1, 9)), api.OK)
	// Sooner, and later: it isn't due any more when it was.
	w = sets(t, w, 0, 1, wheel(5, at(0, 6), at(2, 7), at(7, 8), at(9, 9), at(1, 9)), api.OK)
	w = sets(t, w, 2, 4, wheel(5, at(0, 6), at(7, 8), at(9, 9), at(1, 9), at(2, 9)), api.OK)
	w = sets(t, w, 0, 5, wheel(5, at(7, 8), at(9, 9), at(1, 9), at(2, 9), at(0, 10)), api.OK)
	w = ticks(t, w, wheel(6, at(7, 8), at(9, 9), at(1, 9), at(2, 9), at(0, 10)))
	// Set at another time, due at the same one.
	w = sets(t, w, 7, 3, wheel(6, at(9, 9), at(1, 9), at(2, 9), at(7, 9), at(0, 10)), api.OK)
	w = ticks(t, w, wheel(7, at(9, 9), at(1, 9), at(2, 9), at(7, 9), at(0, 10)))
	w = ticks(t, w, wheel(8, at(9, 9), at(1, 9), at(2, 9), at(7, 9), at(0, 10)))
	w = ticks(t, w, wheel(9, at(0, 10)), 9, 1, 2, 7)
	ticks(t, w, wheel(10), 0)
}

// P16.1: each timer of a wheel, and another one, set at each time, held against another way of saying it.
func TestSetAll(t *testing.T) {
	for count := range 65 {
		for id := -1; id <= count; id++ {
			for after := range uint64(25) {
				w := full(30, count)
				want, why := plainSet(w, id, after)
				is(t, sets(t, w, id, after, want, why), true)
			}
		}
	}
}

// P16.1: what is stopped is there no more, and the others stay in order; what isn't there leaves all as it is.
func TestStop(t *testing.T) {
	for count := range 65 {
		for id := -2; id < 70; id++ {
			w := full(8, count)
			rest, there := without(w, id)
			got := stops(t, w, id, wheel(8, rest...), there)
			if there != (id >= 0 && id < count) {
				t.Fatal(count, id)
			}
			is(t, got, true)
			dues(t, got, id, 0, false)
			stops(t, got, id, got, false)
		}
	}
	stops(t, wheel(3, at(math.MinInt, 4), at(math.MaxInt, 5)), math.MaxInt, wheel(3, at(math.MinInt, 4)), true)
	stops(t, api.Wheel{}, 0, api.Wheel{}, false)
}

// P16.1: when something is due, wherever it stands; what isn't there isn't.
func TestDue(t *testing.T) {
	for _, now := range nows() {
		for count := range 65 {
			w := full(now, count)
			for id := -2; id < 70; id++ {
				if id >= 0 && id < count {
					dues(t, w, id, now+uint64(id/3)+1, true)
				} else {
					dues(t, w, id, 0, false)
				}
			}
		}
	}
	w := wheel(1, at(math.MinInt, 2), at(0, 3), at(math.MaxInt, math.MaxUint64))
	dues(t, w, math.MinInt, 2, true)
	dues(t, w, 0, 3, true)
	dues(t, w, math.MaxInt, math.MaxUint64, true)
	dues(t, w, 1<<32, 0, false)
	dues(t, api.Wheel{}, 0, 0, false)
}

// P16.2: each tick Now is one more, and just what is due at it is told, in order, and goes.
func TestTick(t *testing.T) {
	w := wheel(6, at(9, 7), at(-3, 7), at(4, 7), at(1, 8), at(0, 10), at(2, 10))
	w = ticks(t, w, wheel(7, at(1, 8), at(0, 10), at(2, 10)), 9, -3, 4)
	w = ticks(t, w, wheel(8, at(0, 10), at(2, 10)), 1)
	w = ticks(t, w, wheel(9, at(0, 10), at(2, 10)))
	w = ticks(t, w, wheel(10), 0, 2)
	w = ticks(t, w, wheel(11))
	ticks(t, w, wheel(12))
}

// P16.2: so it is at any time, the last ones too, and with wheels that are full.
func TestTickAll(t *testing.T) {
	for _, now := range nows() {
		for count := range 65 {
			w := full(now, count)
			for range 24 {
				want, told := plainTick(w)
				w = ticks(t, w, want, told...)
			}
			if len(w.Timers) > 0 || w.Now != now+24 {
				t.Fatal(now, count, w)
			}
		}
	}
	var all []int
	w := wheel(5)
	for n := range 64 {
		w.Timers = append(w.Timers, at(100-n, 6))
		all = append(all, 100-n)
	}
	ticks(t, w, wheel(6), all...)
}

// P16.2: what is due in just a round of bytes, or of words, isn't due yet.
func TestTickFar(t *testing.T) {
	for _, now := range nows() {
		for _, far := range []uint64{2, 257, 65537, 1<<32 + 1, 1<<61 + 1, last, last + 1, 1<<63 + 1} {
			w := wheel(now, at(1, now+far))
			ticks(t, w, wheel(now+1, at(1, now+far)))
		}
	}
}

// promise is when something that was set is due, and the how manieth setting it was.
type promise struct {
	at    uint64
	place int
}

// awaited are the IDs that are due at a time, in the order in which they were set.
func awaited(due map[int]promise, now uint64) []int {
	var l []int
	for id, p := range due {
		if p.at == now {
			l = append(l, id)
		}
	}
	slices.SortFunc(l, func(a, b int) int { return due[a].place - due[b].place })
	return l
}

// P16.3: whatever is set is told just once, when it is due, if it isn't stopped or set anew ahead of that.
func TestToldOnce(t *testing.T) {
	chance := rand.New(rand.NewSource(163))
	for range 300 {
		w := wheel(nows()[chance.Intn(len(nows()))] / 2)
		due := map[int]promise{}
		ids, far := 1+chance.Intn(100), 1+chance.Intn(60)
		for step := range 600 {
			id, after := chance.Intn(ids)-ids/2, uint64(chance.Intn(far))
			p, there := due[id]
			switch chance.Intn(6) {
			case 0:
				delete(due, id)
				var ok bool
				if w, ok = Stop(w, id); ok != there {
					t.Fatalf("Stop of %d: %t", id, ok)
				}
			case 1, 2:
				var told []int
				w, told = Tick(w)
				if want := awaited(due, w.Now); !slices.Equal(told, want) {
					t.Fatalf("%v at %d; want %v", told, w.Now, want)
				}
				for _, id := range told {
					delete(due, id)
				}
			case 3:
				dues(t, w, id, p.at, there)
			default:
				var e api.Errno
				if w, e = Set(w, id, after); e == api.OK {
					due[id] = promise{w.Now + max(after, 1), step}
				} else if e != api.ErrFull || there || len(due) != most {
					t.Fatalf("Set of %d after %d: %d", id, after, e)
				}
			}
			if is(t, w, true); len(w.Timers) != len(due) {
				t.Fatal(w, due)
			}
		}
	}
}

// P16.1 to P16.3: right wheels stay right, whatever is done, held against another way of saying it.
func TestAnything(t *testing.T) {
	chance := rand.New(rand.NewSource(161))
	for range 300 {
		w := wheel(uint64(chance.Int63n(1 << 62)))
		for range 300 {
			id, after := chance.Intn(90), uint64(chance.Intn(50))
			if chance.Intn(20) == 0 {
				after = moment(chance)
			}
			switch chance.Intn(6) {
			case 0:
				want, told := plainTick(w)
				w = ticks(t, w, want, told...)
			case 1:
				rest, there := without(w, id)
				w = stops(t, w, id, wheel(w.Now, rest...), there)
			default:
				want, why := plainSet(w, id, after)
				w = sets(t, w, id, after, want, why)
			}
			is(t, w, true)
		}
	}
}

// moment is any number of ticks, often one at which something turns.
func moment(chance *rand.Rand) uint64 {
	l := []uint64{0, 1, 2, 5, 64, 1 << 32, last, last + 5, 1 << 63, math.MaxUint64 - 3}
	return l[chance.Intn(len(l))] + uint64(chance.Intn(7)) - 3
}

// odd is a wheel of any form.
func odd(chance *rand.Rand) api.Wheel {
	w := wheel(moment(chance))
	for range chance.Intn(1 + chance.Intn(90)) {
		w.Timers = append(w.Timers, at(chance.Intn(40)-5, moment(chance)))
	}
	return w
}

// P1: no argument makes a call panic, or go on for ever; P2: the same again answers the same, and what is handed in stays.
func TestNoPanic(t *testing.T) {
	chance := rand.New(rand.NewSource(162))
	ids := []int{math.MinInt, -5, -1, 0, 1, 7, 34, 64, math.MaxInt}
	for range 40000 {
		w, id, after := odd(chance), ids[chance.Intn(len(ids))], moment(chance)
		was := copied(w)
		one, e := Set(w, id, after)
		Set(one, id+1, after/2)
		if two, why := Set(was, id, after); !same(one, two) || e != why {
			t.Fatal(was, id, after)
		}
		one, ok := Stop(w, id)
		if two, so := Stop(was, id); !same(one, two) || ok != so {
			t.Fatal(was, id)
		}
		one, told := Tick(w)
		Tick(one)
		if two, again := Tick(was); !same(one, two) || !slices.Equal(told, again) {
			t.Fatal(was)
		}
		time, ok := Due(w, id)
		if again, so := Due(was, id); time != again || ok != so {
			t.Fatal(was, id)
		}
		if !same(Clone(w), was) || Right(w) != plainRight(was) {
			t.Fatal(was)
		}
		stays(t, w, was)
	}
}

// P1: long lists come to their end.
func TestLong(t *testing.T) {
	w := wheel(5)
	for i := range 1 << 20 {
		w.Timers = append(w.Timers, at(i, uint64(i+6)))
	}
	Clone(w)
	Set(w, 70, 5)
	Set(w, -1, 1<<40)
	Stop(w, 1<<19)
	Stop(w, -1)
	Due(w, -1)
	Tick(w)
	Tick(wheel(math.MaxUint64, w.Timers...))
	is(t, w, false)
}

// roomy is a wheel whose list has other timers behind its length.
func roomy(w api.Wheel) api.Wheel {
	whole := make([]api.Timer, 140)
	for i := range whole {
		whole[i] = at(500+i, w.Now+1)
	}
	return wheel(w.Now, whole[:copy(whole, w.Timers)]...)
}

// scrub writes over all timers of a list, and over what lies behind them.
func scrub(l []api.Timer) {
	l = l[:cap(l)]
	for i := range l {
		l[i] = at(999, 999)
	}
}

// call is one of the calls that answer a wheel, and perhaps what was told.
type call func(w api.Wheel, id int, after uint64) (api.Wheel, []int)

// P2, and rules 3 and 4: what is handed in stays, what lies behind a list's length is neither read nor written, and what is answered shares no memory with what was handed in, nor with another answer.
func TestNothingShared(t *testing.T) {
	for _, c := range []call{
		func(w api.Wheel, _ int, _ uint64) (api.Wheel, []int) { return Clone(w), nil },
		func(w api.Wheel, id int, after uint64) (api.Wheel, []int) { w, _ = Set(w, id, after); return w, nil },
		func(w api.Wheel, id int, _ uint64) (api.Wheel, []int) { w, _ = Stop(w, id); return w, nil },
		func(w api.Wheel, _ int, _ uint64) (api.Wheel, []int) { return Tick(w) },
	} {
		for _, now := range []uint64{0, 6, last} {
			for _, count := range []int{0, 1, 2, 3, 4, 20, 63, 64, 65} {
				for _, id := range []int{-1, 0, 1, 19, 62, 63, 64, 70, 500 + count} {
					for _, after := range []uint64{0, 1, 3, 9, 70, last, last + 1} {
						shares(t, c, full(now, count), id, after)
					}
				}
			}
		}
	}
}

// shares fails, if what a call answers hangs on memory that others have.
func shares(t *testing.T, c call, w api.Wheel, id int, after uint64) {
	t.Helper()
	want, told := c(copied(w), id, after)
	given, whole := roomy(w), roomy(w)
	got, due := c(given, id, after)
	again, twice := c(given, id, after)
	if room := given.Timers; !slices.Equal(room[:cap(room)], whole.Timers[:cap(whole.Timers)]) {
		t.Fatalf("%v was changed, or what lies behind it", w)
	}
	if !same(got, want) || !slices.Equal(due, told) {
		t.Fatalf("%v, %d, %d: %v, %v; want %v, %v", w, id, after, got, due, want, told)
	}
	if _, ok := Due(given, 500+len(w.Timers)); ok || Right(given) != Right(w) {
		t.Fatalf("%v: what lies behind is read", w)
	}
	scrub(given.Timers)
	if !same(got, want) {
		t.Fatalf("%v: the answer hangs on what was handed in", w)
	}
	scrub(got.Timers)
	for i := range due {
		due[i] = 999
	}
	if !same(again, want) || !slices.Equal(twice, told) {
		t.Fatalf("%v: an answer hangs on another one", w)
	}
}
