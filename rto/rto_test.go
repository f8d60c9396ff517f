package rto

import (
	"math"
	"math/big"
	"math/rand"
	"testing"

	"caravel/api"
)

// The chapter's bounds of right clocks, as numbers.
const (
	mostSmooth = 1927
	mostSpread = 963
	mostTicks  = 240
)

// whole is a number as one without bounds.
func whole(n int64) *big.Int { return big.NewInt(n) }

// cut is a part of a number, cut towards 0.
func cut(n *big.Int, parts int64) *big.Int { return new(big.Int).Quo(n, whole(parts)) }

// plainBounded is the chapter's word: at least 4, at most 240.
func plainBounded(n *big.Int) int64 {
	if n.Cmp(whole(4)) < 0 {
		return 4
	}
	if n.Cmp(whole(240)) > 0 {
		return 240
	}
	return n.Int64()
}

// plainMeasure is Measure by the chapter's words, in numbers without bounds.
func plainMeasure(c api.Clock, ticks uint64) api.Clock {
	r := new(big.Int).SetUint64(ticks)
	if r.Cmp(whole(240)) > 0 {
		r = whole(240)
	}
	smooth, spread := whole(c.Smooth), whole(c.Spread)
	if c.Smooth == -1 && c.Spread == -1 {
		smooth, spread = new(big.Int).Mul(whole(8), r), new(big.Int).Mul(whole(2), r)
	} else {
		far := new(big.Int).Sub(cut(smooth, 8), r)
		spread = new(big.Int).Sub(spread, cut(spread, 4))
		spread.Add(spread, far.Abs(far))
		smooth = new(big.Int).Sub(smooth, cut(smooth, 8))
		smooth.Add(smooth, r)
	}
	counted := spread
	if counted.Cmp(whole(1)) < 0 {
		counted = whole(1)
	}
	wait := plainBounded(new(big.Int).Add(cut(smooth, 8), counted))
	return api.Clock{Smooth: smooth.Int64(), Spread: spread.Int64(), Wait: wait}
}

// plainRight is Right by the chapter's words.
func plainRight(c api.Clock) bool {
	if c.Wait < 4 || c.Wait > 240 {
		return false
	}
	nothing := c.Smooth == -1 && c.Spread == -1
	something := c.Smooth >= 0 && c.Smooth <= 1927 && c.Spread >= 0 && c.Spread <= 963
	return nothing || something
}

// edges are numbers at which something may turn, and odd ones.
func edges() []int64 {
	return []int64{
		math.MinInt64, math.MinInt64 + 1, -1 << 62, -1<<62 - 1, -1 << 32, -1928, -964, -240, -8, -4, -3, -2, -1,
		0, 1, 2, 3, 4, 5, 7, 8, 9, 10, 119, 120, 121, 239, 240, 241, 242, 480, 961, 962, 963, 964, 965,
		1919, 1920, 1926, 1927, 1928, 1929, 1 << 31, 1 << 32, 1<<32 + 4, 1 << 61, 1 << 62, math.MaxInt64 - 1, math.MaxInt64,
	}
}

// times are all that differ to Measure, and greater ones, that count as the greatest.
func times() []uint64 {
	l := []uint64{
		241, 242, 255, 256, 257, 480, 1000, 1<<16 + 1, 1<<31 - 1, 1 << 31, 1<<32 - 1, 1 << 32, 1<<32 + 5,
		1 << 61, 1 << 62, math.MaxInt64 - 1, math.MaxInt64, math.MaxInt64 + 1, math.MaxInt64 + 6, math.MaxUint64 - 4, math.MaxUint64,
	}
	for r := range uint64(mostTicks + 1) {
		l = append(l, r)
	}
	return l
}

// spreads are some that a right clock may have.
func spreads() []int64 {
	return []int64{0, 1, 2, 3, 4, 5, 7, 8, 9, 100, 239, 240, 241, 480, 959, 960, 961, 962, 963}
}

// smooths are some that a right clock may have.
func smooths() []int64 {
	return []int64{0, 1, 7, 8, 9, 15, 16, 79, 80, 81, 87, 88, 959, 960, 1911, 1912, 1919, 1920, 1921, 1926, 1927}
}

// measures fails, unless Measure answers what the chapter says.
func measures(t *testing.T, c api.Clock, ticks uint64) {
	t.Helper()
	if got, want := Measure(c, ticks), plainMeasure(c, ticks); got != want {
		t.Fatalf("Measure(%v, %d) = %v; want %v", c, ticks, got, want)
	}
}

// is fails, unless Right tells so of a clock.
func is(t *testing.T, c api.Clock, want bool) {
	t.Helper()
	if Right(c) != want {
		t.Fatalf("Right(%v) = %t", c, !want)
	}
}

// The chapter's examples.
func TestExamples(t *testing.T) {
	c := Measure(New(), 10)
	if want := (api.Clock{Smooth: 80, Spread: 20, Wait: 30}); c != want {
		t.Fatalf("%v; want %v", c, want)
	}
	c = Measure(c, 10)
	if want := (api.Clock{Smooth: 80, Spread: 15, Wait: 25}); c != want {
		t.Fatalf("%v; want %v", c, want)
	}
}

// P15.1: a clock at its beginning, and the numbers that have names.
func TestNew(t *testing.T) {
	if First != 10 || Least != 4 || Most != 240 {
		t.Fatal(First, Least, Most)
	}
	if want := (api.Clock{Smooth: -1, Spread: -1, Wait: 10}); New() != want {
		t.Fatalf("%v; want %v", New(), want)
	}
	is(t, New(), true)
}

// P15.1: what is measured first, of whatever time, however long the wait was.
func TestMeasureFirst(t *testing.T) {
	for _, c := range []struct {
		ticks                uint64
		smooth, spread, wait int64
	}{
		// A spread of 0 counts as 1, but stays 0; the wait is 4 at least.
		{0, 0, 0, 4},
		{1, 8, 2, 4},
		{2, 16, 4, 6},
		{3, 24, 6, 9},
		{10, 80, 20, 30},
		{79, 632, 158, 237},
		{80, 640, 160, 240},
		{81, 648, 162, 240},
		{239, 1912, 478, 240},
		{240, 1920, 480, 240},
		{241, 1920, 480, 240},
		{1<<32 + 1, 1920, 480, 240},
		{math.MaxUint64, 1920, 480, 240},
	} {
		want := api.Clock{Smooth: c.smooth, Spread: c.spread, Wait: c.wait}
		if got := Measure(New(), c.ticks); got != want {
			t.Errorf("Measure(New(), %d) = %v; want %v", c.ticks, got, want)
		}
	}
	for _, ticks := range times() {
		for wait := int64(4); wait <= 240; wait++ {
			measures(t, api.Clock{Smooth: -1, Spread: -1, Wait: wait}, ticks)
		}
	}
}

// P15.1: what is measured behind others, told in numbers.
func TestMeasureNext(t *testing.T) {
	for _, c := range []struct {
		smooth, spread     int64
		ticks              uint64
		toSmooth, toSpread int64
		wait               int64
	}{
		{80, 20, 10, 80, 15, 25},
		{80, 20, 18, 88, 23, 34},
		// How far they are apart is told by the smoothed time as it was, not as it becomes.
		{80, 0, 90, 160, 80, 100},
		{80, 0, 2, 72, 8, 17},
		// Cut towards 0: 87 / 8 is 10, 23 / 4 is 5.
		{87, 23, 10, 87, 18, 28},
		{87, 3, 11, 88, 4, 15},
		// A spread of 0 counts as 1.
		{80, 0, 10, 80, 0, 11},
		{80, 1, 10, 80, 1, 11},
		{80, 2, 10, 80, 2, 12},
		// 4 at least, 240 at most.
		{0, 0, 0, 0, 0, 4},
		{16, 0, 2, 16, 0, 4},
		{24, 0, 3, 24, 0, 4},
		{32, 0, 4, 32, 0, 5},
		{1912, 0, 239, 1912, 0, 240},
		{1904, 0, 238, 1904, 0, 239},
		{1904, 2, 238, 1904, 2, 240},
		{1904, 3, 238, 1904, 3, 240},
		{1927, 963, 240, 1927, 723, 240},
		{1927, 963, 0, 1687, 963, 240},
		{0, 963, 240, 240, 963, 240},
		{0, 0, 241, 240, 240, 240},
		{0, 0, math.MaxUint64, 240, 240, 240},
	} {
		was := api.Clock{Smooth: c.smooth, Spread: c.spread, Wait: 77}
		want := api.Clock{Smooth: c.toSmooth, Spread: c.toSpread, Wait: c.wait}
		if got := Measure(was, c.ticks); got != want {
			t.Errorf("Measure(%v, %d) = %v; want %v", was, c.ticks, got, want)
		}
	}
}

// P15.1: each smoothed time and each time, with some spreads; each spread with some smoothed times; held against another way of saying it.
func TestMeasureAll(t *testing.T) {
	for smooth := range int64(mostSmooth + 1) {
		for i, ticks := range times() {
			spread := spreads()[(int(smooth)+i)%len(spreads())]
			measures(t, api.Clock{Smooth: smooth, Spread: spread, Wait: 4 + smooth%237}, ticks)
		}
	}
	for spread := range int64(mostSpread + 1) {
		for _, smooth := range smooths() {
			for _, ticks := range []uint64{0, 1, 9, 10, 11, 120, 239, 240, 241, math.MaxUint64} {
				measures(t, api.Clock{Smooth: smooth, Spread: spread, Wait: 10}, ticks)
			}
		}
	}
}

// P15.1: how long the wait was doesn't matter to Measure, as it was doubled perhaps.
func TestMeasureForgetsWait(t *testing.T) {
	for _, smooth := range smooths() {
		for _, spread := range spreads() {
			for _, ticks := range []uint64{0, 10, 240, 241} {
				c := api.Clock{Smooth: smooth, Spread: spread, Wait: 4}
				want := Measure(c, ticks)
				for wait := int64(5); wait <= 240; wait++ {
					c.Wait = wait
					if got := Measure(c, ticks); got != want {
						t.Fatalf("Measure(%v, %d) = %v; want %v", c, ticks, got, want)
					}
				}
			}
		}
	}
}

// P15.1: Double has the wait twice as long, 240 at most, and leaves what was measured.
func TestDouble(t *testing.T) {
	clocks := []api.Clock{New()}
	for _, smooth := range smooths() {
		for _, spread := range spreads() {
			clocks = append(clocks, api.Clock{Smooth: smooth, Spread: spread})
		}
	}
	for _, c := range clocks {
		for wait := int64(4); wait <= 240; wait++ {
			c.Wait = wait
			want := c
			want.Wait = wait + wait
			if wait >= 120 {
				want.Wait = 240
			}
			if got := Double(c); got != want {
				t.Fatalf("Double(%v) = %v; want %v", c, got, want)
			}
		}
	}
}

// P15.1: what waits longer each time: 10, 20, 40, and so on.
func TestDoubleAgain(t *testing.T) {
	c := New()
	for _, wait := range []int64{20, 40, 80, 160, 240, 240, 240} {
		if c = Double(c); c != (api.Clock{Smooth: -1, Spread: -1, Wait: wait}) {
			t.Fatalf("%v; want a wait of %d", c, wait)
		}
	}
	// Nothing was measured yet.
	if got, want := Measure(c, 10), (api.Clock{Smooth: 80, Spread: 20, Wait: 30}); got != want {
		t.Fatalf("%v; want %v", got, want)
	}
}

// P15.1: Right tells of any clock whether it is right, at each bound and beyond.
func TestRight(t *testing.T) {
	for _, wait := range []int64{4, 5, 10, 239, 240} {
		is(t, api.Clock{Smooth: -1, Spread: -1, Wait: wait}, true)
		is(t, api.Clock{Smooth: 0, Spread: 0, Wait: wait}, true)
		is(t, api.Clock{Smooth: 1927, Spread: 963, Wait: wait}, true)
		is(t, api.Clock{Smooth: 1928, Spread: 963, Wait: wait}, false)
		is(t, api.Clock{Smooth: 1927, Spread: 964, Wait: wait}, false)
		// Both were measured, or neither was.
		is(t, api.Clock{Smooth: -1, Spread: 0, Wait: wait}, false)
		is(t, api.Clock{Smooth: 0, Spread: -1, Wait: wait}, false)
		is(t, api.Clock{Smooth: -2, Spread: -2, Wait: wait}, false)
		is(t, api.Clock{Smooth: -1, Spread: -2, Wait: wait}, false)
		is(t, api.Clock{Smooth: -2, Spread: -1, Wait: wait}, false)
	}
	for _, wait := range []int64{math.MinInt64, -4, -1, 0, 3, 241, 1<<32 + 4, math.MaxInt64} {
		is(t, api.Clock{Smooth: -1, Spread: -1, Wait: wait}, false)
		is(t, api.Clock{Smooth: 80, Spread: 20, Wait: wait}, false)
	}
	is(t, api.Clock{}, false)
	for _, smooth := range edges() {
		for _, spread := range edges() {
			for _, wait := range edges() {
				c := api.Clock{Smooth: smooth, Spread: spread, Wait: wait}
				is(t, c, plainRight(c))
			}
		}
	}
}

// P15.2: no right clock becomes a wrong one: each smoothed time with each time, each spread with the times that spread it most.
func TestStaysRight(t *testing.T) {
	for smooth := range int64(mostSmooth + 1) {
		for _, ticks := range times() {
			for _, spread := range []int64{0, 3, 959, 963} {
				c := api.Clock{Smooth: smooth, Spread: spread, Wait: 240}
				is(t, Measure(c, ticks), true)
				is(t, Double(c), true)
			}
		}
		for spread := range int64(mostSpread + 1) {
			c := api.Clock{Smooth: smooth, Spread: spread, Wait: 4}
			is(t, Measure(c, 0), true)
			is(t, Measure(c, mostTicks), true)
			is(t, Double(c), true)
		}
	}
	for _, ticks := range times() {
		for wait := int64(4); wait <= 240; wait++ {
			c := api.Clock{Smooth: -1, Spread: -1, Wait: wait}
			is(t, Measure(c, ticks), true)
			is(t, Double(c), true)
		}
	}
}

// P15.2: whatever is measured and doubled, a clock stays right, held against another way of saying it.
func TestAnything(t *testing.T) {
	chance := rand.New(rand.NewSource(152))
	all := times()
	for range 2000 {
		c := New()
		near := uint64(chance.Intn(300))
		for range 60 {
			ticks := near + uint64(chance.Intn(8))
			switch chance.Intn(6) {
			case 0:
				was := c
				c = Double(c)
				if want := plainBounded(whole(2 * was.Wait)); c != (api.Clock{Smooth: was.Smooth, Spread: was.Spread, Wait: want}) {
					t.Fatalf("Double(%v) = %v", was, c)
				}
			case 1:
				ticks = all[chance.Intn(len(all))]
				fallthrough
			default:
				measures(t, c, ticks)
				c = Measure(c, ticks)
			}
			is(t, c, true)
		}
	}
}

// P15.2: who measures the same time again and again waits for at least that, and at most 3 ticks more; the bounds aside.
func TestComesNear(t *testing.T) {
	clocks := []api.Clock{New()}
	for _, smooth := range smooths() {
		for _, spread := range spreads() {
			clocks = append(clocks, api.Clock{Smooth: smooth, Spread: spread, Wait: 240})
		}
	}
	for _, c := range clocks {
		for r := range int64(mostTicks + 1) {
			near := c
			for range 120 {
				near = Measure(near, uint64(r))
			}
			if near.Wait < min(max(r+1, 4), 240) || near.Wait > min(max(r+3, 4), 240) {
				t.Fatalf("%v measured %d again and again, and is %v", c, r, near)
			}
			if again := Measure(near, uint64(r)); again != near {
				t.Fatalf("%v measured %d again and again, and doesn't come to rest: %v, %v", c, r, near, again)
			}
		}
	}
}

// P1: no argument makes a call panic, or go on for ever; P2: the same again answers the same, whatever came between.
func TestNoPanic(t *testing.T) {
	for _, smooth := range edges() {
		for _, spread := range edges() {
			for _, wait := range edges() {
				c := api.Clock{Smooth: smooth, Spread: spread, Wait: wait}
				for _, ticks := range []uint64{0, 1, 240, 241, 1 << 32, math.MaxInt64 + 1, math.MaxUint64} {
					got := Measure(c, ticks)
					Measure(New(), 240-ticks)
					if again := Measure(c, ticks); again != got {
						t.Fatalf("Measure(%v, %d): %v, then %v", c, ticks, got, again)
					}
				}
				got, right := Double(c), Right(c)
				if Double(got); Double(c) != got || Right(c) != right {
					t.Fatalf("%v: another answer", c)
				}
			}
		}
	}
	if New() != New() {
		t.Fatal("another beginning")
	}
}
