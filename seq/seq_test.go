package seq

import (
	"math"
	"math/big"
	"math/rand"
	"testing"
)

// round is how many numbers there are.
const round = 1 << 32

// half is half of them: where what lies behind turns to what lies ahead.
const half = 1 << 31

// last is the last number.
const last = math.MaxUint32

// edges are numbers at which something may turn.
func edges() []uint32 {
	return []uint32{0, 1, 2, 3, 100, 65535, 65536, half - 2, half - 1, half, half + 1, half + 2, last - 100, last - 2, last - 1, last}
}

// counts are how many there may be of something, and wrong ones.
func counts() []int {
	return []int{
		math.MinInt, math.MinInt + 1, -round - 1, -round, -round + 1, -half - 1, -half, -half + 1, -2, -1,
		0, 1, 2, 3, 4, 100, 65536, half - 1, half, half + 1, round - 2, round - 1, round, round + 1, 2 * round, 2*round + 3, math.MaxInt - 1, math.MaxInt,
	}
}

// plainAdd is Add by the document's words: in whole numbers, of which the rest by 2^32 is taken.
func plainAdd(a uint32, n int) uint32 {
	sum := new(big.Int).Add(big.NewInt(int64(a)), big.NewInt(int64(n)))
	return uint32(sum.Mod(sum, big.NewInt(round)).Uint64())
}

// plainDiff is Diff by the document's words: from -2^31 to 2^31 - 1, rounds put to it or taken away till it is.
func plainDiff(a, b uint32) int {
	d := int64(a) - int64(b)
	for d < -half {
		d += round
	}
	for d >= half {
		d -= round
	}
	return int(d)
}

// plainIn is In by the document's words: a, or a one round later, lies in a stretch of a line.
func plainIn(a, from uint32, n int) bool {
	if n <= 0 {
		return false
	}
	if n >= round {
		return true
	}
	for _, at := range []int64{int64(a), int64(a) + round} {
		if at >= int64(from) && at < int64(from)+int64(n) {
			return true
		}
	}
	return false
}

// plainFits is Fits by the document's words: both stretches are laid on a line, one of them a round earlier and later, too.
func plainFits(a uint32, n int, from uint32, window int) bool {
	n, window = max(n, 0), max(window, 0)
	if n == 0 && window == 0 {
		return a == from
	}
	if n == 0 {
		return plainIn(a, from, window)
	}
	if window == 0 {
		return false
	}
	long, wide := int64(min(n, round)), int64(min(window, round))
	for _, at := range []int64{int64(a) - round, int64(a), int64(a) + round} {
		if max(at, int64(from)) < min(at+long, int64(from)+wide) {
			return true
		}
	}
	return false
}

// P3.1: what Add answers.
func TestAdd(t *testing.T) {
	for _, c := range []struct {
		a    uint32
		n    int
		want uint32
	}{
		{0, 0, 0},
		{5, 7, 12},
		{5, -5, 0},
		{5, -6, last},
		{0, -1, last},
		{last, 1, 0},
		{last, 2, 1},
		{last, -1, last - 1},
		{7, half, half + 7},
		{7, -half, half + 7},
		{7, round, 7},
		{7, -round, 7},
		{7, round + 1, 8},
		{7, -round - 8, last},
		{7, 5*round - 3, 4},
		{0, math.MaxInt, last},
		{0, math.MinInt, 0},
		{9, math.MinInt + 1, 10},
	} {
		if got := Add(c.a, c.n); got != c.want {
			t.Errorf("Add(%d, %d) = %d; want %d", c.a, c.n, got, c.want)
		}
	}
}

// P3.1: what Diff answers, and with it Less.
func TestDiff(t *testing.T) {
	for _, c := range []struct {
		a, b uint32
		want int
	}{
		{0, last, 1},
		{last, 0, -1},
		{0, 0, 0},
		{last, last, 0},
		{12, 5, 7},
		{5, 12, -7},
		{half - 1, 0, half - 1},
		{0, half - 1, 1 - half},
		// Just half a round away, either lies ahead of the other one.
		{half, 0, -half},
		{0, half, -half},
		{half + 5, 5, -half},
		{last, half - 1, -half},
		{half + 1, 0, 1 - half},
		{0, half + 1, half - 1},
		{100, last - 99, 200},
		{last - 99, 100, -200},
	} {
		if got := Diff(c.a, c.b); got != c.want {
			t.Errorf("Diff(%d, %d) = %d; want %d", c.a, c.b, got, c.want)
		}
		if got := Less(c.a, c.b); got != (c.want < 0) {
			t.Errorf("Less(%d, %d) = %v at %d", c.a, c.b, got, c.want)
		}
	}
}

// P3.1: what Max answers.
func TestMax(t *testing.T) {
	for _, c := range []struct{ a, b, want uint32 }{
		{5, 12, 12},
		{12, 5, 12},
		{7, 7, 7},
		{0, last, 0},
		{last, 0, 0},
		{last - 3, 4, 4},
		{4, last - 3, 4},
		{0, half - 1, half - 1},
		{half - 1, 0, half - 1},
		{0, half + 1, 0},
		{half + 1, 0, 0},
		// Just half a round away the second one is answered.
		{0, half, half},
		{half, 0, 0},
	} {
		if got := Max(c.a, c.b); got != c.want {
			t.Errorf("Max(%d, %d) = %d; want %d", c.a, c.b, got, c.want)
		}
	}
}

// P3.1: all edges, and any numbers, as the document's words have it.
func TestOrderAsTold(t *testing.T) {
	check := func(a, b uint32) {
		d := plainDiff(a, b)
		if got := Diff(a, b); got != d {
			t.Errorf("Diff(%d, %d) = %d; want %d", a, b, got, d)
		}
		if got := Less(a, b); got != (d < 0) {
			t.Errorf("Less(%d, %d) = %v at %d", a, b, got, d)
		}
		want := a
		if d < 0 {
			want = b
		}
		if got := Max(a, b); got != want {
			t.Errorf("Max(%d, %d) = %d; want %d", a, b, got, want)
		}
		if got := Add(b, Diff(a, b)); got != a {
			t.Errorf("Add(%d, Diff(%d, %d)) = %d", b, a, b, got)
		}
	}
	for _, a := range edges() {
		for _, b := range edges() {
			check(a, b)
		}
		for _, n := range counts() {
			if got, want := Add(a, n), plainAdd(a, n); got != want {
				t.Errorf("Add(%d, %d) = %d; want %d", a, n, got, want)
			}
		}
	}
	chance := rand.New(rand.NewSource(3))
	for range 5000 {
		a, n := chance.Uint32(), int(chance.Uint64())
		check(a, chance.Uint32())
		if got, want := Add(a, n), plainAdd(a, n); got != want {
			t.Errorf("Add(%d, %d) = %d; want %d", a, n, got, want)
		}
	}
}

// P3.2: what In answers.
func TestIn(t *testing.T) {
	for _, c := range []struct {
		a, from uint32
		n       int
		want    bool
	}{
		{100, 100, 1, true},
		{101, 100, 1, false},
		{99, 100, 1, false},
		{103, 100, 4, true},
		{104, 100, 4, false},
		// No number.
		{100, 100, 0, false},
		{100, 100, -1, false},
		{99, 100, -1, false},
		{100, 100, -round, false},
		{100, 100, 1 - round, false},
		{100, 100, math.MinInt, false},
		// They go round.
		{last, last - 1, 4, true},
		{0, last - 1, 4, true},
		{1, last - 1, 4, true},
		{2, last - 1, 4, false},
		{last - 2, last - 1, 4, false},
		// More than half a round, and just a whole one.
		{half + 50, 0, half + 51, true},
		{half + 50, 0, half + 50, false},
		{99, 100, round - 1, false},
		{98, 100, round - 1, true},
		{99, 100, round, true},
		{100, 100, round, true},
		{99, 100, round + 1, true},
		{50, 0, round + 5, true},
		{0, 1, math.MaxInt, true},
	} {
		if got := In(c.a, c.from, c.n); got != c.want {
			t.Errorf("In(%d, %d, %d) = %v; want %v", c.a, c.from, c.n, got, c.want)
		}
	}
}

// P3.2: what Fits answers.
func TestFits(t *testing.T) {
	for _, c := range []struct {
		a      uint32
		n      int
		from   uint32
		window int
		want   bool
	}{
		{98, 4, 100, 2, true},
		{96, 4, 100, 2, false},
		{97, 4, 100, 2, true},
		{101, 4, 100, 2, true},
		{102, 4, 100, 2, false},
		{100, 1, 100, 1, true},
		{98, 100, 100, 2, true},  // it covers the window
		{100, 1, 98, 100, true},  // it lies within
		{98, 4, 98, 4, true},     // it is the window
		{99, 1, 100, 5, false},   // just ahead
		{105, 1, 100, 5, false},  // just behind
		{104, 1, 100, 5, true},   // its last number
		{100, 0, 100, 0, true},   // no bytes, no window
		{101, 0, 100, 0, false},  //
		{99, 0, 100, 0, false},   //
		{100, -3, 100, 0, true},  // below 0 is 0
		{100, 0, 100, -3, true},  //
		{100, -1, 100, -1, true}, //
		{99, -1, 100, -1, false}, //
		{100, math.MinInt, 100, math.MinInt, true},
		{101, math.MinInt, 100, math.MinInt, false},
		{100, 0, 100, 2, true}, // no bytes
		{101, 0, 100, 2, true},
		{102, 0, 100, 2, false},
		{99, 0, 100, 2, false},
		{101, -7, 100, 2, true},
		{102, -7, 100, 2, false},
		{99, 0, 100, round, true},
		{100, 4, 100, 0, false}, // no window
		{98, 4, 100, 0, false},
		{100, 4, 100, -2, false},
		{98, 4, 100, -2, false},
		{100, round, 100, 0, false},
		{100, math.MaxInt, 100, math.MinInt, false},
		{last - 1, 2, 0, 2, false}, // they go round
		{last - 1, 3, 0, 2, true},
		{0, 1, last, 2, true},
		{1, 1, last, 2, false},
		{last, 1, last - 1, 3, true},
		{200, round - 99, 100, 2, true}, // it comes round to the window
		{200, round - 100, 100, 2, false},
		{102, round - 2, 100, 2, false},
		{102, round - 1, 100, 2, true},
		{100, 2, 102, round - 2, false},
		{100, 2, 102, round - 1, true},
		{7, round, 6, 1, true}, // all numbers
		{7, 1, 8, round, true},
		{7, math.MaxInt, 6, math.MaxInt, true},
	} {
		if got := Fits(c.a, c.n, c.from, c.window); got != c.want {
			t.Errorf("Fits(%d, %d, %d, %d) = %v; want %v", c.a, c.n, c.from, c.window, got, c.want)
		}
	}
}

// P3.2: all edges, as the document's words have it.
func TestWindowsAsTold(t *testing.T) {
	for _, a := range edges() {
		for _, from := range edges() {
			for _, n := range counts() {
				if got, want := In(a, from, n), plainIn(a, from, n); got != want {
					t.Errorf("In(%d, %d, %d) = %v; want %v", a, from, n, got, want)
				}
				for _, window := range counts() {
					if got, want := Fits(a, n, from, window), plainFits(a, n, from, window); got != want {
						t.Errorf("Fits(%d, %d, %d, %d) = %v; want %v", a, n, from, window, got, want)
					}
				}
			}
		}
	}
}

// P3.2: few numbers, which are gone through one by one, around the place where they begin anew.
func TestWindowsOneByOne(t *testing.T) {
	one := func(a, from uint32, n int) bool {
		for i := range n {
			if from+uint32(i) == a {
				return true
			}
		}
		return false
	}
	for a := -8; a < 8; a++ {
		for n := -2; n < 7; n++ {
			for window := -2; window < 7; window++ {
				for _, from := range []uint32{last - 2, last, 0, 2} {
					a := uint32(a)
					if got, want := In(a, from, window), one(a, from, window); got != want {
						t.Errorf("In(%d, %d, %d) = %v; want %v", a, from, window, got, want)
					}
					want := n <= 0 && (window <= 0 && a == from || one(a, from, window))
					for i := range n {
						want = want || one(a+uint32(i), from, window)
					}
					if got := Fits(a, n, from, window); got != want {
						t.Errorf("Fits(%d, %d, %d, %d) = %v; want %v", a, n, from, window, got, want)
					}
				}
			}
		}
	}
}

// P3.3: all numbers moved by as much answer the same.
func TestMoved(t *testing.T) {
	for _, a := range edges() {
		for _, b := range edges() {
			for _, by := range edges() {
				a1, b1 := a+by, b+by
				if Diff(a1, b1) != Diff(a, b) || Less(a1, b1) != Less(a, b) || Max(a1, b1) != Max(a, b)+by {
					t.Errorf("%d and %d, moved by %d, are otherwise ordered", a, b, by)
				}
				for _, n := range counts() {
					if Add(a1, n) != Add(a, n)+by {
						t.Errorf("Add(%d, %d), moved by %d, is another number", a, n, by)
					}
					if In(a1, b1, n) != In(a, b, n) {
						t.Errorf("In(%d, %d, %d), moved by %d, is otherwise", a, b, n, by)
					}
					if Fits(a1, n, b1, 100) != Fits(a, n, b, 100) || Fits(a1, 3, b1, n) != Fits(a, 3, b, n) {
						t.Errorf("Fits of %d, %d and %d, moved by %d, is otherwise", a, b, n, by)
					}
				}
			}
		}
	}
}

// P1: no argument makes a call panic, or go on for ever.
func TestNoPanic(t *testing.T) {
	chance := rand.New(rand.NewSource(1))
	for range 100000 {
		a, b, n, m := chance.Uint32(), chance.Uint32(), int(chance.Uint64()), int(chance.Uint64())
		Add(a, n)
		Diff(a, b)
		Less(a, b)
		Max(a, b)
		In(a, b, n)
		Fits(a, n, b, m)
	}
	for _, n := range counts() {
		for _, m := range counts() {
			for _, a := range edges() {
				Add(a, n)
				In(a, 0, n)
				Fits(a, n, last, m)
			}
		}
	}
}

// P2: what is called again answers the same, whatever was called meanwhile.
func TestSameAgain(t *testing.T) {
	type answers struct {
		added, most    uint32
		apart          int
		less, in, fits bool
	}
	all := func() answers {
		return answers{Add(last, 3), Max(last, 2), Diff(2, last), Less(last, 2), In(1, last, 3), Fits(98, 4, 100, 2)}
	}
	first := all()
	Add(0, math.MinInt)
	Diff(half, 0)
	Max(0, half)
	Less(0, 0)
	In(9, 9, 0)
	Fits(0, round, 0, round)
	if again := all(); again != first {
		t.Errorf("%v, then %v", first, again)
	}
	if first != (answers{2, 2, 3, true, true, true}) {
		t.Error(first)
	}
}
