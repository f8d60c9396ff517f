package ring

import (
	"bytes"
	"math"
	"math/rand"
	"reflect"
	"slices"
	"strconv"
	"testing"

	"caravel/api"
)

// sizes are how many places a ring may have.
func sizes() []int {
	return []int{1, 2, 4, 8, 16}
}

// starts are counts at which a ring may begin: at some of them the counts go round soon.
func starts() []uint16 {
	return []uint16{0, 1, 5, 16, 255, 256, 32760, 32767, 32768, 65519, 65520, 65527, 65530, 65534, 65535}
}

// frame is the frame that is posted with a count: each one is another one.
func frame(count uint16) []byte {
	return []byte("frame " + strconv.Itoa(int(count)))
}

// state is a ring of so many places whose counts begin at start, with so many frames that are done, that were taken and aren't done, and that weren't taken.
func state(places int, start uint16, done, taken, posted int) api.Ring {
	r := api.Ring{Slots: make([][]byte, places), Reaped: start}
	r.Done = r.Reaped + uint16(done)
	r.Taken = r.Done + uint16(taken)
	r.Posted = r.Taken + uint16(posted)
	for i := range done + taken + posted {
		c := start + uint16(i)
		r.Slots[int(c)%places] = frame(c)
	}
	return r
}

// states are all states of rings, beginning at each of the starts.
func states() []api.Ring {
	var l []api.Ring
	for _, places := range sizes() {
		for _, start := range starts() {
			for done := range places + 1 {
				for taken := range places + 1 - done {
					for posted := range places + 1 - done - taken {
						l = append(l, state(places, start, done, taken, posted))
					}
				}
			}
		}
	}
	return l
}

// same tells whether two rings are alike, a list that is nil like one without elements.
func same(a, b api.Ring) bool {
	return slices.EqualFunc(a.Slots, b.Slots, bytes.Equal) &&
		a.Posted == b.Posted && a.Taken == b.Taken && a.Done == b.Done && a.Reaped == b.Reaped
}

// sameLists tells whether two lists of frames are alike.
func sameLists(a, b [][]byte) bool {
	return slices.EqualFunc(a, b, bytes.Equal)
}

// copied is the same ring in other memory, by a way of its own.
func copied(r api.Ring) api.Ring {
	var slots [][]byte
	for _, f := range r.Slots {
		slots = append(slots, append([]byte(nil), f...))
	}
	r.Slots = slots
	return r
}

// with is a ring at one of whose places other bytes lie.
func with(r api.Ring, place int, b []byte) api.Ring {
	r = copied(r)
	r.Slots[place] = b
	return r
}

// tell is a ring's counts and places in few words, for a test that fails.
func tell(r api.Ring) string {
	s := strconv.Itoa(len(r.Slots)) + " places, from " + strconv.Itoa(int(r.Reaped)) + ":"
	for _, d := range []uint16{r.Done - r.Reaped, r.Taken - r.Done, r.Posted - r.Taken} {
		s += " " + strconv.Itoa(int(d))
	}
	for _, f := range r.Slots {
		s += " " + strconv.Quote(string(f))
	}
	return s
}

// empties tells whether each place of a ring that holds no frame is nil.
func empties(r api.Ring) bool {
	held := make([]bool, len(r.Slots))
	for c := r.Reaped; c != r.Posted; c++ {
		held[int(c)%len(held)] = true
	}
	for i, f := range r.Slots {
		if !held[i] && f != nil {
			return false
		}
	}
	return true
}

// The chapter's example.
func TestExample(t *testing.T) {
	r, e := New(2)
	if e != api.OK {
		t.Fatal(e)
	}
	r, e = Post(r, []byte("a"))
	if e != api.OK {
		t.Fatal(e)
	}
	r, e = Post(r, []byte("b"))
	if e != api.OK {
		t.Fatal(e)
	}
	if _, e = Post(r, []byte("c")); e != api.ErrFull {
		t.Error(e)
	}
	r, f, e := Take(r)
	if string(f) != "a" || e != api.OK {
		t.Error(f, e)
	}
	if _, e = Post(r, []byte("c")); e != api.ErrFull {
		t.Error(e)
	}
	r, e = Finish(r)
	if e != api.OK {
		t.Error(e)
	}
	r, f, e = Reap(r)
	if string(f) != "a" || e != api.OK {
		t.Error(f, e)
	}
	r, e = Post(r, []byte("c"))
	if want := (api.Ring{Slots: [][]byte{[]byte("c"), []byte("b")}, Posted: 3, Taken: 1, Done: 1, Reaped: 1}); !same(r, want) || e != api.OK {
		t.Error(tell(r), e)
	}
}

// P11.1: a new ring has 1, 2, 4, 8 or 16 places, all empty, and all its counts are 0.
func TestNew(t *testing.T) {
	far := []int{
		math.MinInt, math.MinInt + 1, math.MinInt + 16, -1 << 32, -65536, -16, -2, -1,
		255, 256, 65535, 65536, 1 << 31, 1 << 32, 1<<32 + 1, 1 << 62, math.MaxInt,
	}
	for i := range 130 {
		far = append(far, i)
	}
	for _, places := range far {
		r, e := New(places)
		if !slices.Contains(sizes(), places) {
			if !reflect.DeepEqual(r, api.Ring{}) || e != api.ErrArg {
				t.Errorf("New(%d): %s, %d", places, tell(r), e)
			}
			continue
		}
		if !reflect.DeepEqual(r, api.Ring{Slots: make([][]byte, places)}) || e != api.OK || !Right(r) || Len(r) != 0 {
			t.Errorf("New(%d): %s, %d", places, tell(r), e)
		}
	}
}

// scrub writes over all that a ring points to, and over what lies behind that.
func scrub(r api.Ring) {
	for _, f := range r.Slots {
		blot(f)
	}
	slots := r.Slots[:cap(r.Slots)]
	for i := range slots {
		slots[i] = []byte("scrubbed")
	}
}

// blot writes over bytes, and over what lies behind them.
func blot(b []byte) {
	b = b[:cap(b)]
	for i := range b {
		b[i] ^= 0xa5
	}
}

// oddRings are rings of which not all are right.
func oddRings() []api.Ring {
	return []api.Ring{
		{},
		{Slots: [][]byte{}},
		{Slots: [][]byte{nil, {}, {1}}, Posted: 1},
		{Posted: 4, Taken: 3, Done: 2, Reaped: 1},
		{Slots: [][]byte{[]byte("a"), []byte("b")}, Posted: 1, Taken: 2, Done: 3, Reaped: 4},
		{Slots: [][]byte{[]byte("a"), []byte("b")}, Posted: 1},
		{Slots: [][]byte{bytes.Repeat([]byte("x"), 300)}, Posted: 9, Taken: 9, Done: 9, Reaped: 9},
		{Slots: make([][]byte, 32), Posted: 32},
		{Slots: make([][]byte, 16), Posted: 65535},
	}
}

// P11.1: a clone is the same, right or not, and shares nothing.
func TestClone(t *testing.T) {
	for _, r := range slices.Concat(oddRings(), states()) {
		was := copied(r)
		c := Clone(r)
		if !same(c, was) || !same(r, was) {
			t.Fatalf("Clone(%s) = %s", tell(was), tell(c))
		}
		for i := range r.Slots {
			if (r.Slots[i] == nil) != (c.Slots[i] == nil) {
				t.Fatalf("Clone(%s): place %d", tell(was), i)
			}
		}
		scrub(c)
		if !same(r, was) {
			t.Fatalf("a clone of %s shares memory with it", tell(was))
		}
		c = Clone(r)
		scrub(r)
		if !same(c, was) {
			t.Fatalf("a clone of %s hangs on it", tell(was))
		}
	}
}

// P11.1: each state is right, and so many lie from Reaped to Posted.
func TestRightStates(t *testing.T) {
	for _, places := range sizes() {
		for start := range 65536 {
			for n := range places + 1 {
				done := n / 2
				taken := (n - done) / 2
				r := state(places, uint16(start), done, taken, n-done-taken)
				if !Right(r) || Len(r) != n {
					t.Fatal(tell(r), Right(r), Len(r))
				}
			}
			if r := state(places, uint16(start), places, 0, 1); Right(r) {
				t.Fatal("more than the places:", tell(r))
			}
		}
	}
	for _, r := range states() {
		if !Right(r) {
			t.Fatal(tell(r))
		}
	}
}

// inOrder tells whether, counted on from Reaped up to Posted, which are no further apart than the places, Done comes and then Taken.
func inOrder(r api.Ring, places int) bool {
	seenDone, seenTaken := false, false
	c := r.Reaped
	for range places + 1 {
		seenDone = seenDone || c == r.Done
		seenTaken = seenTaken || seenDone && c == r.Taken
		if c == r.Posted {
			return seenDone && seenTaken
		}
		c++
	}
	return false
}

// P11.1: which counts make a ring right: all that lie near each other, and such as chance makes, held against a way that counts on.
func TestRightCounts(t *testing.T) {
	check := func(r api.Ring) {
		if want := inOrder(r, len(r.Slots)); Right(r) != want {
			t.Fatal(tell(r), Right(r))
		}
	}
	for _, places := range sizes() {
		for _, start := range []uint16{0, 3, 32767, 65530, 65535} {
			for a := -6; a <= places+3; a++ {
				for b := -6; b <= places+3; b++ {
					for c := -6; c <= places+3; c++ {
						check(api.Ring{Slots: make([][]byte, places), Reaped: start, Done: start + uint16(a), Taken: start + uint16(b), Posted: start + uint16(c)})
					}
				}
			}
		}
	}
	chance := rand.New(rand.NewSource(111))
	far := []uint16{0, 1, 2, 16, 17, 32767, 32768, 65520, 65534, 65535}
	one := func() uint16 {
		if chance.Intn(3) == 0 {
			return uint16(chance.Intn(65536))
		}
		return far[chance.Intn(len(far))]
	}
	for range 300000 {
		check(api.Ring{Slots: make([][]byte, sizes()[chance.Intn(5)]), Reaped: one(), Done: one(), Taken: one(), Posted: one()})
	}
}

// P11.1: counts whose steps come together as many as from Reaped to Posted but for whole rounds are not right.
func TestRightGoesRound(t *testing.T) {
	for _, r := range []api.Ring{
		{Reaped: 0, Done: 65535, Taken: 0, Posted: 1},
		{Reaped: 0, Done: 2, Taken: 1, Posted: 3},
		{Reaped: 0, Done: 0, Taken: 2, Posted: 1},
		{Reaped: 0, Done: 1, Taken: 0, Posted: 0},
		{Reaped: 0, Done: 3, Taken: 2, Posted: 1},
		{Reaped: 5, Done: 4, Taken: 5, Posted: 5},
		{Reaped: 5, Done: 5, Taken: 4, Posted: 5},
		{Reaped: 5, Done: 5, Taken: 5, Posted: 4},
		{Reaped: 0, Done: 40000, Taken: 14464, Posted: 1},
	} {
		r.Slots = make([][]byte, 16)
		if Right(r) {
			t.Error(tell(r))
		}
	}
}

// P11.1: a ring has 1, 2, 4, 8 or 16 places.
func TestRightPlaces(t *testing.T) {
	for n := range 300 {
		r := api.Ring{Slots: make([][]byte, n)}
		if want := slices.Contains(sizes(), n); Right(r) != want {
			t.Errorf("%d places: %t", n, !want)
		}
		r.Posted = 1
		if want := slices.Contains(sizes(), n); Right(r) != want {
			t.Errorf("%d places, one frame: %t", n, !want)
		}
	}
	if Right(api.Ring{}) || Right(api.Ring{Slots: make([][]byte, 65536)}) {
		t.Error("no places, or far too many, are right")
	}
}

// P11.1: a place that holds no frame is empty; one that does may have any bytes, or none.
func TestRightEmpty(t *testing.T) {
	for _, r := range states() {
		held := make([]bool, len(r.Slots))
		for c := r.Reaped; c != r.Posted; c++ {
			held[int(c)%len(held)] = true
		}
		for i := range held {
			if got := Right(with(r, i, []byte{0})); got != held[i] {
				t.Fatalf("%s: %t with a byte at %d", tell(r), got, i)
			}
			if !Right(with(r, i, nil)) || !Right(with(r, i, []byte{})) {
				t.Fatalf("%s: not right with nothing at %d", tell(r), i)
			}
		}
	}
}

// P11.1: so many lie from Reaped to Posted, going round, whatever the other counts are.
func TestLen(t *testing.T) {
	for _, r := range states() {
		n := 0
		for c := r.Reaped; c != r.Posted; c++ {
			n++
		}
		if Len(r) != n {
			t.Fatal(tell(r), Len(r))
		}
	}
	if n := Len(api.Ring{Slots: make([][]byte, 4), Posted: 2, Taken: 1, Done: 65535, Reaped: 65534}); n != 4 {
		t.Error(n)
	}
}

// P11.2: a frame lies at Posted's place, if there is room; nothing else is changed.
func TestPost(t *testing.T) {
	for _, r := range states() {
		got, e := Post(r, []byte("new"))
		if Len(r) == len(r.Slots) {
			if !same(got, r) || e != api.ErrFull {
				t.Fatal(tell(r), tell(got), e)
			}
			continue
		}
		want := with(r, int(r.Posted)%len(r.Slots), []byte("new"))
		want.Posted++
		if !same(got, want) || e != api.OK || !Right(got) || !empties(got) {
			t.Fatal(tell(r), tell(got), e)
		}
	}
}

// P11.2: a frame has no more than 214 bytes, and may have none; one that is longer is refused as such by a full ring, too.
func TestPostLengths(t *testing.T) {
	for _, r := range []api.Ring{state(4, 65534, 1, 1, 1), state(4, 65534, 1, 1, 2), state(1, 9, 0, 0, 0), state(1, 9, 0, 0, 1)} {
		for _, n := range []int{0, 1, 13, 14, 60, 200, 213, 214, 215, 216, 255, 256, 470, 1000, 65536, 65750} {
			b := bytes.Repeat([]byte{7}, n)
			want, why := copied(r), api.OK
			switch {
			case n > 214:
				why = api.ErrLong
			case Len(r) == len(r.Slots):
				why = api.ErrFull
			default:
				want = with(r, int(r.Posted)%len(r.Slots), b)
				want.Posted++
			}
			if got, e := Post(r, b); !same(got, want) || e != why {
				t.Errorf("%s: %d bytes: %s, %d; want %d", tell(r), n, tell(got), e, why)
			}
		}
	}
	r, e := Post(state(2, 0, 0, 0, 0), nil)
	if Len(r) != 1 || e != api.OK {
		t.Fatal(tell(r), e)
	}
	r, f, e := Take(r)
	if len(f) != 0 || e != api.OK || r.Taken != 1 {
		t.Error(tell(r), f, e)
	}
}

// P11.2: the first frame that wasn't taken is; it lies there still.
func TestTake(t *testing.T) {
	for _, r := range states() {
		got, f, e := Take(r)
		if r.Taken == r.Posted {
			if !same(got, r) || f != nil || e != api.ErrNone {
				t.Fatal(tell(r), tell(got), f, e)
			}
			continue
		}
		want := copied(r)
		want.Taken++
		if !same(got, want) || !bytes.Equal(f, frame(r.Taken)) || e != api.OK || !Right(got) || !empties(got) {
			t.Fatal(tell(r), tell(got), string(f), e)
		}
	}
}

// P11.2: the first frame that was taken is done.
func TestFinish(t *testing.T) {
	for _, r := range states() {
		got, e := Finish(r)
		if r.Done == r.Taken {
			if !same(got, r) || e != api.ErrNone {
				t.Fatal(tell(r), tell(got), e)
			}
			continue
		}
		want := copied(r)
		want.Done++
		if !same(got, want) || e != api.OK || !Right(got) || !empties(got) {
			t.Fatal(tell(r), tell(got), e)
		}
	}
}

// P11.2: the first frame that is done is reaped; its place is empty.
func TestReap(t *testing.T) {
	for _, r := range states() {
		got, f, e := Reap(r)
		if r.Reaped == r.Done {
			if !same(got, r) || f != nil || e != api.ErrNone {
				t.Fatal(tell(r), tell(got), f, e)
			}
			continue
		}
		want := with(r, int(r.Reaped)%len(r.Slots), nil)
		want.Reaped++
		if !same(got, want) || !bytes.Equal(f, frame(r.Reaped)) || e != api.OK || !Right(got) || !empties(got) {
			t.Fatal(tell(r), tell(got), string(f), e)
		}
	}
}

// P11.3: a ring that is quiet has as many places, all empty, and r's Posted for all its counts; the frames are those that weren't taken.
func TestQuiet(t *testing.T) {
	for _, r := range states() {
		got, left := Quiet(r)
		n := r.Posted
		want := api.Ring{Slots: make([][]byte, len(r.Slots)), Posted: n, Taken: n, Done: n, Reaped: n}
		if !reflect.DeepEqual(got, want) || !Right(got) || Len(got) != 0 {
			t.Fatal(tell(r), tell(got))
		}
		var frames [][]byte
		for i := range int(r.Posted - r.Taken) {
			frames = append(frames, frame(r.Taken+uint16(i)))
		}
		if !sameLists(left, frames) {
			t.Fatalf("%s: %q", tell(r), left)
		}
		if again, more := Quiet(got); !same(again, got) || len(more) != 0 {
			t.Fatalf("%s: quiet twice: %s, %q", tell(r), tell(again), more)
		}
	}
}

// P11.3: a ring that is quiet takes as many frames as it has places.
func TestQuietGoesOn(t *testing.T) {
	for _, r := range states() {
		r, _ = Quiet(r)
		for i := range len(r.Slots) {
			var e api.Errno
			if r, e = Post(r, frame(uint16(i))); e != api.OK {
				t.Fatal(tell(r), e)
			}
		}
		_, left := Quiet(r)
		for i := range left {
			if !bytes.Equal(left[i], frame(uint16(i))) {
				t.Fatalf("%q", left)
			}
		}
		if len(left) != len(r.Slots) {
			t.Fatalf("%q", left)
		}
	}
}

// lists are three queues: frames that wait to be taken, to be done, and to be reaped.
type lists struct {
	posted, taken, done [][]byte
}

// len is how many frames there are.
func (l *lists) len() int {
	return len(l.posted) + len(l.taken) + len(l.done)
}

// shift moves the first element of a queue behind another one's: it, nil if there is none.
func shift(from, to *[][]byte) []byte {
	if len(*from) == 0 {
		return nil
	}
	f := (*from)[0]
	*from, *to = (*from)[1:], append(*to, f)
	return f
}

// held lets one thing that chance chooses be done by both ways, which have to answer the same: the ring then.
func held(t *testing.T, r api.Ring, l *lists, f []byte, chance *rand.Rand) api.Ring {
	t.Helper()
	var e, want api.Errno
	var got, wants []byte
	switch chance.Intn(4) {
	case 0:
		r, e = Post(r, f)
		if l.len() == len(r.Slots) {
			want = api.ErrFull
		} else {
			l.posted = append(l.posted, f)
		}
	case 1:
		r, got, e = Take(r)
		if wants = shift(&l.posted, &l.taken); wants == nil {
			want = api.ErrNone
		}
	case 2:
		r, e = Finish(r)
		if shift(&l.taken, &l.done) == nil {
			want = api.ErrNone
		}
	case 3:
		r, got, e = Reap(r)
		var gone [][]byte
		if wants = shift(&l.done, &gone); wants == nil {
			want = api.ErrNone
		}
	}
	if e != want || !bytes.Equal(got, wants) || Len(r) != l.len() || !Right(r) || !empties(r) {
		t.Fatalf("%s, %q, %d; want %q, %d of %d", tell(r), got, e, wants, want, l.len())
	}
	return r
}

// P11.4, and P11.2: anything that is done with a ring, held against queues, from the first count on, and where the counts go round.
func TestAnything(t *testing.T) {
	chance := rand.New(rand.NewSource(112))
	for _, places := range sizes() {
		for _, start := range []uint16{0, 65300} {
			r, _ := New(places)
			r = begun(r, start)
			l := &lists{}
			for i := range 6000 {
				r = held(t, r, l, frame(uint16(i)), chance)
			}
			if r.Reaped-start < 300 {
				t.Error("too little came through:", tell(r))
			}
		}
	}
}

// begun is an empty ring with other counts.
func begun(r api.Ring, count uint16) api.Ring {
	r.Posted, r.Taken, r.Done, r.Reaped = count, count, count, count
	return r
}

// P11.4: what is posted is taken and reaped in order, each once, through all counts, of which there are more than can be told apart.
func TestOrder(t *testing.T) {
	for _, places := range sizes() {
		r, _ := New(places)
		for i := range 70000 {
			var one, two []byte
			var e [4]api.Errno
			r, e[0] = Post(r, frame(uint16(i)))
			r, one, e[1] = Take(r)
			r, e[2] = Finish(r)
			r, two, e[3] = Reap(r)
			if e != [4]api.Errno{} || !bytes.Equal(one, frame(uint16(i))) || !bytes.Equal(two, one) {
				t.Fatalf("%d: %q, %q, %v", i, one, two, e)
			}
		}
		if want := (api.Ring{Slots: make([][]byte, places)}); !same(r, begun(want, 70000-65536)) {
			t.Error(tell(r))
		}
	}
}

// P11.4: what was posted was taken, or is given back by Quiet; nothing is both, and nothing is lost.
func TestTakenOrGivenBack(t *testing.T) {
	chance := rand.New(rand.NewSource(113))
	for range 2000 {
		r, _ := New(sizes()[chance.Intn(5)])
		r = begun(r, uint16(65500+chance.Intn(60)))
		var posted, came [][]byte
		for i := range 60 {
			var e api.Errno
			var f []byte
			switch chance.Intn(7) {
			case 0, 1, 2:
				if r, e = Post(r, frame(uint16(i))); e == api.OK {
					posted = append(posted, frame(uint16(i)))
				}
			case 3, 4:
				if r, f, e = Take(r); e == api.OK {
					came = append(came, f)
				}
			case 5:
				r, _ = Finish(r)
			case 6:
				r, _, _ = Reap(r)
			}
		}
		_, left := Quiet(r)
		if all := slices.Concat(came, left); !sameLists(all, posted) {
			t.Fatalf("posted %q; taken %q, given back %q", posted, came, left)
		}
	}
}

// odd is a ring of any form.
func odd(chance *rand.Rand) api.Ring {
	near := []uint16{0, 1, 2, 3, 15, 16, 17, 32768, 65519, 65534, 65535}
	one := func() uint16 {
		if chance.Intn(3) == 0 {
			return uint16(chance.Intn(65536))
		}
		return near[chance.Intn(len(near))]
	}
	r := api.Ring{Posted: one(), Taken: one(), Done: one(), Reaped: one()}
	if chance.Intn(4) == 0 {
		r.Taken, r.Done, r.Reaped = r.Posted-uint16(chance.Intn(6)), r.Posted-uint16(chance.Intn(9)), r.Posted-uint16(chance.Intn(12))
	}
	for range chance.Intn(19) {
		var f []byte
		if chance.Intn(2) == 0 {
			f = bytes.Repeat([]byte{byte(chance.Intn(256))}, chance.Intn(300))
		}
		r.Slots = append(r.Slots, f)
	}
	return r
}

// do is what each call answers that takes a ring.
func do(r api.Ring, f []byte) []any {
	var l []any
	put := func(answers ...any) { l = append(l, answers...) }
	posted, e := Post(r, f)
	put(posted, e)
	taken, b, e := Take(r)
	put(taken, b, e)
	finished, e := Finish(r)
	put(finished, e)
	reaped, b, e := Reap(r)
	put(reaped, b, e)
	quiet, left := Quiet(r)
	put(quiet, left)
	put(Clone(r), Right(r), Len(r))
	return l
}

// P1: no argument makes a call panic, or go on for ever; P2: the same again answers the same, and what is handed in stays.
func TestNoPanic(t *testing.T) {
	chance := rand.New(rand.NewSource(1))
	for i := range 40000 {
		r := odd(chance)
		if i < len(oddRings()) {
			r = oddRings()[i]
		}
		f := bytes.Repeat([]byte{1}, chance.Intn(2)*chance.Intn(300))
		was, wasFrame := Clone(r), bytes.Clone(f)
		one, two := do(r, f), do(was, f)
		if !reflect.DeepEqual(one, two) {
			t.Fatalf("%v; then %v", one, two)
		}
		if !same(r, was) || !bytes.Equal(f, wasFrame) {
			t.Fatalf("%s, %x: what was handed in was changed", tell(was), f)
		}
	}
}

// P1: long lists, and long frames, come to their end.
func TestLong(t *testing.T) {
	for _, posted := range []uint16{0, 1, 65535} {
		do(api.Ring{Slots: make([][]byte, 1<<20), Posted: posted}, make([]byte, 1<<20))
		do(api.Ring{Slots: [][]byte{make([]byte, 1<<20)}, Posted: posted}, make([]byte, 1<<20))
		do(api.Ring{Posted: posted}, make([]byte, 1<<20))
	}
}

// answers is the rings, and the frames, that each call answers, of those that are done and those that are refused.
func answers(r api.Ring, f []byte) ([]api.Ring, [][]byte) {
	var l []api.Ring
	var all [][]byte
	for _, frame := range [][]byte{f, nil, make([]byte, 215)} {
		got, _ := Post(r, frame)
		l = append(l, got)
	}
	taken, b, _ := Take(r)
	l, all = append(l, taken), append(all, b)
	taken, b, _ = Take(taken)
	l, all = append(l, taken), append(all, b)
	finished, _ := Finish(r)
	reaped, b, _ := Reap(r)
	l, all = append(l, finished, reaped), append(all, b)
	quiet, left := Quiet(r)
	l, all = append(l, quiet, Clone(r)), append(all, left...)
	return l, all
}

// roomy is a ring whose lists have bytes and places behind their length.
func roomy(r api.Ring) api.Ring {
	slots := make([][]byte, 32)
	for i := range slots {
		slots[i] = []byte("behind")
	}
	for i, f := range r.Slots {
		slots[i] = append(append(make([]byte, 0, 64), f...), "behind"...)[:len(f)]
	}
	r.Slots = slots[:len(r.Slots)]
	return r
}

// P2, and rules 3 and 4: what is handed in stays, what lies behind a list's length is neither read nor written, and what is answered shares no memory with what was handed in, nor with another answer.
func TestNothingShared(t *testing.T) {
	for _, was := range states() {
		if len(was.Slots) > 4 || was.Reaped%5 > 0 {
			continue
		}
		r, whole := roomy(was), roomy(was)
		f := append(make([]byte, 0, 64), "handed in"...)
		l, all := answers(r, f)
		if !reflect.DeepEqual(r.Slots[:32], whole.Slots[:32]) {
			t.Fatal(tell(was), "was changed, or what lies behind it")
		}
		for i := range r.Slots {
			if !bytes.Equal(r.Slots[i][:cap(r.Slots[i])], whole.Slots[i][:cap(whole.Slots[i])]) {
				t.Fatal(tell(was), "was changed, or what lies behind its frames")
			}
		}
		tight, tightAll := answers(copied(was), []byte("handed in"))
		if !slices.EqualFunc(l, tight, same) || !sameLists(all, tightAll) {
			t.Fatal(tell(was), "what lies behind the lists was read")
		}
		scrub(r)
		blot(f)
		for i := range l {
			if !same(l[i], tight[i]) {
				t.Fatalf("%s: answer %d hangs on something else", tell(was), i)
			}
			scrub(l[i])
		}
		for i := range all {
			if !bytes.Equal(all[i], tightAll[i]) {
				t.Fatalf("%s: frame %d hangs on something else", tell(was), i)
			}
			blot(all[i])
		}
		again, againAll := answers(roomy(was), []byte("handed in"))
		if !slices.EqualFunc(again, tight, same) || !sameLists(againAll, tightAll) {
			t.Fatal(tell(was), "a later answer hangs on an earlier one")
		}
	}
}

// Rule 4: frames that share memory when they are handed in don't when they are answered.
func TestOneMemory(t *testing.T) {
	b := []byte("same")
	r := api.Ring{Slots: [][]byte{b, b, nil, nil}, Posted: 2}
	got, _ := Post(r, b)
	clear(got.Slots[0])
	if string(got.Slots[1]) != "same" || string(got.Slots[2]) != "same" || string(b) != "same" {
		t.Error(tell(got), string(b))
	}
	_, left := Quiet(r)
	clear(left[0])
	if string(left[1]) != "same" || string(b) != "same" {
		t.Errorf("%q, %q", left, b)
	}
}

// P2, and rule 4: new rings share nothing with each other.
func TestNewIsNew(t *testing.T) {
	one, _ := New(4)
	two, _ := New(4)
	scrub(one)
	three, _ := New(4)
	want := api.Ring{Slots: make([][]byte, 4)}
	if !same(two, want) || !same(three, want) {
		t.Error(tell(two), tell(three))
	}
}
