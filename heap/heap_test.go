package heap

import (
	"bytes"
	"math"
	"math/rand"
	"reflect"
	"slices"
	"testing"

	"caravel/api"
)

// count is so many bytes, none of them nought, of which no two near each other are alike.
func count(n int) []byte {
	b := make([]byte, n)
	for i := range b {
		b[i] = byte(1 + (i+i/255*7)%255)
	}
	return b
}

// same tells whether two heaps are alike, lists that are nil like lists without elements.
func same(a, b api.Heap) bool {
	return bytes.Equal(a.Bytes, b.Bytes) && slices.Equal(a.Blocks, b.Blocks) && slices.Equal(a.Dirty, b.Dirty)
}

// copied is the same heap in other memory, by a way of its own.
func copied(h api.Heap) api.Heap {
	return api.Heap{
		Bytes:  append([]byte(nil), h.Bytes...),
		Blocks: append([]api.Block(nil), h.Blocks...),
		Dirty:  append([]bool(nil), h.Dirty...),
	}
}

// filled is a heap of so many pages, all its bytes another than nought, with these blocks; none of it was written.
func filled(pages int, blocks ...api.Block) api.Heap {
	return api.Heap{Bytes: count(pages * 64), Blocks: blocks, Dirty: make([]bool, pages)}
}

// allDirty is a heap all of whose pages were written.
func allDirty(h api.Heap) api.Heap {
	h = copied(h)
	for i := range h.Dirty {
		h.Dirty[i] = true
	}
	return h
}

// with is a heap in which these pages, and no others, were written.
func with(h api.Heap, pages ...int) api.Heap {
	h = copied(h)
	for i := range h.Dirty {
		h.Dirty[i] = slices.Contains(pages, i)
	}
	return h
}

// nought is a heap with noughts from a place up to another one.
func nought(h api.Heap, from, to int) api.Heap {
	h = copied(h)
	for i := from; i < to; i++ {
		h.Bytes[i] = 0
	}
	return h
}

// numbers are those at which something may turn, and some far out.
func numbers() []int {
	return []int{
		math.MinInt, math.MinInt + 1, -1 << 40, -4096, -65, -64, -8, -7, -1, 0, 1, 2, 7, 8, 9, 16, 56, 63, 64, 65, 120, 128, 129,
		4095, 4096, 4097, 1 << 32, 1 << 40, 1 << 62, math.MaxInt - 64, math.MaxInt - 8, math.MaxInt - 7, math.MaxInt - 1, math.MaxInt,
	}
}

// The chapter's example.
func TestExample(t *testing.T) {
	h, e := New(2)
	if e != api.OK {
		t.Fatal(e)
	}
	h, at, e := Alloc(h, 3)
	if at != 0 || e != api.OK || !slices.Equal(h.Blocks, []api.Block{{At: 0, Len: 8}}) {
		t.Fatal(h.Blocks, at, e)
	}
	h, at, e = Alloc(h, 100)
	if at != 8 || e != api.OK || !slices.Equal(h.Blocks, []api.Block{{At: 0, Len: 8}, {At: 8, Len: 104}}) {
		t.Fatal(h.Blocks, at, e)
	}
	if h, e = Free(h, 0); e != api.OK || !slices.Equal(h.Blocks, []api.Block{{At: 8, Len: 104}}) {
		t.Fatal(h.Blocks, e)
	}
	h, at, e = Alloc(h, 9)
	if at != 112 || e != api.OK || !slices.Equal(h.Blocks, []api.Block{{At: 8, Len: 104}, {At: 112, Len: 16}}) {
		t.Fatal(h.Blocks, at, e)
	}
}

// P10.1: a new heap is of 1 to 64 pages of noughts, has no blocks, and nothing of it was written.
func TestNew(t *testing.T) {
	for _, pages := range slices.Concat(numbers(), []int{3, 8, 32, 66, 100}) {
		h, e := New(pages)
		if pages < 1 || pages > 64 {
			if !reflect.DeepEqual(h, api.Heap{}) || e != api.ErrArg {
				t.Errorf("New(%d): %v, %d", pages, h, e)
			}
			continue
		}
		want := api.Heap{Bytes: make([]byte, 64*pages), Dirty: make([]bool, pages)}
		if !same(h, want) || e != api.OK || !Right(h) || len(Written(h)) != 0 {
			t.Errorf("New(%d): %v, %d", pages, h, e)
		}
	}
}

// P10.1: a unit is 8 bytes.
func TestUnit(t *testing.T) {
	if Unit != 8 {
		t.Error(Unit)
	}
}

// P10.1: a clone is the same, right or not, and shares nothing.
func TestClone(t *testing.T) {
	for _, h := range []api.Heap{
		{},
		filled(1),
		with(filled(3, api.Block{At: 8, Len: 64}, api.Block{At: 184, Len: 8}), 1, 2),
		allDirty(filled(64, api.Block{At: 0, Len: 4096})),
		{Bytes: count(5), Blocks: []api.Block{{At: -3, Len: 9}}, Dirty: []bool{true, false}},
		{Bytes: []byte{}, Blocks: []api.Block{}, Dirty: []bool{}},
	} {
		was := copied(h)
		c := Clone(h)
		if !same(c, was) || !same(h, was) {
			t.Errorf("Clone(%v) = %v", was, c)
		}
		scrub(c)
		if !same(h, was) {
			t.Errorf("a clone of %v shares memory with it", was)
		}
		c = Clone(h)
		scrub(h)
		if !same(c, was) {
			t.Errorf("a clone of %v hangs on it", was)
		}
	}
}

// scrub writes over all that a heap points to, and over what lies behind that.
func scrub(h api.Heap) {
	for i := range h.Bytes[:cap(h.Bytes)] {
		h.Bytes[:cap(h.Bytes)][i] ^= 0xa5
	}
	for i := range h.Blocks[:cap(h.Blocks)] {
		h.Blocks[:cap(h.Blocks)][i] = api.Block{At: 555, Len: 555}
	}
	for i := range h.Dirty[:cap(h.Dirty)] {
		h.Dirty[:cap(h.Dirty)][i] = !h.Dirty[:cap(h.Dirty)][i]
	}
}

// P10.1: which pages, and truths of them, make a heap right.
func TestRightPages(t *testing.T) {
	for n := range 64*66 + 1 {
		for _, truths := range []int{0, n/64 - 1, n / 64, n/64 + 1} {
			if truths < 0 {
				continue
			}
			h := api.Heap{Bytes: make([]byte, n), Dirty: make([]bool, truths)}
			if want := n%64 == 0 && n >= 64 && n <= 4096 && truths == n/64; Right(h) != want {
				t.Fatalf("%d bytes, %d truths: %t", n, truths, !want)
			}
			h = allDirty(h)
			if want := n%64 == 0 && n >= 64 && n <= 4096 && truths == n/64; Right(h) != want {
				t.Fatalf("%d bytes, %d truths, all written: %t", n, truths, !want)
			}
		}
	}
	if Right(api.Heap{}) {
		t.Error("the zero heap is right")
	}
}

// P10.1: which blocks make a heap right.
func TestRightBlocks(t *testing.T) {
	b := func(at, n int) api.Block { return api.Block{At: at, Len: n} }
	for _, c := range []struct {
		name   string
		blocks []api.Block
		want   bool
	}{
		{"none", nil, true},
		{"none, but a list", []api.Block{}, true},
		{"one", []api.Block{b(0, 8)}, true},
		{"all", []api.Block{b(0, 128)}, true},
		{"over two pages", []api.Block{b(56, 16)}, true},
		{"up to the end", []api.Block{b(120, 8)}, true},
		{"touching", []api.Block{b(0, 8), b(8, 16), b(24, 104)}, true},
		{"apart", []api.Block{b(8, 8), b(32, 8), b(112, 8)}, true},
		{"empty", []api.Block{b(0, 0)}, false},
		{"empty, at the end", []api.Block{b(128, 0)}, false},
		{"empty, behind another one", []api.Block{b(0, 8), b(8, 0)}, false},
		{"below nothing", []api.Block{b(8, -8)}, false},
		{"less than a unit", []api.Block{b(0, 7)}, false},
		{"no whole units", []api.Block{b(0, 12)}, false},
		{"begins within a unit", []api.Block{b(4, 8)}, false},
		{"begins at 1", []api.Block{b(1, 8)}, false},
		{"ahead of the bytes", []api.Block{b(-8, 8)}, false},
		{"ahead of them and in them", []api.Block{b(-8, 16)}, false},
		{"at the end", []api.Block{b(128, 8)}, false},
		{"over the end", []api.Block{b(120, 16)}, false},
		{"behind the end", []api.Block{b(136, 8)}, false},
		{"longer than all", []api.Block{b(0, 136)}, false},
		{"the second over the end", []api.Block{b(0, 8), b(64, 72)}, false},
		{"over one another", []api.Block{b(0, 16), b(8, 16)}, false},
		{"one in another", []api.Block{b(0, 32), b(8, 8)}, false},
		{"twice", []api.Block{b(8, 8), b(8, 8)}, false},
		{"not in order", []api.Block{b(16, 8), b(0, 8)}, false},
		{"the last not in order", []api.Block{b(0, 8), b(64, 8), b(32, 8)}, false},
		{"end goes round", []api.Block{b(8, math.MaxInt-7)}, false},
		{"end goes round twice", []api.Block{b(math.MaxInt-7, math.MaxInt-7)}, false},
		{"far out", []api.Block{b(math.MaxInt-7, 8)}, false},
		{"far below", []api.Block{b(math.MinInt, 8)}, false},
		{"far below, long", []api.Block{b(math.MinInt, math.MaxInt-7)}, false},
		{"Len far below", []api.Block{b(0, math.MinInt)}, false},
	} {
		if Right(filled(2, c.blocks...)) != c.want {
			t.Errorf("%s: %t", c.name, !c.want)
		}
	}
}

// P10.1: each two blocks in and about two pages, held against a way that asks each byte.
func TestRightEachTwo(t *testing.T) {
	right := func(one, two api.Block) bool {
		var taken [128]int
		for _, b := range []api.Block{one, two} {
			if b.At%8 != 0 || b.Len%8 != 0 || b.Len <= 0 {
				return false
			}
			for i := b.At; i < b.At+b.Len; i++ {
				if i < 0 || i >= 128 || taken[i] > 0 {
					return false
				}
				taken[i]++
			}
		}
		return one.At < two.At
	}
	var blocks []api.Block
	for at := -8; at <= 136; at += 4 {
		for n := -8; n <= 136; n += 4 {
			blocks = append(blocks, api.Block{At: at, Len: n})
		}
	}
	h := filled(2, api.Block{}, api.Block{})
	for _, one := range blocks {
		for _, two := range blocks {
			h.Blocks[0], h.Blocks[1] = one, two
			if want := right(one, two); Right(h) != want {
				t.Fatalf("%v, %v: %t", one, two, !want)
			}
		}
	}
}

// P10.2: less than a byte is no block; a block has whole units; more than there are has no room, however much more.
func TestAllocLengths(t *testing.T) {
	for pages := 1; pages <= 64; pages += 9 {
		h := filled(pages)
		for _, n := range numbers() {
			got, at, e := Alloc(h, n)
			switch {
			case n < 1:
				if !same(got, h) || at != 0 || e != api.ErrArg {
					t.Fatalf("%d pages, Alloc(%d): %v, %d, %d", pages, n, got.Blocks, at, e)
				}
			case n > pages*64:
				if !same(got, h) || at != 0 || e != api.ErrFull {
					t.Fatalf("%d pages, Alloc(%d): %v, %d, %d", pages, n, got.Blocks, at, e)
				}
			}
		}
		for n := 1; n <= pages*64; n++ {
			want := copied(h)
			want.Blocks = []api.Block{{At: 0, Len: (n + 7) / 8 * 8}}
			if got, at, e := Alloc(h, n); !same(got, want) || at != 0 || e != api.OK {
				t.Fatalf("%d pages, Alloc(%d): %v, %d, %d", pages, n, got.Blocks, at, e)
			}
		}
	}
}

// P10.2: a block begins where there is room first, and takes its place among the others; its bytes stay, and nothing is written.
func TestAllocPlaces(t *testing.T) {
	b := func(at, n int) api.Block { return api.Block{At: at, Len: n} }
	few := []api.Block{b(8, 8), b(32, 8), b(72, 24)}
	for _, c := range []struct {
		name   string
		blocks []api.Block
		n, at  int
		next   int
	}{
		{"ahead of all", few, 1, 0, 0},
		{"ahead of all, just as much", few, 8, 0, 0},
		{"one byte too many there", few, 9, 16, 1},
		{"behind the first, just as much", few, 16, 16, 1},
		{"behind the second", few, 17, 40, 2},
		{"there just as much", few, 32, 40, 2},
		{"at the end", []api.Block{b(8, 8), b(32, 8), b(72, 16)}, 40, 88, 3},
		{"at the end, less than as much", []api.Block{b(8, 88)}, 30, 96, 1},
		{"behind one that begins at 0", []api.Block{b(0, 8)}, 1, 8, 1},
		{"behind two that touch", []api.Block{b(0, 8), b(8, 8), b(24, 8)}, 8, 16, 2},
		{"the last unit", []api.Block{b(0, 120)}, 5, 120, 1},
		{"the first unit", []api.Block{b(8, 120)}, 5, 0, 0},
	} {
		h := with(filled(2, c.blocks...), 1)
		want := copied(h)
		want.Blocks = slices.Concat(c.blocks[:c.next], []api.Block{b(c.at, (c.n+7)/8*8)}, c.blocks[c.next:])
		if got, at, e := Alloc(h, c.n); !same(got, want) || at != c.at || e != api.OK {
			t.Errorf("%s: %v, %d, %d", c.name, got, at, e)
		}
	}
}

// P10.2: there is no room, if each place is too small, though all together are not.
func TestAllocFull(t *testing.T) {
	b := func(at, n int) api.Block { return api.Block{At: at, Len: n} }
	for _, c := range []struct {
		name   string
		blocks []api.Block
		n      int
	}{
		{"all given away", []api.Block{b(0, 128)}, 1},
		{"all but a unit", []api.Block{b(0, 120)}, 9},
		{"all but the first unit", []api.Block{b(8, 120)}, 9},
		{"places too small", []api.Block{b(16, 32), b(64, 32), b(112, 8)}, 17},
		{"each unit but the second ones", []api.Block{b(0, 8), b(16, 8), b(32, 8), b(48, 8), b(64, 8), b(80, 8), b(96, 8), b(112, 8)}, 16},
		{"none given away", nil, 129},
		{"far too many", []api.Block{b(0, 8)}, math.MaxInt},
	} {
		h := with(filled(2, c.blocks...), 0)
		if got, at, e := Alloc(h, c.n); !same(got, h) || at != 0 || e != api.ErrFull {
			t.Errorf("%s: %v, %d, %d", c.name, got, at, e)
		}
	}
}

// P10.2: the whole heap can be given away unit by unit, in order, and then nothing more.
func TestAllocAll(t *testing.T) {
	h := filled(64)
	for i := range 512 {
		var at int
		var e api.Errno
		if h, at, e = Alloc(h, 1+i%8); at != i*8 || e != api.OK || !Right(h) {
			t.Fatalf("block %d: %d, %d", i, at, e)
		}
	}
	if got, at, e := Alloc(h, 1); !same(got, h) || at != 0 || e != api.ErrFull {
		t.Error(at, e)
	}
	if !bytes.Equal(h.Bytes, count(4096)) || slices.Contains(h.Dirty, true) {
		t.Error("bytes were written")
	}
}

// P10.2: each block is freed at the place where it begins, and at no other: its bytes are noughts, those of others stay, its pages were written.
func TestFree(t *testing.T) {
	blocks := []api.Block{{At: 8, Len: 8}, {At: 16, Len: 48}, {At: 64, Len: 64}, {At: 136, Len: 120}, {At: 312, Len: 72}}
	pages := [][]int{{0}, {0}, {1}, {2, 3}, {4, 5}}
	for _, h := range []api.Heap{filled(6, blocks...), allDirty(filled(6, blocks...)), with(filled(6, blocks...), 2, 5)} {
		for _, at := range slices.Concat(numbers(), []int{10, 24, 32, 72, 136, 137, 144, 255, 256, 311, 312, 320, 383, 384}) {
			i := slices.IndexFunc(blocks, func(b api.Block) bool { return b.At == at })
			got, e := Free(h, at)
			if i < 0 {
				if !same(got, h) || e != api.ErrNone {
					t.Errorf("Free(%d): %v, %d", at, got, e)
				}
				continue
			}
			want := nought(h, at, at+blocks[i].Len)
			want.Blocks = slices.Concat(blocks[:i], blocks[i+1:])
			for _, page := range pages[i] {
				want.Dirty[page] = true
			}
			if !same(got, want) || e != api.OK {
				t.Errorf("Free(%d): %v, %d; want %v", at, got, e, want)
			}
		}
	}
}

// P10.2: of each block in three pages, wherever it lies, just the pages are written in which it does.
func TestFreePages(t *testing.T) {
	for at := 0; at < 192; at += 8 {
		for n := 8; at+n <= 192; n += 8 {
			h := filled(3, api.Block{At: at, Len: n})
			want := nought(h, at, at+n)
			want.Blocks = nil
			for i := at; i < at+n; i++ {
				want.Dirty[i/64] = true
			}
			if got, e := Free(h, at); !same(got, want) || e != api.OK {
				t.Fatalf("block %d, %d: %v, %d", at, n, got, e)
			}
		}
	}
}

// P10.2: what was freed can be given away again, and once alone be freed.
func TestFreeTwice(t *testing.T) {
	h := filled(2, api.Block{At: 0, Len: 128})
	h, e := Free(h, 0)
	if e != api.OK {
		t.Fatal(e)
	}
	if got, e := Free(h, 0); !same(got, h) || e != api.ErrNone {
		t.Error(got, e)
	}
	if _, at, e := Alloc(h, 128); at != 0 || e != api.OK {
		t.Error(at, e)
	}
}

// lies tells whether so many bytes from a place on lie in one of the blocks; of none, whether the place does, or is a block's end.
func lies(blocks []api.Block, at, n int) bool {
	for _, b := range blocks {
		for from := b.At; from <= b.At+b.Len; from++ {
			if from == at && n <= b.At+b.Len-from {
				return true
			}
		}
	}
	return false
}

// P10.3: each place and each length in and about three pages: what lies in one block is stored, and its pages written; all else is refused. Likewise it is loaded.
func TestStoreAndLoadEach(t *testing.T) {
	h := with(filled(3, api.Block{At: 0, Len: 8}, api.Block{At: 16, Len: 8}, api.Block{At: 24, Len: 32}, api.Block{At: 64, Len: 128}), 0)
	data := bytes.Repeat([]byte{0}, 200)
	for at := -10; at <= 202; at++ {
		for n := range 200 {
			ok := lies(h.Blocks, at, n)
			got, e := Store(h, at, data[:n])
			load, f := Load(h, at, n)
			if !ok {
				if !same(got, h) || e != api.ErrNone || len(load) != 0 || f != api.ErrNone {
					t.Fatalf("at %d, %d bytes: %v, %d; %x, %d", at, n, got, e, load, f)
				}
				continue
			}
			want := nought(h, at, at+n)
			for i := at; i < at+n; i++ {
				want.Dirty[i/64] = true
			}
			if !same(got, want) || e != api.OK || !bytes.Equal(load, h.Bytes[at:at+n]) || f != api.OK {
				t.Fatalf("at %d, %d bytes: %v, %d; %x, %d", at, n, got, e, load, f)
			}
		}
	}
}

// P10.3: the edges, one by one.
func TestStoreEdges(t *testing.T) {
	blocks := []api.Block{{At: 8, Len: 8}, {At: 16, Len: 8}, {At: 56, Len: 16}, {At: 120, Len: 8}}
	for _, c := range []struct {
		name  string
		at, n int
		want  api.Errno
		pages []int
	}{
		{"a whole block", 8, 8, api.OK, []int{0}},
		{"its last byte", 15, 1, api.OK, []int{0}},
		{"over its end, into the next block", 15, 2, api.ErrNone, nil},
		{"two blocks that touch", 8, 16, api.ErrNone, nil},
		{"where the second of them begins", 16, 8, api.OK, []int{0}},
		{"ahead of a block, into it", 7, 2, api.ErrNone, nil},
		{"ahead of a block", 0, 8, api.ErrNone, nil},
		{"around a block", 48, 32, api.ErrNone, nil},
		{"over a page's end", 63, 2, api.OK, []int{0, 1}},
		{"up to a page's end", 56, 8, api.OK, []int{0}},
		{"from a page's beginning", 64, 8, api.OK, []int{1}},
		{"the heap's last byte", 127, 1, api.OK, []int{1}},
		{"over the heap's end", 120, 9, api.ErrNone, nil},
		{"nothing, where a block begins", 8, 0, api.OK, nil},
		{"nothing, in a block", 60, 0, api.OK, nil},
		{"nothing, at a page's beginning in a block", 64, 0, api.OK, nil},
		{"nothing, at a block's end", 24, 0, api.OK, nil},
		{"nothing, at the heap's end, that is a block's", 128, 0, api.OK, nil},
		{"something at a block's end", 24, 1, api.ErrNone, nil},
		{"nothing, behind a block's end", 25, 0, api.ErrNone, nil},
		{"nothing, ahead of a block", 7, 0, api.ErrNone, nil},
		{"nothing, behind the heap", 129, 0, api.ErrNone, nil},
		{"nothing, below 0", -1, 0, api.ErrNone, nil},
		{"nothing, far out", math.MaxInt, 0, api.ErrNone, nil},
		{"nothing, far below", math.MinInt, 0, api.ErrNone, nil},
		{"something far out", math.MaxInt, 8, api.ErrNone, nil},
		{"something far below", math.MinInt, 8, api.ErrNone, nil},
	} {
		h := filled(2, blocks...)
		data := bytes.Repeat([]byte{0xee}, c.n)
		want := copied(h)
		if c.want == api.OK {
			copy(want.Bytes[c.at:], data)
			want = with(want, c.pages...)
		}
		if got, e := Store(h, c.at, data); !same(got, want) || e != c.want {
			t.Errorf("%s: %v, %d; want %v", c.name, got, e, want)
		}
	}
	if got, e := Store(filled(1), 0, nil); !same(got, filled(1)) || e != api.ErrNone {
		t.Error("nothing, where there is no block:", got, e)
	}
}

// P10.3: less than no bytes can't be loaded, wherever; that is told ahead of all else.
func TestLoadWrong(t *testing.T) {
	h := filled(2, api.Block{At: 8, Len: 120})
	for _, at := range numbers() {
		for _, n := range numbers() {
			want := api.OK
			switch {
			case n < 0:
				want = api.ErrArg
			case at < 8 || at > 128 || n > 128-at:
				want = api.ErrNone
			}
			b, e := Load(h, at, n)
			if e != want || e != api.OK && len(b) != 0 || e == api.OK && !bytes.Equal(b, h.Bytes[at:at+n]) {
				t.Errorf("Load(%d, %d): %x, %d; want %d", at, n, b, e, want)
			}
		}
	}
}

// P10.3: what was stored is there byte by byte, and is laid over what was there.
func TestStoreAnew(t *testing.T) {
	h := filled(2, api.Block{At: 0, Len: 128})
	h, _ = Store(h, 0, bytes.Repeat([]byte{1}, 128))
	h, _ = Store(h, 10, []byte("abcd"))
	h, _ = Store(h, 12, []byte("xy12"))
	want := append([]byte{1}, "abxy12\x01"...)
	if b, e := Load(h, 9, 8); !bytes.Equal(b, want) || e != api.OK {
		t.Errorf("%q, %d", b, e)
	}
}

// P10.4: the pages that were written, rising.
func TestWritten(t *testing.T) {
	for _, pages := range [][]int{nil, {0}, {2}, {0, 1, 2, 3}, {1, 3}, {0, 3}} {
		if got := Written(with(filled(4), pages...)); !slices.Equal(got, pages) {
			t.Errorf("%v: %v", pages, got)
		}
	}
	all := Written(allDirty(filled(64)))
	if len(all) != 64 || all[0] != 0 || all[63] != 63 || !slices.IsSorted(all) {
		t.Error(all)
	}
}

// P10.4: a page that there is is told, and not written then; all else stays.
func TestTell(t *testing.T) {
	for _, h := range []api.Heap{filled(3, api.Block{At: 8, Len: 120}), allDirty(filled(3)), with(filled(3), 1), filled(1), allDirty(filled(64))} {
		for _, page := range slices.Concat(numbers(), []int{3, 4, 61, 62}) {
			got, b, e := Tell(h, page)
			if page < 0 || page >= len(h.Dirty) {
				if !same(got, h) || len(b) != 0 || e != api.ErrNone {
					t.Errorf("Tell(%d): %v, %x, %d", page, got, b, e)
				}
				continue
			}
			want := copied(h)
			want.Dirty[page] = false
			if !same(got, want) || !bytes.Equal(b, h.Bytes[page*64:page*64+64]) || e != api.OK {
				t.Errorf("Tell(%d): %v, %x, %d", page, got, b, e)
			}
		}
	}
}

// P10.4: a page that there is has the bytes that are heard, if they are as many as it has; whether it is written stays.
func TestHear(t *testing.T) {
	for _, h := range []api.Heap{filled(3, api.Block{At: 8, Len: 120}), allDirty(filled(3)), with(filled(3), 1), filled(1), allDirty(filled(64))} {
		for _, page := range slices.Concat(numbers(), []int{3, 4, 61, 62}) {
			for _, n := range []int{0, 1, 8, 63, 64, 65, 128, 4096} {
				data := bytes.Repeat([]byte{0xee}, n)
				want, why := copied(h), api.OK
				switch {
				case page < 0 || page >= len(h.Dirty):
					why = api.ErrNone
				case n != 64:
					why = api.ErrArg
				default:
					copy(want.Bytes[page*64:], data)
				}
				if got, e := Hear(h, page, data); !same(got, want) || e != why {
					t.Errorf("Hear(%d) of %d bytes: %v, %d; want %d", page, n, got, e, why)
				}
			}
			if _, e := Hear(h, page, nil); e == api.OK {
				t.Errorf("Hear(%d) of nil", page)
			}
		}
	}
}

// P10.4: what was told is written again, when something is stored or freed there, not when it is given away or heard.
func TestWrittenAgain(t *testing.T) {
	h, _ := New(3)
	h, at, _ := Alloc(h, 150)
	if len(Written(h)) != 0 {
		t.Error("given away:", Written(h))
	}
	if h, _ = Hear(h, 1, count(64)); len(Written(h)) != 0 {
		t.Error("heard:", Written(h))
	}
	if h, _ = Store(h, at+130, []byte{1}); !slices.Equal(Written(h), []int{2}) {
		t.Error("stored:", Written(h))
	}
	if h, _, _ = Tell(h, 2); len(Written(h)) != 0 {
		t.Error("told:", Written(h))
	}
	if h, _ = Free(h, at); !slices.Equal(Written(h), []int{0, 1, 2}) {
		t.Error("freed:", Written(h))
	}
	if h, _, _ = Tell(h, 1); !slices.Equal(Written(h), []int{0, 2}) {
		t.Error("told again:", Written(h))
	}
}

// plain is a heap of which each byte knows to which block it belongs (the place where that begins; below 0: to none), by a way of its own.
type plain struct {
	bytes   []byte
	of      []int
	written []bool
}

// newPlain is one of so many pages.
func newPlain(pages int) *plain {
	p := &plain{bytes: make([]byte, pages*64), of: make([]int, pages*64), written: make([]bool, pages)}
	for i := range p.of {
		p.of[i] = -1
	}
	return p
}

// alloc gives bytes away at the first place, unit by unit, at which all are free; below 0: there is none.
func (p *plain) alloc(n int) int {
	for at := 0; at+n <= len(p.of); at += 8 {
		to := min(at+(n+7)/8*8, len(p.of))
		if !slices.ContainsFunc(p.of[at:to], func(of int) bool { return of >= 0 }) {
			for i := at; i < to; i++ {
				p.of[i] = at
			}
			return at
		}
	}
	return -1
}

// free takes a block back: whether there was one.
func (p *plain) free(at int) bool {
	if at < 0 || at >= len(p.of) || p.of[at] != at {
		return false
	}
	for i := at; i < len(p.of) && p.of[i] == at; i++ {
		p.of[i], p.bytes[i], p.written[i/64] = -1, 0, true
	}
	return true
}

// in tells whether bytes, one at least, lie in one block.
func (p *plain) in(at, n int) bool {
	for i := at; i < at+n; i++ {
		if i < 0 || i >= len(p.of) || p.of[i] < 0 || p.of[i] != p.of[at] {
			return false
		}
	}
	return true
}

// store lets bytes be others.
func (p *plain) store(at int, data []byte) {
	for i, c := range data {
		p.bytes[at+i], p.written[(at+i)/64] = c, true
	}
}

// heap is it as the program has it.
func (p *plain) heap() api.Heap {
	h := api.Heap{Bytes: p.bytes, Dirty: p.written}
	for i, of := range p.of {
		if of == i {
			h.Blocks = append(h.Blocks, api.Block{At: i})
		}
		if of >= 0 {
			h.Blocks[len(h.Blocks)-1].Len++
		}
	}
	return h
}

// Of how many kinds of things one is done: all but the last of all are those that don't tell a page.
const (
	silent   = 5
	allKinds = 6
)

// held lets one thing of so many kinds, that chance chooses, be done by both ways, which have to answer the same: the heap then.
func held(t *testing.T, h api.Heap, p *plain, chance *rand.Rand, kinds int) api.Heap {
	t.Helper()
	var e, want api.Errno
	at := chance.Intn(len(p.of)+20) - 10
	n := 1 + chance.Intn(1+chance.Intn(len(p.of)+10))
	if len(h.Blocks) > 0 && chance.Intn(4) > 0 {
		b := h.Blocks[chance.Intn(len(h.Blocks))]
		at = b.At + chance.Intn(b.Len+1)*chance.Intn(2)
		n = 1 + chance.Intn(b.Len+1)
	}
	switch chance.Intn(kinds) {
	case 0, 1:
		var got int
		h, got, e = Alloc(h, n)
		if place := p.alloc(n); place < 0 {
			want = api.ErrFull
		} else if got != place {
			t.Fatalf("Alloc(%d): %d; want %d", n, got, place)
		}
	case 2:
		h, e = Free(h, at)
		if !p.free(at) {
			want = api.ErrNone
		}
	case 3:
		data := count(n + 256)[chance.Intn(256):][:n]
		h, e = Store(h, at, data)
		if p.in(at, n) {
			p.store(at, data)
		} else {
			want = api.ErrNone
		}
	case 4:
		var b []byte
		b, e = Load(h, at, n)
		if !p.in(at, n) {
			want = api.ErrNone
		} else if !bytes.Equal(b, p.bytes[at:at+n]) {
			t.Fatalf("Load(%d, %d): %x", at, n, b)
		}
	case 5:
		page := chance.Intn(len(p.written))
		var b []byte
		if h, b, e = Tell(h, page); !bytes.Equal(b, p.bytes[page*64:page*64+64]) {
			t.Fatalf("Tell(%d): %x", page, b)
		}
		p.written[page] = false
	}
	if e != want || !same(h, p.heap()) || !Right(h) {
		t.Fatalf("%v, %d; want %v, %d", h, e, p.heap(), want)
	}
	return h
}

// P10.5, and P10.2 to P10.4: anything that is done with a heap, held against the plain way.
func TestAnything(t *testing.T) {
	chance := rand.New(rand.NewSource(105))
	for _, pages := range []int{1, 2, 3, 5, 8} {
		for range 40 {
			h, _ := New(pages)
			p := newPlain(pages)
			for range 200 {
				h = held(t, h, p, chance, allKinds)
			}
		}
	}
}

// P10.5: what is stored is loaded, whatever else is done, till it is stored anew or freed.
func TestStoredIsLoaded(t *testing.T) {
	chance := rand.New(rand.NewSource(106))
	h, _ := New(64)
	var ats []int
	var texts [][]byte
	for range 3000 {
		if len(ats) == 0 || chance.Intn(2) == 0 {
			text := count(600)[chance.Intn(200):][:1+chance.Intn(200)]
			next, at, e := Alloc(h, len(text))
			if e == api.OK {
				h, e = Store(next, at, text)
				ats, texts = append(ats, at), append(texts, text)
			} else if e == api.ErrFull {
				e = api.OK
			}
			if e != api.OK {
				t.Fatal(e)
			}
		} else {
			i := chance.Intn(len(ats))
			var e api.Errno
			if h, e = Free(h, ats[i]); e != api.OK {
				t.Fatal(e)
			}
			ats, texts = slices.Delete(ats, i, i+1), slices.Delete(texts, i, i+1)
		}
		for i, at := range ats {
			if b, e := Load(h, at, len(texts[i])); !bytes.Equal(b, texts[i]) || e != api.OK {
				t.Fatalf("at %d: %x, %d; want %x", at, b, e, texts[i])
			}
		}
	}
}

// P10.5: a heap is told to another one page by page while things are done with it, and again what was written, till nothing is: both have the same bytes then.
func TestTold(t *testing.T) {
	chance := rand.New(rand.NewSource(107))
	for _, pages := range []int{1, 2, 3, 8, 64} {
		for range 20 {
			h, _ := New(pages)
			p := newPlain(pages)
			for range 50 {
				h = held(t, h, p, chance, allKinds)
			}
			other, _ := New(pages)
			todo := Written(allDirty(h))
			for rounds := 0; len(todo) > 0; rounds++ {
				for _, page := range todo {
					var b []byte
					if h, b, _ = Tell(h, page); b == nil {
						t.Fatal("there is no page", page)
					}
					p.written[page] = false
					other, _ = Hear(other, page, b)
					if rounds < 5 {
						h = held(t, h, p, chance, silent)
					}
				}
				todo = Written(h)
				if rounds > 6 {
					t.Fatal("it doesn't come to its end")
				}
			}
			if !bytes.Equal(h.Bytes, other.Bytes) || len(Written(other)) != 0 || len(other.Blocks) != 0 {
				t.Fatalf("%x; told was %x", other.Bytes, h.Bytes)
			}
		}
	}
}

// odd is a heap of any form, its lists nil where they have no elements.
func odd(chance *rand.Rand) api.Heap {
	far := numbers()
	lens := []int{0, 1, 7, 8, 63, 64, 65, 128, 4096, 4160}
	h := api.Heap{Bytes: count(lens[chance.Intn(len(lens))])}
	h.Dirty = make([]bool, len(h.Bytes)/64)
	if chance.Intn(3) == 0 {
		h.Dirty = make([]bool, chance.Intn(70))
	}
	for i := range h.Dirty {
		h.Dirty[i] = chance.Intn(2) == 0
	}
	for range chance.Intn(5) {
		b := api.Block{At: far[chance.Intn(len(far))], Len: far[chance.Intn(len(far))]}
		if chance.Intn(2) == 0 {
			b = api.Block{At: 8 * chance.Intn(20), Len: 8 * chance.Intn(8)}
		}
		h.Blocks = append(h.Blocks, b)
	}
	return copied(h)
}

// P1: no argument makes a call panic, or go on for ever; P2: the same again answers the same, and what is handed in stays.
func TestNoPanic(t *testing.T) {
	chance := rand.New(rand.NewSource(1))
	far := numbers()
	for range 20000 {
		h := odd(chance)
		at, n := far[chance.Intn(len(far))], far[chance.Intn(len(far))]
		if len(h.Blocks) > 0 && chance.Intn(2) == 0 {
			at = h.Blocks[0].At
		}
		data := count(chance.Intn(2) * chance.Intn(200))
		was, wasData := copied(h), bytes.Clone(data)
		one, two := do(h, at, n, data), do(was, at, n, data)
		if !reflect.DeepEqual(one, two) {
			t.Fatalf("%v; then %v", one, two)
		}
		if !same(h, was) || !bytes.Equal(data, wasData) {
			t.Fatalf("%v, %x: what was handed in was changed", was, data)
		}
	}
}

// do is what each call answers that takes a heap.
func do(h api.Heap, at, n int, data []byte) []any {
	var l []any
	put := func(answers ...any) { l = append(l, answers...) }
	alloced, place, e := Alloc(h, n)
	put(alloced, place, e)
	freed, e := Free(h, at)
	put(freed, e)
	stored, e := Store(h, at, data)
	put(stored, e)
	loaded, e := Load(h, at, n)
	put(loaded, e)
	told, b, e := Tell(h, at)
	put(told, b, e)
	told, b, e = Tell(h, n)
	put(told, b, e)
	heard, e := Hear(h, at, data)
	put(heard, e)
	heard, e = Hear(h, n, make([]byte, 64))
	put(heard, e)
	put(Clone(h), Written(h), Right(h))
	return l
}

// P1: long lists come to their end.
func TestLong(t *testing.T) {
	h := api.Heap{Bytes: make([]byte, 1<<20), Blocks: make([]api.Block, 1<<20), Dirty: make([]bool, 1<<20)}
	do(h, 8, 8, make([]byte, 1<<20))
	do(filled(2, h.Blocks...), 8, 8, make([]byte, 64))
	do(filled(2, api.Block{At: 0, Len: 128}), 8, 8, make([]byte, 1<<20))
}

// answers is the heap, and the bytes, that each call answers, of those that are done and those that are refused.
func answers(h api.Heap, data []byte) ([]api.Heap, [][]byte) {
	var l []api.Heap
	var all [][]byte
	put := func(h api.Heap) { l = append(l, h) }
	for _, n := range []int{1, 9, 0, 5000} {
		got, _, _ := Alloc(h, n)
		put(got)
	}
	for _, at := range []int{8, 64, 9} {
		got, _ := Free(h, at)
		put(got)
	}
	for _, at := range []int{8, 70, 0} {
		got, _ := Store(h, at, data[:8])
		put(got)
		got, _ = Store(h, at, nil)
		put(got)
	}
	for _, page := range []int{0, 1, 7, -1} {
		got, b, _ := Tell(h, page)
		put(got)
		all = append(all, b)
		got, _ = Hear(h, page, data[:64])
		put(got)
		got, _ = Hear(h, page, data[:63])
		put(got)
	}
	for _, at := range []int{8, 70, 0} {
		b, _ := Load(h, at, 8)
		all = append(all, b)
	}
	put(Clone(h))
	return l, all
}

// P2, and rules 3 and 4: what is handed in stays, what lies behind a list's length is neither read nor written, and what is answered shares no memory with what was handed in, nor with another answer.
func TestNothingShared(t *testing.T) {
	roomy := func() api.Heap {
		h := filled(4, api.Block{At: 8, Len: 8}, api.Block{At: 64, Len: 64}, api.Block{At: 192, Len: 8}, api.Block{At: 240, Len: 8})
		h.Bytes, h.Blocks, h.Dirty = h.Bytes[:128], h.Blocks[:2], []bool{false, true, true, true}[:2]
		return h
	}
	h := roomy()
	data := count(600)
	l, all := answers(h, data)
	if !reflect.DeepEqual(h, roomy()) || !reflect.DeepEqual(h.Bytes[:256], roomy().Bytes[:256]) ||
		!reflect.DeepEqual(h.Blocks[:4], roomy().Blocks[:4]) || !reflect.DeepEqual(h.Dirty[:4], roomy().Dirty[:4]) || !bytes.Equal(data, count(600)) {
		t.Fatal("what was handed in was changed")
	}
	tight, tightAll := answers(copied(h), count(600))
	if !slices.EqualFunc(l, tight, same) || !slices.EqualFunc(all, tightAll, bytes.Equal) {
		t.Fatal("what lies behind the lists was read")
	}
	scrub(h)
	clear(data)
	for i := range l {
		if !same(l[i], tight[i]) {
			t.Errorf("answer %d hangs on what was handed in", i)
		}
		scrub(l[i])
	}
	for i := range all {
		if !bytes.Equal(all[i], tightAll[i]) {
			t.Errorf("bytes %d hang on something else", i)
		}
		clear(all[i][:cap(all[i])])
	}
	again, againAll := answers(roomy(), count(600))
	if !slices.EqualFunc(again, tight, same) || !slices.EqualFunc(againAll, tightAll, bytes.Equal) {
		t.Error("a later answer hangs on an earlier one")
	}
}

// P2, and rule 4: new heaps share nothing with each other.
func TestNewIsNew(t *testing.T) {
	one, _ := New(2)
	two, _ := New(2)
	scrub(one)
	three, _ := New(2)
	want := api.Heap{Bytes: make([]byte, 128), Dirty: make([]bool, 2)}
	if !same(two, want) || !same(three, want) {
		t.Error(two, three)
	}
}

// Rule 4: what is stored, and what is heard, may be the heap's own bytes.
func TestOwnBytes(t *testing.T) {
	h := filled(2, api.Block{At: 0, Len: 128})
	got, e := Store(h, 0, h.Bytes[1:65])
	if !bytes.Equal(got.Bytes[:64], count(128)[1:65]) || !bytes.Equal(h.Bytes, count(128)) || e != api.OK {
		t.Error(got, e)
	}
	got, e = Hear(h, 1, h.Bytes[30:94])
	if !bytes.Equal(got.Bytes[64:], count(128)[30:94]) || !bytes.Equal(h.Bytes, count(128)) || e != api.OK {
		t.Error(got, e)
	}
}
