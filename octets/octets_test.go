package octets

import (
	"bytes"
	"encoding/hex"
	"math"
	"reflect"
	"strings"
	"testing"

	"caravel/api"
)

// P1.1: what Put answers.
func TestPut(t *testing.T) {
	for _, c := range []struct {
		n    uint64
		size int
		b    string
		e    api.Errno
	}{
		{300, 2, "\x01\x2c", api.OK},
		{300, 4, "\x00\x00\x01\x2c", api.OK},
		{0, 1, "\x00", api.OK},
		{0, 8, "\x00\x00\x00\x00\x00\x00\x00\x00", api.OK},
		{0x0102030405060708, 8, "\x01\x02\x03\x04\x05\x06\x07\x08", api.OK},
		{0x010203, 3, "\x01\x02\x03", api.OK},
		{math.MaxUint64, 8, "\xff\xff\xff\xff\xff\xff\xff\xff", api.OK},
		{256, 1, "", api.ErrLong},
		{math.MaxUint64, 7, "", api.ErrLong},
		{1, 0, "", api.ErrArg},
		{1, 9, "", api.ErrArg},
		{1, -1, "", api.ErrArg},
		{1, math.MaxInt, "", api.ErrArg},
		{1, math.MinInt, "", api.ErrArg},
		// A size that may not be is told ahead of a number that is too long.
		{math.MaxUint64, 0, "", api.ErrArg},
		{math.MaxUint64, -1, "", api.ErrArg},
	} {
		b, e := Put(c.n, c.size)
		if string(b) != c.b || e != c.e {
			t.Errorf("Put(%d, %d) = %x, %d; want %x, %d", c.n, c.size, b, e, c.b, c.e)
		}
	}
}

// P1.1: the greatest number that so many bytes hold, and the one behind it.
func TestPutGreatest(t *testing.T) {
	for size := 1; size < 8; size++ {
		most := uint64(1)<<(8*size) - 1
		if b, e := Put(most, size); !bytes.Equal(b, bytes.Repeat([]byte{255}, size)) || e != api.OK {
			t.Errorf("Put(%d, %d) = %x, %d", most, size, b, e)
		}
		if b, e := Put(most+1, size); len(b) != 0 || e != api.ErrLong {
			t.Errorf("Put(%d, %d) = %x, %d", most+1, size, b, e)
		}
	}
}

// P1.1: what Get answers.
func TestGet(t *testing.T) {
	for _, c := range []struct {
		b string
		n uint64
		e api.Errno
	}{
		{"", 0, api.OK},
		{"\x01\x2c", 300, api.OK},
		{"\x00\x00\x01\x2c", 300, api.OK},
		{"\x01\x02\x03\x04\x05\x06\x07\x08", 0x0102030405060708, api.OK},
		{"\xff\xff\xff\xff\xff\xff\xff\xff", math.MaxUint64, api.OK},
		{"\x80\x00\x00\x00\x00\x00\x00\x00", 1 << 63, api.OK},
		{"\x00\x00\x00\x00\x00\x00\x00\x00\x00", 0, api.ErrLong},
		{"\x00\x00\x00\x00\x00\x00\x00\x00\x01", 0, api.ErrLong},
		{strings.Repeat("a", 1000), 0, api.ErrLong},
	} {
		n, e := Get([]byte(c.b))
		if n != c.n || e != c.e {
			t.Errorf("Get(%x) = %d, %d; want %d, %d", c.b, n, e, c.n, c.e)
		}
	}
	if n, e := Get(nil); n != 0 || e != api.OK {
		t.Errorf("Get(nil) = %d, %d", n, e)
	}
}

// told is parts with a bar between each two, so that empty ones are seen.
func told(parts [][]byte) string {
	return string(bytes.Join(parts, []byte("|")))
}

// P1.2: what Split answers.
func TestSplit(t *testing.T) {
	for _, c := range []struct {
		b     string
		sizes []int
		parts string
		count int
		e     api.Errno
	}{
		{"abcde", []int{1, 2}, "a|bc|de", 3, api.OK},
		{"abcde", nil, "abcde", 1, api.OK},
		{"", nil, "", 1, api.OK},
		{"", []int{0}, "|", 2, api.OK},
		{"abcde", []int{5}, "abcde|", 2, api.OK},
		{"abcde", []int{2, 3}, "ab|cde|", 3, api.OK},
		{"abcde", []int{0, 2, 0, 3, 0}, "|ab||cde||", 6, api.OK},
		{"abcde", []int{6}, "", 0, api.ErrCut},
		{"abcde", []int{2, 4}, "", 0, api.ErrCut},
		{"", []int{1}, "", 0, api.ErrCut},
		{"abcde", []int{math.MaxInt}, "", 0, api.ErrCut},
		{"abcde", []int{1, math.MaxInt, math.MaxInt}, "", 0, api.ErrCut},
		{"abcde", []int{-1}, "", 0, api.ErrArg},
		{"abcde", []int{math.MinInt}, "", 0, api.ErrArg},
		{"abcde", []int{2, -2}, "", 0, api.ErrArg},
		// The first size that has an error decides.
		{"abcde", []int{6, -1}, "", 0, api.ErrCut},
		{"abcde", []int{-1, 6}, "", 0, api.ErrArg},
		{"abcde", []int{1, -1, 6}, "", 0, api.ErrArg},
	} {
		parts, e := Split([]byte(c.b), c.sizes...)
		if told(parts) != c.parts || len(parts) != c.count || e != c.e {
			t.Errorf("Split(%q, %v) = %q, %d; want %q, %d", c.b, c.sizes, parts, e, c.parts, c.e)
		}
	}
	if parts, e := Split(nil); len(parts) != 1 || len(parts[0]) != 0 || e != api.OK {
		t.Errorf("Split(nil) = %q, %d", parts, e)
	}
}

// every is each byte once.
func every() []byte {
	b := make([]byte, 256)
	for i := range b {
		b[i] = byte(i)
	}
	return b
}

// P1.3: what Hex answers.
func TestHex(t *testing.T) {
	for _, c := range []struct{ b, s string }{
		{"", ""}, {"\x01\x2c", "012c"}, {"\x00", "00"}, {"\xff", "ff"}, {"\xab\xcd\xef", "abcdef"}, {"\x0f\xf0", "0ff0"},
	} {
		if s := Hex([]byte(c.b)); s != c.s {
			t.Errorf("Hex(%q) = %q; want %q", c.b, s, c.s)
		}
	}
	if s := Hex(nil); s != "" {
		t.Errorf("Hex(nil) = %q", s)
	}
	if s, want := Hex(every()), hex.EncodeToString(every()); s != want {
		t.Errorf("Hex of each byte = %q; want %q", s, want)
	}
}

// P1.3: what Unhex answers.
func TestUnhex(t *testing.T) {
	for _, c := range []struct {
		s, b string
		e    api.Errno
	}{
		{"", "", api.OK},
		{"012c", "\x01\x2c", api.OK},
		{"00ff", "\x00\xff", api.OK},
		{"0123456789abcdef", "\x01\x23\x45\x67\x89\xab\xcd\xef", api.OK},
		{"0", "", api.ErrCut},
		{"012", "", api.ErrCut},
		{"0g", "", api.ErrForm},
		{"g0", "", api.ErrForm},
		{"0A", "", api.ErrForm},
		{" 0", "", api.ErrForm},
		{"0x00", "", api.ErrForm},
		{"-1", "", api.ErrForm},
		{"é1", "", api.ErrForm},
		{"é", "", api.ErrForm},
		{"٣٣", "", api.ErrForm},
		{"00\n", "", api.ErrForm},
		{"0\xff", "", api.ErrForm},
		{"00\x00\x00", "", api.ErrForm},
		// What is no digit is told ahead of an odd number.
		{"g", "", api.ErrForm},
		{"00g", "", api.ErrForm},
		{"é00", "", api.ErrForm},
	} {
		b, e := Unhex(c.s)
		if string(b) != c.b || e != c.e {
			t.Errorf("Unhex(%q) = %x, %d; want %x, %d", c.s, b, e, c.b, c.e)
		}
	}
}

// P1.3: no rune but the sixteen is a digit, at either place.
func TestUnhexEachRune(t *testing.T) {
	for r := rune(0); r <= 0x10ffff; r++ {
		worth := strings.IndexRune("0123456789abcdef", r)
		for _, c := range []struct {
			s    string
			want int
		}{{string(r) + "0", worth << 4}, {"0" + string(r), worth}} {
			b, e := Unhex(c.s)
			if worth < 0 && (len(b) != 0 || e != api.ErrForm) {
				t.Fatalf("Unhex(%q) = %x, %d", c.s, b, e)
			}
			if worth >= 0 && (e != api.OK || len(b) != 1 || int(b[0]) != c.want) {
				t.Fatalf("Unhex(%q) = %x, %d", c.s, b, e)
			}
		}
	}
}

// P1.4: what is put is got, in each size that takes it.
func TestPutIsGot(t *testing.T) {
	for shift := range 64 {
		for _, n := range []uint64{1 << shift, 1<<shift - 1, 1<<shift | 1, 0x0123456789abcdef >> shift} {
			for size := 1; size <= 8; size++ {
				b, e := Put(n, size)
				if fits := size == 8 || n>>(8*size) == 0; fits != (e == api.OK) {
					t.Fatalf("Put(%d, %d): %d", n, size, e)
				}
				if e != api.OK {
					continue
				}
				if got, e := Get(b); len(b) != size || got != n || e != api.OK {
					t.Fatalf("Get(Put(%d, %d)) = %d, %d", n, size, got, e)
				}
			}
		}
	}
}

// P1.4: what is split is there, part by part.
func TestSplitIsThere(t *testing.T) {
	b := every()
	for i := 0; i <= 256; i += 5 {
		for j := 0; i+j <= 256; j += 7 {
			parts, e := Split(b, i, j)
			want := [][]byte{b[:i], b[i : i+j], b[i+j:]}
			if e != api.OK || len(parts) != 3 {
				t.Fatalf("Split by %d, %d: %d parts, %d", i, j, len(parts), e)
			}
			for k := range want {
				if !bytes.Equal(parts[k], want[k]) {
					t.Fatalf("Split by %d, %d: part %d is %x", i, j, k, parts[k])
				}
			}
		}
	}
}

// P1.4: what is written is read, and what is read is written.
func TestWrittenIsRead(t *testing.T) {
	for i := 0; i <= 256; i++ {
		for _, b := range [][]byte{every()[:i], every()[i:]} {
			got, e := Unhex(Hex(b))
			if !bytes.Equal(got, b) || e != api.OK {
				t.Fatalf("Unhex(Hex(%x)) = %x, %d", b, got, e)
			}
		}
	}
	for _, s := range []string{"", "00", "deadbeef", "0123456789abcdef"} {
		if b, e := Unhex(s); Hex(b) != s || e != api.OK {
			t.Errorf("Hex(Unhex(%q)) = %q, %d", s, Hex(b), e)
		}
	}
}

// P1: no argument makes a call panic, or go on for ever.
func TestNoPanic(t *testing.T) {
	ints := []int{math.MinInt, math.MinInt + 1, -9, -1, 0, 1, 7, 8, 9, 64, math.MaxInt - 1, math.MaxInt}
	lists := [][]byte{nil, {}, {0}, every(), make([]byte, 1<<20)}
	for _, i := range ints {
		for _, n := range []uint64{0, 1, 255, 256, 1 << 63, math.MaxUint64} {
			Put(n, i)
		}
		for _, j := range ints {
			for _, b := range lists {
				Split(b, i, j)
			}
		}
	}
	for _, b := range lists {
		Get(b)
		Hex(b)
		Unhex(string(b))
		Split(b, nil...)
		Split(b, make([]int, 10000)...)
	}
}

// P2: what is called again answers the same, whatever was called meanwhile.
func TestSameAgain(t *testing.T) {
	all := func() []any {
		put, e1 := Put(300, 2)
		_, e2 := Put(256, 1)
		n, e3 := Get([]byte{1, 44})
		parts, e4 := Split([]byte("abcde"), 1, 2)
		b, e5 := Unhex("012c")
		_, e6 := Unhex("0")
		return []any{put, e1, e2, n, e3, parts, e4, Hex([]byte{1, 44}), b, e5, e6}
	}
	if first, again := all(), all(); !reflect.DeepEqual(first, again) {
		t.Errorf("%v, then %v", first, again)
	}
}

// P2, and rules 3 and 4: what is handed in stays, and what is answered shares no memory with it, nor with another part.
func TestNothingShared(t *testing.T) {
	handed := every()
	sizes := []int{3, 0, 100}
	parts, e := Split(handed, sizes...)
	if e != api.OK {
		t.Fatal(e)
	}
	if !bytes.Equal(handed, every()) || !reflect.DeepEqual(sizes, []int{3, 0, 100}) {
		t.Error("Split changed what it was handed")
	}
	clear(handed)
	want := [][]byte{every()[:3], {}, every()[3:103], every()[103:]}
	for i, p := range parts {
		if !bytes.Equal(p, want[i]) {
			t.Errorf("part %d hangs on what was handed in: %x", i, p)
		}
		// What is written behind a part must not reach the next one.
		_ = append(p, 1, 2, 3)
		clear(p)
		for j := i + 1; j < len(parts); j++ {
			if !bytes.Equal(parts[j], want[j]) {
				t.Errorf("parts %d and %d share memory", i, j)
			}
		}
	}
	whole := every()
	if parts, _ := Split(whole); !bytes.Equal(parts[0], whole) {
		t.Error(parts)
	} else if clear(parts[0]); !bytes.Equal(whole, every()) {
		t.Error("the rest shares memory with what was handed in")
	}
}

// P2, and rule 4: what lies behind a list's length is neither read nor written.
func TestBehindTheLength(t *testing.T) {
	room := every()
	short := room[:2]
	if n, e := Get(short); n != 1 || e != api.OK {
		t.Error(n, e)
	}
	if s := Hex(short); s != "0001" {
		t.Error(s)
	}
	if parts, e := Split(short, 1); told(parts) != "\x00|\x01" || e != api.OK {
		t.Error(parts, e)
	}
	if parts, e := Split(short, 3); len(parts) != 0 || e != api.ErrCut {
		t.Error(parts, e)
	}
	if !bytes.Equal(room, every()) {
		t.Error("what lies behind the length was written")
	}
}

// P2: a list that was answered is not kept: to write to it turns no later answer.
func TestAnswersAreNew(t *testing.T) {
	put, _ := Put(300, 2)
	read, _ := Unhex("012c")
	clear(put)
	clear(read)
	if b, _ := Put(300, 2); !bytes.Equal(b, []byte{1, 44}) {
		t.Error(b)
	}
	if b, _ := Unhex("012c"); !bytes.Equal(b, []byte{1, 44}) {
		t.Error(b)
	}
}
