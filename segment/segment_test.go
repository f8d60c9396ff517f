package segment

import (
	"bytes"
	"encoding/hex"
	"math/rand"
	"reflect"
	"strings"
	"testing"

	"caravel/api"
)

// Hosts of which no two bytes are alike, so that each byte's place is seen.
var (
	ipA = api.IP{0x0a, 0x31, 0x32, 0x33}
	ipB = api.IP{0x0b, 0x41, 0x42, 0x43}
	top = api.IP{255, 255, 255, 255}
)

// count is so many bytes of which no two near each other are alike.
func count(n int) []byte {
	b := make([]byte, n)
	for i := range b {
		b[i] = byte(i + i/256*7)
	}
	return b
}

// unhex is the bytes of a text to the base 16, in which spaces may stand.
func unhex(t *testing.T, s string) []byte {
	t.Helper()
	b, err := hex.DecodeString(strings.ReplaceAll(s, " ", ""))
	if err != nil {
		t.Fatal(err)
	}
	return b
}

// plainSum is the check sum of bytes, by a way of its own: one division.
func plainSum(b []byte) int {
	sum := 0
	for i, c := range b {
		if i%2 == 0 {
			sum += 256 * int(c)
		} else {
			sum += int(c)
		}
	}
	if sum > 0 && sum%65535 == 0 {
		return 0
	}
	return 65535 - sum%65535
}

// put is bytes with a number in two of them, the higher one first.
func put(b []byte, at, n int) []byte {
	b = bytes.Clone(b)
	b[at], b[at+1] = byte(n/256), byte(n%256)
	return b
}

// summed is a segment's bytes with the right sum.
func summed(b []byte, src, dst api.IP) []byte {
	b = put(b, 16, 0)
	ahead := []byte{src[0], src[1], src[2], src[3], dst[0], dst[1], dst[2], dst[3], 0, 6, byte(len(b) / 256), byte(len(b) % 256)}
	return put(b, 16, plainSum(append(ahead, b...)))
}

// plain is a segment's bytes by the document's words, one by one.
func plain(s api.Segment, src, dst api.IP) []byte {
	b := put(put(make([]byte, 20), 0, int(s.Src)), 2, int(s.Dst))
	b = put(put(b, 4, int(s.Seq/65536)), 6, int(s.Seq%65536))
	b = put(put(b, 8, int(s.Ack/65536)), 10, int(s.Ack%65536))
	b[12], b[13] = 16*5, s.Flags
	b = put(b, 14, int(s.Wnd))
	if s.MSS != 0 {
		b[12] = 16 * 6
		b = append(b, 2, 4, byte(s.MSS/256), byte(s.MSS%256))
	}
	return summed(append(b, s.Data...), src, dst)
}

// alike tells whether two segments have the same fields, Data that is nil like Data without bytes.
func alike(a, b api.Segment) bool {
	a.Data = append([]byte{}, a.Data...)
	b.Data = append([]byte{}, b.Data...)
	return reflect.DeepEqual(a, b)
}

// none tells whether a segment is the zero one.
func none(s api.Segment) bool {
	return alike(s, api.Segment{})
}

// some is a segment of whose head no two bytes are alike, with data.
func some(data []byte) api.Segment {
	return api.Segment{Src: 0x0102, Dst: 0x0304, Seq: 0x05060708, Ack: 0x090a0b0c, Flags: api.PSH | api.ACK, Wnd: 0x0d0e, Data: data}
}

// segments are such that may be built, of many numbers and data.
func segments() []api.Segment {
	var list []api.Segment
	datas := [][]byte{nil, {}, {0}, {255}, {0, 0}, {255, 255}, []byte("abc"), make([]byte, 156), bytes.Repeat([]byte{255}, 155), bytes.Repeat([]byte{255}, 156)}
	for _, n := range []int{4, 63, 64, 65, 127, 128, 155, 156} {
		datas = append(datas, count(n))
	}
	words := []uint16{0, 1, 80, 255, 256, 32767, 32768, 65534, 65535}
	longs := []uint32{0, 1, 255, 65535, 65536, 0x01020304, 1<<31 - 1, 1 << 31, 1<<32 - 1}
	for i, data := range datas {
		for j := range words {
			for f := range 32 {
				at := func(more int) int { return (i + j + f + more) % len(words) }
				s := api.Segment{Src: words[at(0)], Dst: words[at(j)], Seq: longs[at(2*j)], Ack: longs[at(3*j+1)], Flags: byte(f), Wnd: words[at(5*j)], Data: data}
				if s.Flags&api.SYN != 0 {
					s.MSS = words[at(7*j)]
				}
				list = append(list, s)
			}
		}
	}
	return list
}

// withOptions is a segment's bytes with these options behind the twenty bytes, filled up with filler to whole groups, and data behind them.
func withOptions(flags byte, options, data []byte, fill byte) []byte {
	options = bytes.Clone(options)
	for len(options)%4 != 0 {
		options = append(options, fill)
	}
	b := count(20)
	b[12], b[13] = byte(16*(5+len(options)/4)), flags
	return summed(append(append(b, options...), data...), ipA, ipB)
}

// The chapter's example.
func TestExample(t *testing.T) {
	s := api.Segment{Flags: api.SYN, MSS: 64}
	if b, e := Build(s, ipA, ipB); len(b) != 24 || e != api.OK {
		t.Error(b, e)
	}
	if text := Flags(s.Flags); text != "S" {
		t.Error(text)
	}
	if text := Flags(s.Flags | api.ACK); text != "SA" {
		t.Error(text)
	}
}

// P9.1: what Build answers, byte by byte.
func TestBuild(t *testing.T) {
	zero := api.IP{}
	for _, c := range []struct {
		s        api.Segment
		src, dst api.IP
		text     string
	}{
		{api.Segment{}, zero, zero, "0000 0000 00000000 00000000 50 00 0000 afe5 0000"},
		{api.Segment{Src: 0x0102, Dst: 0x0304, Seq: 0x05060708, Ack: 0x090a0b0c, Flags: 18, Wnd: 0x0d0e}, ipA, ipB, "0102 0304 05060708 090a0b0c 50 12 0d0e f4b2 0000"},
		{api.Segment{Src: 0x0102, Dst: 0x0304, Seq: 0x05060708, Flags: 2, Wnd: 256, MSS: 64}, ipA, ipB, "0102 0304 05060708 00000000 60 02 0100 029f 0000 0204 0040"},
		{some([]byte("abc")), ipA, ipB, "0102 0304 05060708 090a0b0c 50 18 0d0e 3047 0000 616263"},
		{api.Segment{Dst: 80, Seq: 100, Flags: 2, Wnd: 256, MSS: 64}, api.IP{10, 0, 0, 1}, api.IP{10, 0, 0, 2}, "0000 0050 00000064 00000000 60 02 0100 87e4 0000 0204 0040"},
		{api.Segment{Src: 65535, Dst: 65535, Seq: 1<<32 - 1, Ack: 1<<32 - 1, Flags: 31, Wnd: 65535, MSS: 65535, Data: []byte{255, 255}}, top, top, "ffff ffff ffffffff ffffffff 60 1f ffff 9dbc 0000 0204 ffff ffff"},
		// A sum of 0 is left as it is.
		{api.Segment{Src: 0xafe5}, zero, zero, "afe5 0000 00000000 00000000 50 00 0000 0000 0000"},
	} {
		b, e := Build(c.s, c.src, c.dst)
		if want := unhex(t, c.text); !bytes.Equal(b, want) || e != api.OK {
			t.Errorf("Build(%#v, %v, %v) = %x, %d; want %x", c.s, c.src, c.dst, b, e, want)
		}
	}
}

// P9.1: of many segments, and from and to other hosts.
func TestBuildMany(t *testing.T) {
	for _, s := range segments() {
		for _, ips := range [][2]api.IP{{ipA, ipB}, {ipB, ipA}, {}, {top, top}} {
			b, e := Build(s, ips[0], ips[1])
			if want := plain(s, ips[0], ips[1]); !bytes.Equal(b, want) || e != api.OK {
				t.Fatalf("Build(%v, %v) = %x, %d; want %x", s, ips, b, e, want)
			}
		}
	}
}

// P9.1: each number that a port, a window or MSS may be, and each half of a number of four bytes.
func TestBuildEachNumber(t *testing.T) {
	for n := range 65536 {
		w := uint16(n)
		for _, s := range []api.Segment{{Src: w}, {Dst: w}, {Wnd: w}, {Flags: api.SYN, MSS: w}, {Seq: uint32(w)}, {Seq: uint32(w) << 16}, {Ack: uint32(w)}, {Ack: uint32(w) << 16}} {
			b, e := Build(s, ipA, ipB)
			if want := plain(s, ipA, ipB); !bytes.Equal(b, want) || e != api.OK {
				t.Fatalf("Build(%v) = %x, %d; want %x", s, b, e, want)
			}
		}
	}
}

// P9.1: 156 bytes of data may be, and none more, whether or not MSS is told.
func TestBuildLong(t *testing.T) {
	for n := range 1100 {
		for _, s := range []api.Segment{some(count(n)), {Flags: api.SYN, Data: count(n)}, {Flags: api.SYN, MSS: 64, Data: count(n)}} {
			b, e := Build(s, ipA, ipB)
			if n <= 156 && (!bytes.Equal(b, plain(s, ipA, ipB)) || e != api.OK) {
				t.Fatalf("%d bytes: %x, %d", n, b, e)
			}
			if n > 156 && (len(b) != 0 || e != api.ErrLong) {
				t.Fatalf("%d bytes: %x, %d", n, b, e)
			}
		}
	}
}

// P9.1: of all flags those up to 31 may be, and MSS only with SYN; data that is too long is told ahead of that.
func TestBuildArg(t *testing.T) {
	for f := range 256 {
		for _, mss := range []uint16{0, 1, 64, 65535} {
			s := api.Segment{Flags: byte(f), MSS: mss, Data: count(156)}
			right := f < 32 && (mss == 0 || f/2%2 == 1)
			b, e := Build(s, ipA, ipB)
			if right && (!bytes.Equal(b, plain(s, ipA, ipB)) || e != api.OK) || !right && (len(b) != 0 || e != api.ErrArg) {
				t.Errorf("flags %d, MSS %d: %x, %d", f, mss, b, e)
			}
			s.Data = count(157)
			if b, e := Build(s, ipA, ipB); len(b) != 0 || e != api.ErrLong {
				t.Errorf("flags %d, MSS %d, too long: %x, %d", f, mss, b, e)
			}
		}
	}
}

// P9.2: what Open answers of bytes.
func TestOpen(t *testing.T) {
	for _, c := range []struct {
		name, text string
		s          api.Segment
		e          api.Errno
	}{
		{"no data", "0102 0304 05060708 090a0b0c 50 12 0d0e f4b2 0000", api.Segment{Src: 0x0102, Dst: 0x0304, Seq: 0x05060708, Ack: 0x090a0b0c, Flags: 18, Wnd: 0x0d0e}, api.OK},
		{"MSS", "0102 0304 05060708 00000000 60 02 0100 029f 0000 0204 0040", api.Segment{Src: 0x0102, Dst: 0x0304, Seq: 0x05060708, Flags: 2, Wnd: 256, MSS: 64}, api.OK},
		{"data", "0102 0304 05060708 090a0b0c 50 18 0d0e 3047 0000 616263", some([]byte("abc")), api.OK},
		{"nothing", "", api.Segment{}, api.ErrCut},
		{"one byte", "01", api.Segment{}, api.ErrCut},
		{"nineteen bytes", "0102 0304 05060708 090a0b0c 50 12 0d0e f4b2 00", api.Segment{}, api.ErrCut},
		{"a head of sixteen", "0102 0304 05060708 090a0b0c 40 12 0d0e 04b3 0000", api.Segment{}, api.ErrForm},
		{"no head", "0102 0304 05060708 090a0b0c 00 12 0d0e 44b3 0000", api.Segment{}, api.ErrForm},
		{"a head that is cut", "0102 0304 05060708 090a0b0c 60 12 0d0e e4b2 0000", api.Segment{}, api.ErrCut},
		{"a head that is cut by one", "0102 0304 05060708 00000000 60 02 0100 02df 0000 0204 00", api.Segment{}, api.ErrCut},
		{"the longest head, cut", "0102 0304 05060708 090a0b0c f0 12 0d0e 54b2 0000", api.Segment{}, api.ErrCut},
		{"a wrong sum", "0102 0304 05060708 090a0b0c 50 12 0d0e f4b1 0000", api.Segment{}, api.ErrSum},
		{"no sum", "0102 0304 05060708 090a0b0c 50 12 0d0e 0000 0000", api.Segment{}, api.ErrSum},
		{"a byte more", "0102 0304 05060708 090a0b0c 50 12 0d0e f4b2 0000 00", api.Segment{}, api.ErrSum},
		{"all nought", strings.Repeat("00", 20), api.Segment{}, api.ErrForm},
	} {
		s, e := Open(unhex(t, c.text), ipA, ipB)
		if !alike(s, c.s) || e != c.e {
			t.Errorf("%s: %#v, %d; want %#v, %d", c.name, s, e, c.s, c.e)
		}
	}
}

// P9.2: each length of the head against all that is there, with a right sum and with a wrong one.
func TestOpenHead(t *testing.T) {
	for groups := range 16 {
		head := 4 * groups
		for size := range 90 {
			b := bytes.Repeat([]byte{1}, size)
			if size >= 20 {
				b[12] = byte(16*groups + 15)
				b = summed(b, ipA, ipB)
			}
			var want, wantTurned api.Errno
			switch {
			case size < 20:
				want, wantTurned = api.ErrCut, api.ErrCut
			case head < 20:
				want, wantTurned = api.ErrForm, api.ErrForm
			case head > size:
				want, wantTurned = api.ErrCut, api.ErrCut
			default:
				want, wantTurned = api.OK, api.ErrSum
			}
			s, e := Open(b, ipA, ipB)
			if e != want || e != api.OK && !none(s) || e == api.OK && !bytes.Equal(s.Data, b[head:]) {
				t.Fatalf("head %d of %d: %v, %d; want %d", head, size, s, e, want)
			}
			if size > 0 {
				b[size-1] ^= 255
			}
			if s, e := Open(b, ipA, ipB); !none(s) || e != wantTurned {
				t.Fatalf("head %d of %d, turned: %v, %d; want %d", head, size, s, e, wantTurned)
			}
		}
	}
}

// P9.2: 1000 bytes in all may be, and none more.
func TestOpenLong(t *testing.T) {
	for _, n := range []int{200, 201, 255, 256, 257, 512, 999, 1000, 1001, 1002, 1500, 65535, 65536, 70000} {
		b := count(n)
		b[12] = 16 * 5
		b = summed(b, ipA, ipB)
		s, e := Open(b, ipA, ipB)
		if n <= 1000 && (!bytes.Equal(s.Data, b[20:]) || e != api.OK) || n > 1000 && (!none(s) || e != api.ErrLong) {
			t.Errorf("%d bytes: %v, %d", n, s, e)
		}
	}
}

// P9.2: what is wrong in several ways is told in the chapter's order: cut, its head, cut, too long, its sum, its options.
func TestOpenOrder(t *testing.T) {
	build := func(n, head int, options ...byte) []byte {
		b := count(n)
		b[12] = byte(4 * head)
		copy(b[20:], options)
		return summed(b, ipA, ipB)
	}
	turned := func(b []byte) []byte {
		b[16] ^= 1
		return b
	}
	for _, c := range []struct {
		name string
		b    []byte
		e    api.Errno
	}{
		{"few bytes, a short head", make([]byte, 19), api.ErrCut},
		{"a short head, too long, a wrong sum", turned(build(1001, 16)), api.ErrForm},
		{"a short head, a wrong sum", turned(build(20, 16)), api.ErrForm},
		{"a head that is cut, a wrong sum, wrong options", turned(build(23, 24, 2, 3, 0)), api.ErrCut},
		{"a head that is cut, wrong options", build(23, 24, 2, 3, 0), api.ErrCut},
		{"too long, a wrong sum, wrong options", turned(build(1001, 24, 2, 3, 0, 0)), api.ErrLong},
		{"too long, wrong options", build(1001, 24, 2, 3, 0, 0), api.ErrLong},
		{"too long", build(1001, 20), api.ErrLong},
		{"a wrong sum, wrong options", turned(build(1000, 24, 2, 3, 0, 0)), api.ErrSum},
		{"wrong options", build(1000, 24, 2, 3, 0, 0), api.ErrForm},
		{"nothing wrong", build(1000, 24, 2, 4, 0, 0), api.OK},
	} {
		if s, e := Open(c.b, ipA, ipB); e != c.e || e != api.OK && !none(s) {
			t.Errorf("%s: %v, %d; want %d", c.name, s, e, c.e)
		}
	}
}

// P9.2: each byte of the head that tells something alone is told as it is; the lower half of the head's length, the upper three flags and the last two bytes don't matter.
func TestOpenEachByte(t *testing.T) {
	for i := range 20 {
		if i == 16 || i == 17 {
			continue
		}
		for v := range 256 {
			b := unhex(t, "0102 0304 05060708 090a0b0c 50 10 0d0e 0000 0000 616263")
			b[i] = byte(v)
			if i == 12 {
				b[i] = byte(16*5 + v%16)
			}
			b = summed(b, ipA, ipB)
			s, e := Open(b, ipA, ipB)
			want := api.Segment{
				Src: uint16(b[0])*256 + uint16(b[1]), Dst: uint16(b[2])*256 + uint16(b[3]),
				Seq:   uint32(b[4])<<24 + uint32(b[5])<<16 + uint32(b[6])<<8 + uint32(b[7]),
				Ack:   uint32(b[8])<<24 + uint32(b[9])<<16 + uint32(b[10])<<8 + uint32(b[11]),
				Flags: b[13] % 32, Wnd: uint16(b[14])*256 + uint16(b[15]), Data: []byte("abc"),
			}
			if !alike(s, want) || e != api.OK {
				t.Fatalf("byte %d is %d: %v, %d; want %v", i, v, s, e, want)
			}
		}
	}
}

// P9.2: each of the 65536 sums: the right one alone is taken, and 65535 where that is 0, as all are Right either way.
func TestOpenEachSum(t *testing.T) {
	for _, right := range [][]byte{
		summed(unhex(t, "0102 0304 05060708 090a0b0c 50 10 0d0e 0000 0000 616263"), ipA, ipB),
		plain(api.Segment{Wnd: 0x25fd}, ipA, ipB),
	} {
		sum := int(right[16])*256 + int(right[17])
		for n := range 65536 {
			s, e := Open(put(right, 16, n), ipA, ipB)
			if n == sum || sum == 0 && n == 65535 {
				if none(s) || e != api.OK {
					t.Errorf("sum %d is %d: %v, %d", sum, n, s, e)
				}
			} else if !none(s) || e != api.ErrSum {
				t.Fatalf("sum %d is %d: %v, %d", sum, n, s, e)
			}
		}
	}
	if b := plain(api.Segment{Wnd: 0x25fd}, ipA, ipB); b[16] != 0 || b[17] != 0 {
		t.Errorf("the second one's sum is not 0: %x", b)
	}
}

// P9.2: the protocol, and how many bytes there are, are among what the sum is of.
func TestOpenPseudo(t *testing.T) {
	right := plain(some([]byte("abc")), ipA, ipB)
	sum := int(right[16])*256 + int(right[17])
	for _, without := range []int{6, len(right), 6 + len(right)} {
		if s, e := Open(put(right, 16, (sum+without)%65535), ipA, ipB); !none(s) || e != api.ErrSum {
			t.Errorf("a sum without %d: %v, %d", without, s, e)
		}
	}
	for _, other := range []int{1, 17, 255} {
		if s, e := Open(put(right, 16, (sum+6-other+65535)%65535), ipA, ipB); !none(s) || e != api.ErrSum {
			t.Errorf("the sum of protocol %d: %v, %d", other, s, e)
		}
	}
}

// P9.2: which options are such, and what they tell; behind the last one nothing matters.
func TestOpenOptions(t *testing.T) {
	for _, c := range []struct {
		name, text string
		mss        uint16
		e          api.Errno
	}{
		{"none", "", 0, api.OK},
		{"MSS", "02040040", 64, api.OK},
		{"MSS, both bytes", "02041234", 0x1234, api.OK},
		{"MSS of 0", "02040000", 0, api.OK},
		{"MSS of 65535", "0204ffff", 65535, api.OK},
		{"MSS twice", "02040040 02040100", 256, api.OK},
		{"MSS, and of 0", "02040040 02040000", 0, api.OK},
		{"MSS of 0, and another one", "02040000 02040040", 64, api.OK},
		{"MSS three times, others between", "02040001 0303aa 02040002 01 02040003", 3, api.OK},
		{"the last one", "00000000", 0, api.OK},
		{"the last one at the end", "01010100", 0, api.OK},
		{"the last one, what is none behind it", "00020300", 0, api.OK},
		{"the last one, MSS behind it", "00020400 40000000", 0, api.OK},
		{"the last one, another group of MSS behind it", "00000000 02040040", 0, api.OK},
		{"MSS, the last one, another MSS", "02040040 00020401 00000000", 64, api.OK},
		{"MSS, the last one, what is none", "02040040 00ff0000", 64, api.OK},
		{"MSS, the last one, 255s", "02040040 00ffffff", 64, api.OK},
		{"passed over", "01010101", 0, api.OK},
		{"passed over, MSS", "01010101 02040040", 64, api.OK},
		{"passed over by one, MSS", "01020400 40010101", 64, api.OK},
		{"passed over by three, MSS", "01010102 04004000", 64, api.OK},
		{"another one of two", "04020101", 0, api.OK},
		{"another one of two, twice", "04020502", 0, api.OK},
		{"another one of three", "0303ff01", 0, api.OK},
		{"another one of four", "ff04ffff", 0, api.OK},
		{"another one of four, MSS", "05040000 02040040", 64, api.OK},
		{"another one that bears what looks like MSS", "fe080204 01000000", 0, api.OK},
		{"another one that bears what looks like the last one", "fe050000 00020400 40010101", 64, api.OK},
		{"another one that bears what is none", "fe060200 ff010204 00400101", 64, api.OK},
		{"another one of all forty bytes", "0828" + strings.Repeat("02", 38), 0, api.OK},
		{"another one of thirty-six bytes, MSS", "0824" + strings.Repeat("ff", 34) + "02040040", 64, api.OK},
		{"MSS ten times", strings.Repeat("02040001", 9) + "0204abcd", 0xabcd, api.OK},
		{"one without a length", "01010103", 0, api.ErrForm},
		{"one of 255 without a length", "010101ff", 0, api.ErrForm},
		{"MSS without a length", "01010102", 0, api.ErrForm},
		{"MSS, one without a length", "02040040 01010103", 0, api.ErrForm},
		{"a length of 0", "03000000", 0, api.ErrForm},
		{"a length of 1", "03010000", 0, api.ErrForm},
		{"a length of 0 at the end", "01010300", 0, api.ErrForm},
		{"a length of 1 at the end", "01010301", 0, api.ErrForm},
		{"MSS with a length of 0", "02000000", 0, api.ErrForm},
		{"MSS with a length of 1", "02010000", 0, api.ErrForm},
		{"MSS with a length of 2", "02020101", 0, api.ErrForm},
		{"MSS with a length of 3", "02034001", 0, api.ErrForm},
		{"MSS with a length of 5", "02050040 00010101", 0, api.ErrForm},
		{"MSS with a length of 8", "02080040 01010101", 0, api.ErrForm},
		{"MSS with a length of 255", "02ff0040", 0, api.ErrForm},
		{"MSS, then one of another length", "02040040 02030001", 0, api.ErrForm},
		{"MSS of another length, then a right one", "02030001 02040040", 0, api.ErrForm},
		{"MSS that ends behind the head", "01020400", 0, api.ErrForm},
		{"MSS that ends two behind the head", "01010204", 0, api.ErrForm},
		{"one that ends behind the head", "05050000", 0, api.ErrForm},
		{"one that ends one behind the head", "01040400", 0, api.ErrForm},
		{"one of two, one that ends behind the head", "04020503", 0, api.ErrForm},
		{"one that ends far behind the head", "04ff0000", 0, api.ErrForm},
		{"one of forty-one bytes", "0829" + strings.Repeat("01", 38), 0, api.ErrForm},
		{"MSS, one that ends behind the head", "02040040 05050000", 0, api.ErrForm},
	} {
		options := unhex(t, c.text)
		for f := range 256 {
			for _, data := range [][]byte{nil, []byte("abcdefgh"), {64, 4, 0, 64, 2, 4, 1, 1}} {
				b := withOptions(byte(f), options, data, 99)
				s, e := Open(b, ipA, ipB)
				want := api.Segment{}
				if c.e == api.OK {
					want = api.Segment{Src: 0x0001, Dst: 0x0203, Seq: 0x04050607, Ack: 0x08090a0b, Flags: byte(f % 32), Wnd: 0x0e0f, Data: data}
					if f/2%2 == 1 {
						want.MSS = c.mss
					}
				}
				if !alike(s, want) || e != c.e {
					t.Fatalf("%s, flags %d: %v, %d; want %v, %d", c.name, f, s, e, want, c.e)
				}
			}
		}
	}
}

// plainOptions is the MSS that options tell, and whether they are such, by the document's words, from the back: told holds what those from a place on tell, or -1 (nothing is told), or -2 (they are none).
func plainOptions(b []byte) (int, bool) {
	told := make([]int, len(b)+1)
	told[len(b)] = -1
	for i := len(b) - 1; i >= 0; i-- {
		switch {
		case b[i] == 0:
			told[i] = -1
		case b[i] == 1:
			told[i] = told[i+1]
		case i+1 == len(b) || b[i+1] < 2 || i+int(b[i+1]) > len(b) || b[i] == 2 && b[i+1] != 4:
			told[i] = -2
		case b[i] == 2 && told[i+4] == -1:
			told[i] = int(b[i+2])*256 + int(b[i+3])
		default:
			told[i] = told[i+int(b[i+1])]
		}
	}
	return max(told[0], 0), told[0] != -2
}

// P9.2: options of all kinds, as the document's words have them.
func TestOpenOptionsMany(t *testing.T) {
	check := func(options []byte) {
		t.Helper()
		mss, right := plainOptions(options)
		s, e := Open(withOptions(api.SYN, options, []byte{1, 2}, 0), ipA, ipB)
		if right && (s.MSS != uint16(mss) || len(s.Data) != 2 || e != api.OK) || !right && (!none(s) || e != api.ErrForm) {
			t.Fatalf("%x: %v, %d; want %d, %t", options, s, e, mss, right)
		}
	}
	kinds := []byte{0, 1, 2, 3, 4, 5, 8, 255}
	for n := range 8 * 8 * 8 * 8 {
		check([]byte{kinds[n/512], kinds[n/64%8], kinds[n/8%8], kinds[n%8]})
	}
	chance := rand.New(rand.NewSource(9))
	for range 200000 {
		options := make([]byte, 4*chance.Intn(11))
		for i := range options {
			options[i] = kinds[chance.Intn(len(kinds))]
			if i > 0 && options[i-1] == 2 && chance.Intn(4) > 0 {
				options[i] = 4
			}
		}
		check(options)
	}
}

// P9.3: how many numbers a segment takes: its bytes, and one each for SYN and FIN, whatever else is set.
func TestLen(t *testing.T) {
	for f := range 256 {
		for _, n := range []int{0, 1, 64, 156, 157, 1000, 70000} {
			want := n + f%2 + f/2%2
			if got := Len(api.Segment{Seq: 7, Ack: 8, Wnd: 9, MSS: 10, Flags: byte(f), Data: make([]byte, n)}); got != want {
				t.Errorf("Len with flags %d and %d bytes = %d; want %d", f, n, got, want)
			}
		}
	}
	if n := Len(api.Segment{}); n != 0 {
		t.Error(n)
	}
}

// written are the texts of the 32 flags, in their order.
func written() []string {
	return strings.Fields("- F S FS R FR SR FSR P FP SP FSP RP FRP SRP FSRP A FA SA FSA RA FRA SRA FSRA PA FPA SPA FSPA RPA FRPA SRPA FSRPA")
}

// P9.3: how each flags are written; the upper three bits don't matter.
func TestFlags(t *testing.T) {
	for f := range 256 {
		if got, want := Flags(byte(f)), written()[f%32]; got != want {
			t.Errorf("Flags(%d) = %q; want %q", f, got, want)
		}
	}
	for f, want := range map[byte]string{api.FIN: "F", api.SYN: "S", api.RST: "R", api.PSH: "P", api.ACK: "A", api.FIN | api.ACK: "FA", 0: "-", 224: "-", 255: "FSRPA"} {
		if got := Flags(f); got != want {
			t.Errorf("Flags(%d) = %q; want %q", f, got, want)
		}
	}
}

// P9.3: what is written is read.
func TestReadFlags(t *testing.T) {
	for f, s := range written() {
		if got, e := ReadFlags(s); got != byte(f) || e != api.OK {
			t.Errorf("ReadFlags(%q) = %d, %d; want %d", s, got, e, f)
		}
	}
}

// P9.3: of all texts of up to six letters those are read that are written so.
func TestReadFlagsAll(t *testing.T) {
	right := map[string]int{}
	for f, s := range written() {
		right[s] = f
	}
	read := 0
	var try func(s string)
	try = func(s string) {
		f, e := ReadFlags(s)
		want, ok := right[s]
		if ok && (f != byte(want) || e != api.OK) || !ok && (f != 0 || e != api.ErrForm) {
			t.Fatalf("ReadFlags(%q) = %d, %d", s, f, e)
		}
		if ok {
			read++
		}
		if len(s) < 6 {
			for _, c := range "FSRPA-s" {
				try(s + string(c))
			}
		}
	}
	try("")
	if read != 32 {
		t.Errorf("%d texts were read", read)
	}
}

// P9.3: what is no text of flags is refused.
func TestReadFlagsForm(t *testing.T) {
	for _, s := range []string{
		"", " ", "0", "2", "18", "f", "sa", "Sa", "SYN", "S,A", "S A", " S", "S ", "S\n", "S\x00", "\x00", "AS", "SS", "FF", "AA", "FSRPAF", "FSRPAA", "APRSF",
		"--", "-S", "S-", "-A", "FSRPA-", "U", "UA", "AU", "E", "C", "\xff", "S\xff", "S\xc3", "\u00c9", "\u0405", "\u0410", "\uff33", "S\u0301", "\ufffd", "\u2212", "\u2013", "_",
		// Runes whose lowest byte is a letter's.
		"\u0146", "\u0153A", strings.Repeat("S", 1<<16), strings.Repeat("-", 1<<16), strings.Repeat("FSRPA", 1000),
	} {
		if f, e := ReadFlags(s); f != 0 || e != api.ErrForm {
			t.Errorf("ReadFlags(%q) = %d, %d", s, f, e)
		}
	}
	for r := range rune(0x11000) {
		f, e := ReadFlags(string(r))
		if strings.ContainsRune("FSRPA-", r) != (e == api.OK) || e != api.OK && (f != 0 || e != api.ErrForm) {
			t.Errorf("ReadFlags(%q) = %d, %d", r, f, e)
		}
	}
}

// P9.4: what is built is opened, and built again as it was.
func TestBuiltIsOpened(t *testing.T) {
	for _, s := range segments() {
		for _, ips := range [][2]api.IP{{ipA, ipB}, {}, {top, top}} {
			b, e := Build(s, ips[0], ips[1])
			if e != api.OK {
				t.Fatal(s, e)
			}
			got, e := Open(b, ips[0], ips[1])
			if !alike(got, s) || e != api.OK {
				t.Fatalf("Open(%x) = %v, %d; want %v", b, got, e, s)
			}
			if again, e := Build(got, ips[0], ips[1]); !bytes.Equal(again, b) || e != api.OK {
				t.Fatalf("Build(%v) = %x, %d; want %x", got, again, e, b)
			}
		}
	}
}

// P9.4: what is built, but for its last bytes, is refused, if these aren't all 0.
func TestBuiltIsCut(t *testing.T) {
	for _, s := range []api.Segment{some(nil), some(bytes.Repeat([]byte("abc"), 52)), {Flags: api.SYN, MSS: 64, Data: []byte("abc")}} {
		b, _ := Build(s, ipA, ipB)
		for n := range b {
			if s, e := Open(b[:n], ipA, ipB); !none(s) || e != api.ErrCut && e != api.ErrSum {
				t.Fatalf("%d bytes of %x: %v, %d", n, b, s, e)
			}
		}
	}
}

// P9.4: of what is built no byte can be turned: the sum is wrong then, if the head's length isn't.
func TestOneByteTurned(t *testing.T) {
	for k, s := range segments() {
		if k%37 != 0 {
			continue
		}
		b, _ := Build(s, ipA, ipB)
		for i := range b {
			for turn := 1; turn < 256; turn++ {
				b[i] ^= byte(turn)
				want := api.ErrSum
				if i == 12 && b[i] < 16*5 {
					want = api.ErrForm
				}
				if i == 12 && int(b[i])/16*4 > len(b) {
					want = api.ErrCut
				}
				if got, e := Open(b, ipA, ipB); !none(got) || e != want {
					t.Fatalf("byte %d of %v turned to %d: %v, %d; want %d", i, s, b[i], got, e, want)
				}
				b[i] ^= byte(turn)
			}
		}
	}
}

// P9.4: what comes from another host, or goes to one, is refused, unless just the sum of both is the same.
func TestAnotherHost(t *testing.T) {
	b, _ := Build(some([]byte("abc")), ipA, ipB)
	for i := range 4 {
		for turn := 1; turn < 256; turn++ {
			src, dst := ipA, ipB
			src[i] ^= byte(turn)
			dst[i] ^= byte(turn)
			for _, ips := range [][2]api.IP{{src, ipB}, {ipA, dst}} {
				if s, e := Open(b, ips[0], ips[1]); !none(s) || e != api.ErrSum {
					t.Fatalf("%v: %v, %d", ips, s, e)
				}
			}
		}
	}
	for _, ips := range [][2]api.IP{{ipA, ipA}, {ipB, ipB}, {}, {top, top}, {ipA, {}}, {{}, ipB}, {{10, 0, 0, 1}, ipB}} {
		if s, e := Open(b, ips[0], ips[1]); !none(s) || e != api.ErrSum {
			t.Errorf("%v: %v, %d", ips, s, e)
		}
	}
	// P9.2 asks for nothing but that all are Right, and they are with words changed for each other (P2.3).
	if s, e := Open(b, ipB, ipA); !alike(s, some([]byte("abc"))) || e != api.OK {
		t.Errorf("the other way round: %v, %d", s, e)
	}
}

// P1: no argument makes a call panic, or go on for ever.
func TestNoPanic(t *testing.T) {
	for _, b := range [][]byte{nil, {}, {0x50}, count(19), make([]byte, 20), bytes.Repeat([]byte{255}, 60), make([]byte, 1<<22), bytes.Repeat([]byte{255}, 1<<18)} {
		Open(b, api.IP{}, top)
		s := api.Segment{Src: 65535, Seq: 1<<32 - 1, Flags: 255, MSS: 65535, Data: b}
		Build(s, api.IP{}, top)
		Len(s)
		ReadFlags(string(b))
	}
	chance := rand.New(rand.NewSource(1))
	for range 100000 {
		b := make([]byte, chance.Intn(100))
		chance.Read(b)
		if len(b) >= 20 && chance.Intn(4) > 0 {
			b[12] = byte(16 * (4 + chance.Intn(12)))
			b = summed(b, ipA, ipB)
		}
		if s, e := Open(b, ipA, ipB); e != api.OK && !none(s) {
			t.Fatalf("Open(%x) = %v, %d", b, s, e)
		}
		s := api.Segment{Flags: byte(chance.Uint32()), MSS: uint16(chance.Uint32()), Data: b}
		if b, e := Build(s, ipA, ipB); (len(b) == 0) == (e == api.OK) {
			t.Fatalf("Build(%v) = %x, %d", s, b, e)
		}
		Len(s)
		if f, e := ReadFlags(string(b)); e != api.OK && f != 0 {
			t.Fatalf("ReadFlags(%q) = %d, %d", b, f, e)
		}
	}
}

// P2: what is called again answers the same, whatever was called meanwhile.
func TestSameAgain(t *testing.T) {
	every := func() []any {
		b, e1 := Build(some([]byte("abc")), ipA, ipB)
		syn, e2 := Build(api.Segment{Flags: api.SYN, MSS: 64}, ipA, ipB)
		long, e3 := Build(some(make([]byte, 157)), ipA, ipB)
		arg, e4 := Build(api.Segment{MSS: 64}, ipA, ipB)
		s, e5 := Open(b, ipA, ipB)
		told, e6 := Open(syn, ipA, ipB)
		cut, e7 := Open(b[:19], ipA, ipB)
		sum, e8 := Open(b, ipA, ipA)
		form, e9 := Open(withOptions(api.SYN, []byte{2, 3, 0, 0}, nil, 0), ipA, ipB)
		f, e10 := ReadFlags("SA")
		no, e11 := ReadFlags("AS")
		return []any{b, e1, syn, e2, long, e3, arg, e4, s, e5, told, e6, cut, e7, sum, e8, form, e9, f, e10, no, e11, Len(s), Flags(18), Flags(0)}
	}
	if first, again := every(), every(); !reflect.DeepEqual(first, again) {
		t.Errorf("%v, then %v", first, again)
	}
}

// P2, and rules 3 and 4: what is handed in stays, and what is answered shares no memory with it, nor with another answer.
func TestNothingShared(t *testing.T) {
	handed := count(50)
	s := some(handed)
	b, e := Build(s, ipA, ipB)
	if Len(s); e != api.OK || !bytes.Equal(handed, count(50)) {
		t.Fatal("a call changed what it was handed", e)
	}
	was := bytes.Clone(b)
	clear(handed)
	if !bytes.Equal(b, was) {
		t.Error("bytes hang on the data that was handed in")
	}
	got, e := Open(b, ipA, ipB)
	if e != api.OK || !bytes.Equal(b, was) {
		t.Fatal("Open changed what it was handed", e)
	}
	clear(b)
	if !alike(got, some(count(50))) {
		t.Error("a segment hangs on the bytes that were handed in", got)
	}
	copy(b, was)
	_ = append(got.Data, 1, 2, 3)
	clear(got.Data)
	if !bytes.Equal(b, was) {
		t.Error("data shares memory with the bytes that were handed in")
	}
	if again, e := Open(b, ipA, ipB); !alike(again, some(count(50))) || e != api.OK {
		t.Error("what was answered is kept", again, e)
	}
	if again, e := Build(some(count(50)), ipA, ipB); !bytes.Equal(again, was) || e != api.OK {
		t.Error("what was answered is kept", again, e)
	}
}

// P2, and rule 4: what lies behind a list's length is neither read nor written.
func TestBehindTheLength(t *testing.T) {
	room := count(300)
	for n := range 157 {
		s := api.Segment{Flags: api.SYN, MSS: 64, Data: room[:n]}
		if b, e := Build(s, ipA, ipB); !bytes.Equal(b[24:], count(n)) || e != api.OK || Len(s) != n+1 {
			t.Fatal(n, b, e)
		}
	}
	if !bytes.Equal(room, count(300)) {
		t.Error("Build wrote what lies behind the length")
	}
	right := withOptions(api.SYN, []byte{2, 4, 0, 64}, []byte("abc"), 0)
	for _, behind := range [][]byte{count(50), make([]byte, 50), bytes.Repeat([]byte{2, 4}, 25)} {
		whole := append(bytes.Clone(right), behind...)
		was := bytes.Clone(whole)
		s, e := Open(whole[:len(right)], ipA, ipB)
		if string(s.Data) != "abc" || s.MSS != 64 || e != api.OK {
			t.Error(s, e)
		}
		_ = append(s.Data, 99)
		for n := range 24 {
			if s, e := Open(whole[:n], ipA, ipB); !none(s) || e != api.ErrCut {
				t.Errorf("%d bytes: %v, %d", n, s, e)
			}
		}
		if !bytes.Equal(whole, was) {
			t.Error("Open wrote what lies behind the length")
		}
	}
	// Options end with the head, though what stands behind it would make them whole.
	if s, e := Open(withOptions(api.SYN, []byte{1, 1, 1, 2}, []byte{4, 0, 64}, 0), ipA, ipB); !none(s) || e != api.ErrForm {
		t.Error(s, e)
	}
}
