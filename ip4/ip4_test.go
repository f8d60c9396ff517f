package ip4

import (
	"bytes"
	"encoding/hex"
	"math"
	"math/rand"
	"reflect"
	"strings"
	"testing"

	"caravel/api"
)

// Hosts of which no two bytes are alike, so that each byte's place is seen.
var (
	ipA = api.IP{0x0a, 0x31, 0x32, 0x33}
	ipB = api.IP{0x0b, 0x41, 0x42, 0x43}
	top = api.IP{255, 255, 255, 255}
)

// unhex is the bytes of a text to the base 16.
func unhex(t *testing.T, s string) []byte {
	t.Helper()
	b, err := hex.DecodeString(s)
	if err != nil {
		t.Fatal(err)
	}
	return b
}

// count is so many bytes 0, 1, 2, and so on, going round.
func count(n int) []byte {
	b := make([]byte, n)
	for i := range b {
		b[i] = byte(i)
	}
	return b
}

// same tells whether two packets are alike, Data that is nil like Data without bytes.
func same(a, b api.Packet) bool {
	data := bytes.Equal(a.Data, b.Data)
	a.Data, b.Data = nil, nil
	return data && reflect.DeepEqual(a, b)
}

// none tells whether a packet is the zero value.
func none(p api.Packet) bool {
	return reflect.DeepEqual(p, api.Packet{})
}

// plainSum is the check sum of a head, which is never all 0, by a way of its own: one division.
func plainSum(head []byte) int {
	sum := 0
	for i := 0; i < len(head); i += 2 {
		if i != 10 {
			sum += int(head[i])*256 + int(head[i+1])
		}
	}
	return (65535 - sum%65535) % 65535
}

// summed is bytes with the right sum in their head, of as many bytes as the first one says.
func summed(b []byte) []byte {
	b = bytes.Clone(b)
	sum := plainSum(b[:4*int(b[0]%16)])
	b[10], b[11] = byte(sum/256), byte(sum%256)
	return b
}

// plainPacket is a packet's bytes by the document's words, one by one.
func plainPacket(p api.Packet) []byte {
	all := 20 + len(p.Data)
	off := p.Off / 8
	if p.More {
		off += 8192
	}
	b := []byte{
		69, 0, byte(all / 256), byte(all % 256), byte(p.ID / 256), byte(p.ID % 256), byte(off / 256), byte(off % 256),
		p.TTL, p.Proto, 0, 0, p.Src[0], p.Src[1], p.Src[2], p.Src[3], p.Dst[0], p.Dst[1], p.Dst[2], p.Dst[3],
	}
	return append(summed(b), p.Data...)
}

// raw is a packet's bytes with a head of so many groups of four bytes (5 to 15), which say that there are so many in all, and have so many.
func raw(groups, all, size int) []byte {
	b := count(size)
	b[0], b[2], b[3] = byte(64+groups), byte(all/256), byte(all%256)
	return summed(b)
}

// packets are some packets that may be, with Data of each length.
func packets() []api.Packet {
	list := []api.Packet{
		{},
		{ID: 1, TTL: 64, Proto: api.ProtoEcho, Src: ipA, Dst: ipB},
		{ID: 65535, More: true, Off: 65528, TTL: 255, Proto: 255, Src: top, Dst: top, Data: bytes.Repeat([]byte{255}, 176)},
		{ID: 65535, Off: 65528, TTL: 255, Proto: 255, Src: top, Dst: top, Data: bytes.Repeat([]byte{255}, 180)},
		{More: true, Off: 176, Data: make([]byte, 176)},
		{More: true, Src: ipA, Dst: ipB},
		{Off: 352, Proto: api.ProtoUDP, Src: ipA, Dst: ipB, Data: count(48)},
	}
	chance := rand.New(rand.NewSource(6))
	for n := range 181 {
		for range 20 {
			p := api.Packet{
				ID: uint16(chance.Uint32()), More: n%8 == 0 && chance.Intn(2) == 0, Off: 8 * chance.Intn(8192),
				TTL: byte(chance.Uint32()), Proto: byte(chance.Uint32()), Data: make([]byte, n),
			}
			chance.Read(p.Src[:])
			chance.Read(p.Dst[:])
			chance.Read(p.Data)
			list = append(list, p)
		}
	}
	return list
}

// P6.1: a packet's bytes stand where the document has them.
func TestBuild(t *testing.T) {
	for _, c := range []struct {
		p    api.Packet
		text string
	}{
		{api.Packet{}, "45000014000000000000baeb0000000000000000"},
		// The sum of the other words is 65535, so that theirs is 0.
		{api.Packet{ID: 0xbaeb}, "45000014baeb0000000000000000000000000000"},
		{api.Packet{ID: 0xbaea}, "45000014baea0000000000010000000000000000"},
		{api.Packet{ID: 0xbaec}, "45000014baec00000000fffe0000000000000000"},
		{api.Packet{ID: 0x0102, TTL: 64, Proto: 17, Src: ipA, Dst: ipB, Data: []byte("abc")}, "45000017010200004011efec0a3132330b414243616263"},
		{api.Packet{More: true, Data: []byte("abcdefgh")}, "4500001c0000200000009ae300000000000000006162636465666768"},
		{api.Packet{More: true, Off: 65528, TTL: 1, Proto: 2}, "4500001400003fff010279ea0000000000000000"},
		{api.Packet{Off: 65528}, "4500001400001fff00009aec0000000000000000"},
		{api.Packet{Off: 8}, "45000014000000010000baea0000000000000000"},
		{api.Packet{Off: 2048, Data: []byte{0}}, "45000015000001000000b9ea000000000000000000"},
		{api.Packet{ID: 65535, TTL: 255, Proto: 255, Src: top, Dst: top}, "45000014ffff0000ffffbaebffffffffffffffff"},
	} {
		b, e := Build(c.p)
		if hex.EncodeToString(b) != c.text || e != api.OK {
			t.Errorf("Build(%v) = %x, %d; want %s", c.p, b, e, c.text)
		}
		if p, e := Parse(unhex(t, c.text)); !same(p, c.p) || e != api.OK {
			t.Errorf("Parse(%s) = %v, %d; want %v", c.text, p, e, c.p)
		}
	}
}

// The chapter's example: a packet without data has 20 bytes; so many has the head that is built.
func TestNoData(t *testing.T) {
	if Head != 20 {
		t.Errorf("Head is %d", Head)
	}
	for _, data := range [][]byte{nil, {}} {
		for _, more := range []bool{false, true} {
			p := api.Packet{More: more, Proto: 6, Src: ipA, Dst: ipB, Data: data}
			if b, e := Build(p); len(b) != 20 || !bytes.Equal(b, plainPacket(p)) || e != api.OK {
				t.Errorf("%x, %d", b, e)
			}
		}
	}
}

// P6.1: Off is a multiple of 8 from 0 to 65528, or refused, whatever else is wrong.
func TestBuildOffs(t *testing.T) {
	offs := []int{math.MinInt, math.MinInt + 1, math.MinInt + 8, -65536, -1 << 32, 1 << 32, 1<<32 + 8, 1 << 62, math.MaxInt - 7, math.MaxInt}
	for off := -1000; off < 140000; off++ {
		offs = append(offs, off)
	}
	for _, off := range offs {
		ok := off >= 0 && off <= 65528 && off%8 == 0
		for _, p := range []api.Packet{
			{Off: off, ID: 7, Src: ipA},
			{Off: off, ID: 7, Src: ipA, More: true, Data: count(16)},
			{Off: off, ID: 7, Src: ipA, Data: count(181)},
		} {
			b, e := Build(p)
			switch {
			case !ok:
				if len(b) != 0 || e != api.ErrArg {
					t.Fatalf("Off %d: %x, %d", off, b, e)
				}
			case len(p.Data) > 180:
				if len(b) != 0 || e != api.ErrLong {
					t.Fatalf("Off %d, too long: %x, %d", off, b, e)
				}
			case !bytes.Equal(b, plainPacket(p)) || e != api.OK:
				t.Fatalf("Off %d: %x, %d", off, b, e)
			}
		}
	}
}

// P6.1: Data has at most 180 bytes; with More a multiple of 8, which is told first.
func TestBuildLengths(t *testing.T) {
	for n := range 700 {
		for _, more := range []bool{false, true} {
			p := api.Packet{ID: 9, More: more, Off: 16, TTL: 3, Src: ipA, Dst: ipB, Data: count(n)}
			b, e := Build(p)
			want := api.OK
			switch {
			case more && n%8 != 0:
				want = api.ErrArg
			case n > 180:
				want = api.ErrLong
			}
			if e != want || e != api.OK && len(b) != 0 {
				t.Errorf("%d bytes, More %v: %x, %d; want %d", n, more, b, e, want)
			}
			if e == api.OK && (!bytes.Equal(b, plainPacket(p)) || len(b) != 20+n) {
				t.Errorf("%d bytes, More %v: %x", n, more, b)
			}
		}
	}
}

// P6.1: each ID, higher byte first, each TTL and each protocol stands in its place.
func TestBuildEachNumber(t *testing.T) {
	for n := range 65536 {
		p := api.Packet{ID: uint16(n), TTL: byte(n / 256), Proto: byte(n % 256), Src: ipA, Dst: ipB}
		b, e := Build(p)
		if !bytes.Equal(b, plainPacket(p)) || e != api.OK {
			t.Fatalf("Build(%v) = %x, %d", p, b, e)
		}
		if int(b[4]) != n/256 || int(b[5]) != n%256 || int(b[8]) != n/256 || int(b[9]) != n%256 {
			t.Fatalf("Build(%v) = %x", p, b)
		}
		if got, e := Parse(b); !same(got, p) || e != api.OK {
			t.Fatalf("Parse(%x) = %v, %d", b, got, e)
		}
	}
}

// P6.2: packets that others built: one with a bit in Off's word that doesn't matter, one with options.
func TestParse(t *testing.T) {
	for _, c := range []struct {
		text string
		p    api.Packet
		e    api.Errno
	}{
		{"45000016000040004011b8bec0a80001c0a800c76869", api.Packet{TTL: 64, Proto: 17, Src: api.IP{192, 168, 0, 1}, Dst: api.IP{192, 168, 0, 199}, Data: []byte("hi")}, api.OK},
		{"4600001a000720024006cdec0a3132330b414243010101006869", api.Packet{ID: 7, More: true, Off: 16, TTL: 64, Proto: 6, Src: ipA, Dst: ipB, Data: []byte("hi")}, api.OK},
		{"4600001a000720024006cded0a3132330b414243010101006869", api.Packet{}, api.ErrSum},
		{"", api.Packet{}, api.ErrCut},
		{"45000014000000000000baeb00000000000000", api.Packet{}, api.ErrCut},
		{"45000015000000000000baea0000000000000000", api.Packet{}, api.ErrCut},
		{"45000013000000000000baec0000000000000000", api.Packet{}, api.ErrForm},
		{"55000014000000000000aaeb0000000000000000", api.Packet{}, api.ErrForm},
		{"44000014000000000000bbeb0000000000000000", api.Packet{}, api.ErrForm},
		{"45000014000000000000baec0000000000000000", api.Packet{}, api.ErrSum},
		{"0000000000000000000000000000000000000000", api.Packet{}, api.ErrForm},
		{"ffffffffffffffffffffffffffffffffffffffff", api.Packet{}, api.ErrForm},
	} {
		b := unhex(t, c.text)
		if c.e == api.OK && !bytes.Equal(summed(b), b) {
			t.Fatalf("%s: its sum should be %04x", c.text, plainSum(b[:4*int(b[0]%16)]))
		}
		if p, e := Parse(b); !same(p, c.p) || e != c.e {
			t.Errorf("Parse(%s) = %v, %d; want %v, %d", c.text, p, e, c.p, c.e)
		}
	}
}

// P6.2: fewer than 20 bytes are cut, whatever they say.
func TestParseTooFew(t *testing.T) {
	right := raw(5, 20, 20)
	for n := range 20 {
		for _, b := range [][]byte{right[:n], make([]byte, n), bytes.Repeat([]byte{255}, n), bytes.Repeat([]byte{0x44}, n)} {
			if p, e := Parse(b); !none(p) || e != api.ErrCut {
				t.Errorf("Parse(%x) = %v, %d", b, p, e)
			}
		}
	}
	if p, e := Parse(nil); !none(p) || e != api.ErrCut {
		t.Errorf("Parse(nil) = %v, %d", p, e)
	}
	if p, e := Parse(right); same(p, api.Packet{}) || e != api.OK {
		t.Errorf("Parse(%x) = %v, %d", right, p, e)
	}
}

// P6.2: of each first byte: the version is 4, the head has 20 bytes or more.
func TestParseFirstByte(t *testing.T) {
	for v := range 256 {
		for _, size := range []int{60, 61, 200} {
			b := count(size)
			b[0], b[2], b[3] = byte(v), 0, byte(size)
			if v%16 >= 5 {
				b = summed(b)
			}
			p, e := Parse(b)
			if v/16 != 4 || v%16 < 5 {
				if !none(p) || e != api.ErrForm {
					t.Errorf("first byte %d of %d: %v, %d", v, size, p, e)
				}
				continue
			}
			if !bytes.Equal(p.Data, b[4*(v%16):]) || p.ID != 0x0405 || p.Proto != 9 || e != api.OK {
				t.Errorf("first byte %d of %d: %v, %d", v, size, p, e)
			}
		}
	}
}

// P6.2: with each head, each number of bytes in all is held against the head and against what is there.
func TestParseAll(t *testing.T) {
	for groups := 5; groups <= 15; groups++ {
		head := 4 * groups
		for _, size := range []int{head, head + 1, head + 8, 200, 300} {
			for all := range 400 {
				b := raw(groups, all, size)
				p, e := Parse(b)
				want := api.OK
				switch {
				case all < head:
					want = api.ErrForm
				case all > size:
					want = api.ErrCut
				}
				if e != want || e != api.OK && !none(p) {
					t.Fatalf("head %d, all %d of %d: %v, %d; want %d", head, all, size, p, e, want)
				}
				if e == api.OK && !bytes.Equal(p.Data, b[head:all]) {
					t.Fatalf("head %d, all %d of %d: %v", head, all, size, p)
				}
			}
		}
	}
}

// P6.2: a head that is longer than what is there is cut, or says nothing, and isn't read.
func TestParseHeadIsCut(t *testing.T) {
	for groups := 5; groups <= 15; groups++ {
		for size := 20; size < 4*groups; size++ {
			for all := range 70 {
				b := count(size)
				b[0], b[2], b[3] = byte(64+groups), 0, byte(all)
				want := api.ErrCut
				if all < 4*groups {
					want = api.ErrForm
				}
				if p, e := Parse(b); !none(p) || e != want {
					t.Fatalf("head %d, all %d of %d: %v, %d; want %d", 4*groups, all, size, p, e, want)
				}
			}
		}
	}
}

// P6.2: what is wrong in several ways is told in the chapter's order: its form, that it is cut, its sum.
func TestParseOrder(t *testing.T) {
	turned := func(b []byte) []byte {
		b[10] ^= 1
		return b
	}
	for _, c := range []struct {
		name string
		b    []byte
		e    api.Errno
	}{
		{"another version, cut, a wrong sum", append([]byte{0x65, 0, 0, 99}, make([]byte, 16)...), api.ErrForm},
		{"a short head, cut, a wrong sum", append([]byte{0x44, 0, 0, 99}, make([]byte, 16)...), api.ErrForm},
		{"no head, all 0, a right sum of it", append([]byte{0x40, 0, 0, 0}, make([]byte, 16)...), api.ErrForm},
		{"all below the head, a wrong sum", turned(raw(6, 23, 30)), api.ErrForm},
		{"all below the head, that is cut", append([]byte{0x4f, 0, 0, 59}, make([]byte, 30)...), api.ErrForm},
		{"cut, a wrong sum", turned(raw(5, 31, 30)), api.ErrCut},
		{"cut, a right sum", raw(5, 31, 30), api.ErrCut},
		{"a wrong sum", turned(raw(5, 30, 30)), api.ErrSum},
		{"a right sum", raw(5, 30, 30), api.OK},
	} {
		if p, e := Parse(c.b); e != c.e || e != api.OK && !none(p) {
			t.Errorf("%s: %v, %d; want %d", c.name, p, e, c.e)
		}
	}
}

// P6.2: of each word at Off's place: 8 times the lower 13 bits, More by the next one; the others don't matter.
func TestParseOffWord(t *testing.T) {
	for w := range 65536 {
		b := raw(5, 25, 25)
		b[6], b[7] = byte(w/256), byte(w%256)
		b = summed(b)
		p, e := Parse(b)
		if p.Off != w%8192*8 || p.More != (w/8192%2 == 1) || len(p.Data) != 5 || e != api.OK {
			t.Fatalf("word %d: %v, %d", w, p, e)
		}
	}
}

// P6.2: each byte that tells something alone is told as it is, and the second one doesn't matter.
func TestParseEachByte(t *testing.T) {
	for _, i := range []int{1, 4, 5, 8, 9, 12, 13, 14, 15, 16, 17, 18, 19} {
		for v := range 256 {
			b := raw(5, 25, 25)
			b[i] = byte(v)
			b = summed(b)
			p, e := Parse(b)
			want := api.Packet{
				ID: uint16(b[4])*256 + uint16(b[5]), Off: 0x0607 * 8, TTL: b[8], Proto: b[9],
				Src: api.IP{b[12], b[13], b[14], b[15]}, Dst: api.IP{b[16], b[17], b[18], b[19]}, Data: b[20:],
			}
			if !same(p, want) || e != api.OK {
				t.Errorf("byte %d is %d: %v, %d; want %v", i, v, p, e, want)
			}
		}
	}
}

// P6.2: the sum is of the head, of its options too, and of nothing behind it.
func TestParseSum(t *testing.T) {
	for groups := 5; groups <= 15; groups++ {
		right := raw(groups, 100, 120)
		was, e := Parse(right)
		if e != api.OK {
			t.Fatal(e)
		}
		for i := 10; i < 120; i++ {
			for turn := 1; turn < 256; turn++ {
				b := bytes.Clone(right)
				b[i] ^= byte(turn)
				p, e := Parse(b)
				switch {
				case i < 4*groups:
					if !none(p) || e != api.ErrSum {
						t.Fatalf("head %d, byte %d turned: %v, %d", 4*groups, i, p, e)
					}
				case i < 100:
					if !bytes.Equal(p.Data, b[4*groups:100]) || e != api.OK {
						t.Fatalf("head %d, byte %d turned: %v, %d", 4*groups, i, p, e)
					}
				case !same(p, was) || e != api.OK:
					t.Fatalf("head %d, byte %d turned: %v, %d", 4*groups, i, p, e)
				}
			}
		}
	}
}

// P6.2: each of the 65536 sums: one alone is Right.
func TestParseEachSum(t *testing.T) {
	right := raw(5, 22, 22)
	for sum := range 65536 {
		b := bytes.Clone(right)
		b[10], b[11] = byte(sum/256), byte(sum%256)
		p, e := Parse(b)
		if bytes.Equal(b, right) {
			if string(p.Data) != "\x14\x15" || e != api.OK {
				t.Errorf("sum %d: %v, %d", sum, p, e)
			}
		} else if !none(p) || e != api.ErrSum {
			t.Fatalf("sum %d: %v, %d", sum, p, e)
		}
	}
}

// P6.2: a sum of 65535 in the place of 0 is Right too, as the one's words add up to 65535 either way.
func TestParseSumOfNought(t *testing.T) {
	for _, sum := range []string{"0000", "ffff"} {
		b := unhex(t, "45000014baeb00000000"+sum+"0000000000000000")
		if p, e := Parse(b); !same(p, api.Packet{ID: 0xbaeb}) || e != api.OK {
			t.Errorf("sum %s: %v, %d", sum, p, e)
		}
	}
}

// P6.2: a packet may have more bytes than are built here, up to 65535.
func TestParseLong(t *testing.T) {
	for _, all := range []int{200, 201, 1000, 1500, 32767, 32768, 65534, 65535} {
		for _, behind := range []int{0, 1, 70000} {
			b := raw(5, all, all+behind)
			if p, e := Parse(b); !bytes.Equal(p.Data, b[20:all]) || e != api.OK {
				t.Errorf("all %d, %d behind: %d bytes, %d", all, behind, len(p.Data), e)
			}
		}
		if p, e := Parse(raw(5, all, all-1)); !none(p) || e != api.ErrCut {
			t.Errorf("all %d, one fewer: %v, %d", all, p, e)
		}
	}
}

// P6.3: src, dst, 0, proto and the lower 16 bits of n.
func TestPseudo(t *testing.T) {
	for _, c := range []struct {
		src, dst api.IP
		proto    byte
		n        int
		text     string
	}{
		{ipA, ipB, 17, 8, "0a3132330b41424300110008"},
		{ipB, ipA, 6, 0x1234, "0b4142430a31323300061234"},
		{api.IP{}, api.IP{}, 0, 0, "000000000000000000000000"},
		{top, top, 255, 65535, "ffffffffffffffff00ffffff"},
		{ipA, ipB, 17, 255, "0a3132330b414243001100ff"},
		{ipA, ipB, 17, 256, "0a3132330b41424300110100"},
		{ipA, ipB, 17, 65536, "0a3132330b41424300110000"},
		{ipA, ipB, 17, 65537, "0a3132330b41424300110001"},
		{ipA, ipB, 17, 0x12345678, "0a3132330b41424300115678"},
		{ipA, ipB, 17, -1, "0a3132330b4142430011ffff"},
		{ipA, ipB, 17, -2, "0a3132330b4142430011fffe"},
		{ipA, ipB, 17, -256, "0a3132330b4142430011ff00"},
		{ipA, ipB, 17, -65536, "0a3132330b41424300110000"},
		{ipA, ipB, 17, math.MaxInt, "0a3132330b4142430011ffff"},
		{ipA, ipB, 17, math.MinInt, "0a3132330b41424300110000"},
	} {
		if b := Pseudo(c.src, c.dst, c.proto, c.n); hex.EncodeToString(b) != c.text {
			t.Errorf("Pseudo(%v, %v, %d, %d) = %x; want %s", c.src, c.dst, c.proto, c.n, b, c.text)
		}
	}
}

// P6.3: each protocol, and each number of two bytes, with others above it.
func TestPseudoEach(t *testing.T) {
	for n := range 65536 {
		for _, above := range []int{0, 1, 77, 1 << 40, -1, -1 << 40} {
			b := Pseudo(ipA, ipB, byte(n), n+above*65536)
			want := bytes.Join([][]byte{ipA[:], ipB[:], {0, byte(n), byte(n / 256), byte(n % 256)}}, nil)
			if !bytes.Equal(b, want) {
				t.Fatalf("%d and %d above: %x; want %x", n, above, b, want)
			}
		}
	}
}

// P6.4: what is built is parsed, whatever stands behind it.
func TestBuiltIsParsed(t *testing.T) {
	for _, p := range packets() {
		b, e := Build(p)
		if !bytes.Equal(b, plainPacket(p)) || e != api.OK {
			t.Fatalf("Build(%v) = %x, %d; want %x", p, b, e, plainPacket(p))
		}
		for _, behind := range []int{0, 1, 26} {
			got, e := Parse(append(bytes.Clone(b), count(behind)...))
			if !same(got, p) || e != api.OK {
				t.Fatalf("Parse(%x) = %v, %d; want %v", b, got, e, p)
			}
			if again, e := Build(got); !bytes.Equal(again, b) || e != api.OK {
				t.Fatalf("Build(%v) = %x, %d; want %x", got, again, e, b)
			}
		}
	}
}

// P6.4: what is built, but for its last bytes, is refused.
func TestBuiltIsCut(t *testing.T) {
	for _, p := range packets() {
		b, _ := Build(p)
		for n := range b {
			if got, e := Parse(b[:n]); !none(got) || e != api.ErrCut {
				t.Fatalf("Parse(%x) = %v, %d", b[:n], got, e)
			}
		}
	}
}

// P6.4: a packet of which one byte of the head is turned is refused, or another one.
func TestOneByteTurned(t *testing.T) {
	for k, p := range packets() {
		if k%9 != 0 {
			continue
		}
		b, _ := Build(p)
		for i := range 20 {
			for turn := 1; turn < 256; turn++ {
				b[i] ^= byte(turn)
				got, e := Parse(b)
				if e == api.OK && same(got, p) || e != api.OK && !none(got) {
					t.Fatalf("byte %d of %v turned: %v, %d", i, p, got, e)
				}
				b[i] ^= byte(turn)
			}
		}
	}
}

// P1: no argument makes a call panic, or go on for ever.
func TestNoPanic(t *testing.T) {
	for _, b := range [][]byte{nil, {}, {69}, count(19), make([]byte, 20), bytes.Repeat([]byte{0x4f}, 59), make([]byte, 1<<22), bytes.Repeat([]byte{255}, 1<<18), []byte(strings.Repeat("E", 300))} {
		Parse(b)
		Build(api.Packet{Data: b})
		Build(api.Packet{More: true, Off: math.MinInt, Data: b})
	}
	for _, n := range []int{math.MinInt, -1, 0, 1, 1 << 32, math.MaxInt} {
		Pseudo(api.IP{}, api.IP{}, 0, n)
		Build(api.Packet{Off: n})
	}
	chance := rand.New(rand.NewSource(1))
	for range 50000 {
		b := make([]byte, chance.Intn(120))
		chance.Read(b)
		if len(b) > 3 && chance.Intn(4) > 0 {
			b[0], b[2], b[3] = byte(64+chance.Intn(16)), 0, byte(chance.Intn(120))
			if len(b) >= 60 {
				b = summed(b)
			}
		}
		Parse(b)
		Build(api.Packet{More: chance.Intn(2) == 0, Off: int(chance.Uint64()), Data: b})
		Pseudo(ipA, ipB, byte(chance.Uint32()), int(chance.Uint64()))
	}
}

// P2: what is called again answers the same, whatever was called meanwhile.
func TestSameAgain(t *testing.T) {
	every := func() []any {
		b, e1 := Build(api.Packet{ID: 7, TTL: 64, Proto: 17, Src: ipA, Dst: ipB, Data: []byte("abc")})
		long, e2 := Build(api.Packet{Data: make([]byte, 181)})
		off, e3 := Build(api.Packet{Off: 4})
		p, e4 := Parse(b)
		cut, e5 := Parse(b[:22])
		form, e6 := Parse(make([]byte, 20))
		sum, e7 := Parse(append([]byte{69, 0, 0, 20}, make([]byte, 16)...))
		return []any{b, e1, long, e2, off, e3, p, e4, cut, e5, form, e6, sum, e7, Pseudo(ipA, ipB, 17, 8)}
	}
	if first, again := every(), every(); !reflect.DeepEqual(first, again) {
		t.Errorf("%v, then %v", first, again)
	}
}

// P2, and rules 3 and 4: what is handed in stays, and what is answered shares no memory with it.
func TestNothingShared(t *testing.T) {
	data := count(50)
	p := api.Packet{ID: 7, Src: ipA, Dst: ipB, Data: data}
	b, e := Build(p)
	if e != api.OK || !bytes.Equal(data, count(50)) {
		t.Fatal("Build changed what it was handed", e)
	}
	was := bytes.Clone(b)
	clear(data)
	if !bytes.Equal(b, was) {
		t.Error("bytes hang on the data that was handed in")
	}
	got, e := Parse(b)
	if e != api.OK || !bytes.Equal(b, was) {
		t.Fatal("Parse changed what it was handed", e)
	}
	clear(b)
	if !same(got, api.Packet{ID: 7, Src: ipA, Dst: ipB, Data: count(50)}) {
		t.Error("a packet hangs on the bytes that were handed in", got)
	}
	copy(b, was)
	_ = append(got.Data, 1, 2, 3)
	clear(got.Data)
	if !bytes.Equal(b, was) {
		t.Error("data shares memory with the bytes that were handed in")
	}
}

// P2, and rule 4: what lies behind a list's length is neither read nor written.
func TestBehindTheLength(t *testing.T) {
	room := count(300)
	if b, e := Build(api.Packet{Data: room[:3]}); !bytes.Equal(b[20:], []byte{0, 1, 2}) || e != api.OK {
		t.Error(b, e)
	}
	if b, e := Build(api.Packet{Data: room[:0]}); len(b) != 20 || e != api.OK {
		t.Error(b, e)
	}
	if !bytes.Equal(room, count(300)) {
		t.Error("Build wrote what lies behind the length")
	}
	whole := raw(5, 40, 60)
	was := bytes.Clone(whole)
	for n := range 40 {
		if p, e := Parse(whole[:n]); !none(p) || e != api.ErrCut {
			t.Errorf("%d bytes: %v, %d", n, p, e)
		}
	}
	for n := 40; n <= 60; n++ {
		p, e := Parse(whole[:n])
		if !bytes.Equal(p.Data, was[20:40]) || e != api.OK {
			t.Errorf("%d bytes: %v, %d", n, p, e)
		}
		_ = append(p.Data, 99)
	}
	if !bytes.Equal(whole, was) {
		t.Error("Parse wrote what lies behind the length")
	}
}

// P2: a list that was answered is not kept: to write to it turns no later answer.
func TestAnswersAreNew(t *testing.T) {
	p := api.Packet{ID: 7, TTL: 1, Src: ipA, Dst: ipB, Data: []byte("abc")}
	one, _ := Build(p)
	clear(one)
	b, e := Build(p)
	if !bytes.Equal(b, plainPacket(p)) || e != api.OK {
		t.Errorf("%x, %d", b, e)
	}
	got, _ := Parse(b)
	clear(got.Data)
	if got, e = Parse(b); !same(got, p) || e != api.OK {
		t.Error(got, e)
	}
	pseudo := Pseudo(ipA, ipB, 17, 8)
	clear(pseudo)
	if pseudo = Pseudo(ipA, ipB, 17, 8); hex.EncodeToString(pseudo) != "0a3132330b41424300110008" {
		t.Errorf("%x", pseudo)
	}
}
