package ether

import (
	"bytes"
	"encoding/hex"
	"math"
	"math/rand"
	"reflect"
	"strings"
	"testing"

	"caravel/api"
)

// Cards and hosts of which no two bytes are alike, so that each byte's place is seen.
var (
	macA = api.MAC{0x02, 0x11, 0x12, 0x13, 0x14, 0x15}
	macB = api.MAC{0x04, 0x21, 0x22, 0x23, 0x24, 0x25}
	ipA  = api.IP{0x0a, 0x31, 0x32, 0x33}
	ipB  = api.IP{0x0b, 0x41, 0x42, 0x43}
)

// arpText is, to the base 16, what macA at ipA asks of macB at ipB.
const arpText = "00010800060400" + "01" + "021112131415" + "0a313233" + "042122232425" + "0b414243"

// all is the card's address that means all.
var all = api.MAC{255, 255, 255, 255, 255, 255}

// unhex is the bytes of a text to the base 16.
func unhex(t *testing.T, s string) []byte {
	t.Helper()
	b, err := hex.DecodeString(s)
	if err != nil {
		t.Fatal(err)
	}
	return b
}

// count is so many bytes 0, 1, 2, and so on.
func count(n int) []byte {
	b := make([]byte, n)
	for i := range b {
		b[i] = byte(i)
	}
	return b
}

// same tells whether two frames are alike, a body that is nil like one without bytes.
func same(a, b api.Frame) bool {
	return a.Dst == b.Dst && a.Src == b.Src && a.Type == b.Type && bytes.Equal(a.Body, b.Body)
}

// plainFrame is a frame's bytes by the document's words, one by one.
func plainFrame(f api.Frame) []byte {
	var b []byte
	for _, c := range f.Dst {
		b = append(b, c)
	}
	for _, c := range f.Src {
		b = append(b, c)
	}
	b = append(b, byte(f.Type/256), byte(f.Type%256))
	for _, c := range f.Body {
		b = append(b, c)
	}
	return b
}

// plainArp is an Arp's bytes by the document's words, one by one.
func plainArp(a api.Arp) []byte {
	b := []byte{0, 1, 8, 0, 6, 4, 0, byte(a.Op)}
	for _, c := range a.FromMAC {
		b = append(b, c)
	}
	for _, c := range a.From {
		b = append(b, c)
	}
	for _, c := range a.ToMAC {
		b = append(b, c)
	}
	for _, c := range a.To {
		b = append(b, c)
	}
	return b
}

// frames are some frames that may be, with bodies of each length.
func frames() []api.Frame {
	list := []api.Frame{
		{},
		{Dst: macA, Src: macB},
		{Dst: all, Src: all, Type: 65535},
		{Dst: macA, Src: macB, Type: api.TypeArp, Body: []byte{0}},
		{Dst: macA, Src: macA, Type: 1, Body: make([]byte, api.MTU)},
		{Dst: macA, Src: macA, Type: 256, Body: bytes.Repeat([]byte{255}, api.MTU)},
	}
	chance := rand.New(rand.NewSource(5))
	for n := range api.MTU + 1 {
		f := api.Frame{Type: uint16(chance.Uint32()), Body: make([]byte, n)}
		chance.Read(f.Dst[:])
		chance.Read(f.Src[:])
		chance.Read(f.Body)
		list = append(list, f)
	}
	return list
}

// arps are some Arps that may be.
func arps() []api.Arp {
	list := []api.Arp{
		{Op: 1},
		{Op: 2},
		{Op: 1, FromMAC: macA, From: ipA, To: ipB},
		{Op: 2, FromMAC: macB, From: ipB, ToMAC: macA, To: ipA},
		{Op: 2, FromMAC: all, From: api.IP{255, 255, 255, 255}, ToMAC: all, To: api.IP{255, 255, 255, 255}},
	}
	chance := rand.New(rand.NewSource(5))
	for range 200 {
		a := api.Arp{Op: 1 + chance.Intn(2)}
		chance.Read(a.FromMAC[:])
		chance.Read(a.From[:])
		chance.Read(a.ToMAC[:])
		chance.Read(a.To[:])
		list = append(list, a)
	}
	return list
}

// wrongOps are what no Arp may have; of some the lowest byte alone is 1 or 2.
func wrongOps() []int {
	return []int{
		0, 3, 4, 8, 16, 127, 128, 254, 255, 256, 257, 258, 259, 512, 513, 514, 65535, 65536, 65537, 65538, 1<<32 + 1, 1<<32 + 2, 1<<62 + 1, math.MaxInt - 1, math.MaxInt,
		-1, -2, -3, -253, -254, -255, -256, -65535, math.MinInt, math.MinInt + 1, math.MinInt + 2,
	}
}

// P5.1: a frame's bytes stand where the document has them.
func TestBuild(t *testing.T) {
	for _, c := range []struct {
		f    api.Frame
		text string
	}{
		{api.Frame{}, "0000000000000000000000000000"},
		{api.Frame{Dst: macA, Src: macB, Type: 0x0800}, "021112131415" + "042122232425" + "0800"},
		{api.Frame{Dst: macA, Src: macB, Type: api.TypeIP, Body: []byte("abc")}, "021112131415" + "042122232425" + "0800" + "616263"},
		{api.Frame{Dst: all, Src: macA, Type: api.TypeArp, Body: []byte{0}}, "ffffffffffff" + "021112131415" + "0806" + "00"},
		{api.Frame{Src: macA, Type: 0x0102, Body: []byte{}}, "000000000000" + "021112131415" + "0102"},
		{api.Frame{Dst: macA, Type: 65535}, "021112131415" + "000000000000" + "ffff"},
		{api.Frame{Type: 255}, "000000000000" + "000000000000" + "00ff"},
		{api.Frame{Type: 256}, "000000000000" + "000000000000" + "0100"},
	} {
		b, e := Build(c.f)
		if hex.EncodeToString(b) != c.text || e != api.OK {
			t.Errorf("Build(%v) = %x, %d; want %s", c.f, b, e, c.text)
		}
		if f, e := Parse(unhex(t, c.text)); !same(f, c.f) || e != api.OK {
			t.Errorf("Parse(%s) = %v, %d; want %v", c.text, f, e, c.f)
		}
	}
}

// P5.1, and the chapter's example: a frame without a body has 14 bytes.
func TestNoBody(t *testing.T) {
	for _, body := range [][]byte{nil, {}} {
		if b, e := Build(api.Frame{Dst: macA, Src: macB, Type: 7, Body: body}); len(b) != 14 || e != api.OK {
			t.Errorf("%x, %d", b, e)
		}
	}
}

// P5.1: a body of each length up to the MTU is taken, none above it.
func TestBuildLengths(t *testing.T) {
	for n := range 700 {
		f := api.Frame{Dst: macA, Src: macB, Type: api.TypeIP, Body: count(n)}
		b, e := Build(f)
		if n > 200 {
			if len(b) != 0 || e != api.ErrLong {
				t.Errorf("%d bytes: %d of them, %d", n, len(b), e)
			}
			continue
		}
		if !bytes.Equal(b, plainFrame(f)) || len(b) != 14+n || e != api.OK {
			t.Errorf("%d bytes: %x, %d", n, b, e)
		}
	}
}

// P5.1: bytes are a frame from the 14th to the 214th on, no fewer and no more.
func TestParseLengths(t *testing.T) {
	for n := range 700 {
		b := count(n)
		f, e := Parse(b)
		if n < 14 || n > 214 {
			want := api.ErrCut
			if n > 214 {
				want = api.ErrLong
			}
			if !reflect.DeepEqual(f, api.Frame{}) || e != want {
				t.Errorf("%d bytes: %v, %d; want %d", n, f, e, want)
			}
			continue
		}
		want := api.Frame{Dst: api.MAC{0, 1, 2, 3, 4, 5}, Src: api.MAC{6, 7, 8, 9, 10, 11}, Type: 12*256 + 13, Body: b[14:]}
		if !same(f, want) || e != api.OK {
			t.Errorf("%d bytes: %v, %d", n, f, e)
		}
	}
	if f, e := Parse(nil); !reflect.DeepEqual(f, api.Frame{}) || e != api.ErrCut {
		t.Errorf("Parse(nil) = %v, %d", f, e)
	}
}

// P5.1: of each type the higher byte goes first.
func TestEachType(t *testing.T) {
	for n := range 65536 {
		b, e := Build(api.Frame{Dst: macA, Src: macB, Type: uint16(n)})
		if e != api.OK || len(b) != 14 || int(b[12]) != n/256 || int(b[13]) != n%256 {
			t.Fatalf("type %d: %x, %d", n, b, e)
		}
		if f, e := Parse(b); int(f.Type) != n || e != api.OK {
			t.Fatalf("type %d: %v, %d", n, f, e)
		}
	}
}

// P5.2: an Arp's bytes stand where the document has them.
func TestBuildArp(t *testing.T) {
	for _, c := range []struct {
		a    api.Arp
		text string
	}{
		{api.Arp{Op: 1, FromMAC: macA, From: ipA, ToMAC: macB, To: ipB}, arpText},
		{api.Arp{Op: 2, FromMAC: macA, From: ipA, ToMAC: macB, To: ipB}, "00010800060400" + "02" + "021112131415" + "0a313233" + "042122232425" + "0b414243"},
		{api.Arp{Op: 1, FromMAC: macA, From: ipA, To: ipB}, "00010800060400" + "01" + "021112131415" + "0a313233" + "000000000000" + "0b414243"},
		{api.Arp{Op: 2}, "00010800060400" + "02" + strings.Repeat("00", 20)},
		{api.Arp{Op: 1, ToMAC: all, From: ipB}, "00010800060400" + "01" + "000000000000" + "0b414243" + "ffffffffffff" + "00000000"},
	} {
		b, e := BuildArp(c.a)
		if hex.EncodeToString(b) != c.text || e != api.OK {
			t.Errorf("BuildArp(%v) = %x, %d; want %s", c.a, b, e, c.text)
		}
		if a, e := ParseArp(unhex(t, c.text)); a != c.a || e != api.OK {
			t.Errorf("ParseArp(%s) = %v, %d; want %v", c.text, a, e, c.a)
		}
	}
}

// P5.2: no other Op is built.
func TestBuildArpOps(t *testing.T) {
	for _, op := range wrongOps() {
		for _, a := range []api.Arp{{Op: op}, {Op: op, FromMAC: macA, From: ipA, ToMAC: macB, To: ipB}} {
			if b, e := BuildArp(a); len(b) != 0 || e != api.ErrArg {
				t.Errorf("Op %d: %x, %d", op, b, e)
			}
		}
	}
}

// P5.2: no fewer than 28 bytes are an Arp, and what stands behind these doesn't matter.
func TestParseArpLengths(t *testing.T) {
	right := unhex(t, arpText)
	want := api.Arp{Op: 1, FromMAC: macA, From: ipA, ToMAC: macB, To: ipB}
	for n := range 28 {
		if a, e := ParseArp(right[:n]); a != (api.Arp{}) || e != api.ErrCut {
			t.Errorf("%d bytes: %v, %d", n, a, e)
		}
		// That the bytes end is told ahead of what they say.
		if a, e := ParseArp(bytes.Repeat([]byte{255}, n)); a != (api.Arp{}) || e != api.ErrCut {
			t.Errorf("%d wrong bytes: %v, %d", n, a, e)
		}
	}
	if a, e := ParseArp(nil); a != (api.Arp{}) || e != api.ErrCut {
		t.Errorf("ParseArp(nil) = %v, %d", a, e)
	}
	for n := range 700 {
		for _, c := range []byte{0, 1, 255} {
			b := append(bytes.Clone(right), bytes.Repeat([]byte{c}, n)...)
			if a, e := ParseArp(b); a != want || e != api.OK {
				t.Errorf("%d bytes behind it: %v, %d", n, a, e)
			}
		}
	}
}

// P5.2: each of the first eight bytes with each value: the seven have one alone, Op two.
func TestParseArpEachByte(t *testing.T) {
	right := unhex(t, arpText)
	for i := range 8 {
		for v := range 256 {
			for _, behind := range []int{0, 18} {
				b := append(bytes.Clone(right), make([]byte, behind)...)
				b[i] = byte(v)
				ok := b[i] == right[i] || i == 7 && v == 2
				want := api.Arp{}
				if ok {
					want = api.Arp{Op: int(b[7]), FromMAC: macA, From: ipA, ToMAC: macB, To: ipB}
				}
				a, e := ParseArp(b)
				if a != want || ok && e != api.OK || !ok && e != api.ErrForm {
					t.Errorf("byte %d is %d: %v, %d", i, v, a, e)
				}
			}
		}
	}
}

// P5.2: each of the bytes behind Op is told as it is.
func TestParseArpAddresses(t *testing.T) {
	for i := 8; i < 28; i++ {
		for v := range 256 {
			b := unhex(t, arpText)
			b[i] = byte(v)
			a, e := ParseArp(b)
			got := bytes.Join([][]byte{a.FromMAC[:], a.From[:], a.ToMAC[:], a.To[:]}, nil)
			if !bytes.Equal(got, b[8:]) || a.Op != 1 || e != api.OK {
				t.Errorf("byte %d is %d: %v, %d", i, v, a, e)
			}
		}
	}
}

// P5.3: frames that are built are parsed, and the other way.
func TestFrameBuiltIsParsed(t *testing.T) {
	for _, f := range frames() {
		b, e := Build(f)
		if !bytes.Equal(b, plainFrame(f)) || e != api.OK {
			t.Fatalf("Build(%v) = %x, %d", f, b, e)
		}
		got, e := Parse(b)
		if !same(got, f) || e != api.OK {
			t.Fatalf("Parse(%x) = %v, %d; want %v", b, got, e, f)
		}
		if again, e := Build(got); !bytes.Equal(again, b) || e != api.OK {
			t.Fatalf("Build(%v) = %x, %d; want %x", got, again, e, b)
		}
	}
}

// P5.3: Arps that are built are parsed, in a frame too, and the other way.
func TestArpBuiltIsParsed(t *testing.T) {
	for _, a := range arps() {
		b, e := BuildArp(a)
		if !bytes.Equal(b, plainArp(a)) || len(b) != 28 || e != api.OK {
			t.Fatalf("BuildArp(%v) = %x, %d", a, b, e)
		}
		whole, e := Build(api.Frame{Dst: all, Src: a.FromMAC, Type: api.TypeArp, Body: b})
		if e != api.OK {
			t.Fatal(e)
		}
		f, e := Parse(whole)
		if e != api.OK {
			t.Fatal(e)
		}
		got, e := ParseArp(f.Body)
		if got != a || e != api.OK {
			t.Fatalf("ParseArp(%x) = %v, %d; want %v", f.Body, got, e, a)
		}
		if again, e := BuildArp(got); !bytes.Equal(again, b) || e != api.OK {
			t.Fatalf("BuildArp(%v) = %x, %d; want %x", got, again, e, b)
		}
	}
}

// P1: no argument makes a call panic, or go on for ever.
func TestNoPanic(t *testing.T) {
	for _, b := range [][]byte{nil, {}, {0}, count(7), count(8), make([]byte, 28), make([]byte, 1<<22), bytes.Repeat([]byte(arpHead), 1<<18)} {
		Parse(b)
		ParseArp(b)
		Build(api.Frame{Body: b})
	}
	for _, op := range append(wrongOps(), 1, 2) {
		BuildArp(api.Arp{Op: op})
	}
	chance := rand.New(rand.NewSource(1))
	for range 20000 {
		b := make([]byte, chance.Intn(300))
		chance.Read(b)
		if chance.Intn(2) == 0 {
			copy(b, arpHead)
		}
		Parse(b)
		ParseArp(b)
		Build(api.Frame{Dst: macA, Src: macB, Type: uint16(chance.Uint32()), Body: b})
		BuildArp(api.Arp{Op: int(chance.Uint64())})
	}
}

// P2: what is called again answers the same, whatever was called meanwhile.
func TestSameAgain(t *testing.T) {
	arp := unhex(t, arpText)
	every := func() []any {
		b, e1 := Build(api.Frame{Dst: macA, Src: macB, Type: 7, Body: []byte("abc")})
		long, e2 := Build(api.Frame{Body: make([]byte, 201)})
		f, e3 := Parse(b)
		cut, e4 := Parse(b[:13])
		ab, e5 := BuildArp(api.Arp{Op: 2, From: ipA})
		_, e6 := BuildArp(api.Arp{Op: 3, From: ipA})
		a, e7 := ParseArp(arp)
		none, e8 := ParseArp(arp[1:])
		wrong, e9 := ParseArp(make([]byte, 28))
		return []any{b, e1, long, e2, f, e3, cut, e4, ab, e5, e6, a, e7, none, e8, wrong, e9}
	}
	if first, again := every(), every(); !reflect.DeepEqual(first, again) {
		t.Errorf("%v, then %v", first, again)
	}
}

// P2, and rules 3 and 4: what is handed in stays, and what is answered shares no memory with it.
func TestNothingShared(t *testing.T) {
	body := count(50)
	b, e := Build(api.Frame{Dst: macA, Src: macB, Type: 7, Body: body})
	if e != api.OK || !bytes.Equal(body, count(50)) {
		t.Fatal("Build changed what it was handed", e)
	}
	was := bytes.Clone(b)
	clear(body)
	if !bytes.Equal(b, was) {
		t.Error("bytes hang on the body that was handed in")
	}
	f, e := Parse(b)
	if e != api.OK || !bytes.Equal(b, was) {
		t.Fatal("Parse changed what it was handed", e)
	}
	clear(b)
	if f.Dst != macA || f.Src != macB || f.Type != 7 || !bytes.Equal(f.Body, count(50)) {
		t.Error("a frame hangs on the bytes that were handed in", f)
	}
	copy(b, was)
	_ = append(f.Body, 1, 2, 3)
	clear(f.Body)
	if !bytes.Equal(b, was) {
		t.Error("a body shares memory with the bytes that were handed in")
	}
	arp := unhex(t, arpText)
	a, e := ParseArp(arp)
	if e != api.OK || hex.EncodeToString(arp) != arpText {
		t.Fatal("ParseArp changed what it was handed", e)
	}
	clear(arp)
	if a != (api.Arp{Op: 1, FromMAC: macA, From: ipA, ToMAC: macB, To: ipB}) {
		t.Error("an Arp hangs on the bytes that were handed in", a)
	}
}

// P2, and rule 4: what lies behind a list's length is neither read nor written.
func TestBehindTheLength(t *testing.T) {
	room := count(300)
	if b, e := Build(api.Frame{Type: 7, Body: room[:3]}); !bytes.Equal(b[14:], []byte{0, 1, 2}) || e != api.OK {
		t.Error(b, e)
	}
	if f, e := Parse(room[:17]); !bytes.Equal(f.Body, []byte{14, 15, 16}) || e != api.OK {
		t.Error(f, e)
	} else {
		_ = append(f.Body, 99)
	}
	if f, e := Parse(room[:13]); !same(f, api.Frame{}) || e != api.ErrCut {
		t.Error(f, e)
	}
	if !bytes.Equal(room, count(300)) {
		t.Error("what lies behind the length was written")
	}
	arp := unhex(t, arpText)
	if a, e := ParseArp(arp[:27]); a != (api.Arp{}) || e != api.ErrCut {
		t.Error(a, e)
	}
	if hex.EncodeToString(arp) != arpText {
		t.Error("what lies behind the length was written")
	}
}

// P2: a list that was answered is not kept: to write to it turns no later answer.
func TestAnswersAreNew(t *testing.T) {
	a := api.Arp{Op: 1, FromMAC: macA, From: ipA, ToMAC: macB, To: ipB}
	f := api.Frame{Dst: macA, Src: macB, Type: 7, Body: []byte("abc")}
	arp, _ := BuildArp(a)
	clear(arp)
	if b, e := BuildArp(a); hex.EncodeToString(b) != arpText || e != api.OK {
		t.Errorf("%x, %d", b, e)
	}
	whole, _ := Build(f)
	clear(whole)
	b, e := Build(f)
	if !bytes.Equal(b, plainFrame(f)) || e != api.OK {
		t.Errorf("%x, %d", b, e)
	}
	one, _ := Parse(b)
	clear(one.Body)
	if two, e := Parse(b); !same(two, f) || e != api.OK {
		t.Error(two, e)
	}
}
