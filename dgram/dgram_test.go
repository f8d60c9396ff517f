package dgram

import (
	"bytes"
	"encoding/hex"
	"math/rand"
	"reflect"
	"strings"
	"testing"

	"caravel/api"
)

// Hosts of which no two bytes are alike, so that each byte's place is seen.
var (
	ipA = api.IP{0x0a, 0x31, 0x32, 0x33}
	ipB = api.IP{0x0b, 0x41, 0x42, 0x43}
)

// count is so many bytes of which no two near each other are alike.
func count(n int) []byte {
	b := make([]byte, n)
	for i := range b {
		b[i] = byte(i + i/256*7)
	}
	return b
}

// unhex is the bytes of a text to the base 16, in which spaces may stand.
func unhex(t *testing.T, s string) []byte {
	t.Helper()
	b, err := hex.DecodeString(strings.ReplaceAll(s, " ", ""))
	if err != nil {
		t.Fatal(err)
	}
	return b
}

// plainSum is the check sum of bytes, by a way of its own: one division.
func plainSum(b []byte) int {
	sum := 0
	for i, c := range b {
		if i%2 == 0 {
			sum += 256 * int(c)
		} else {
			sum += int(c)
		}
	}
	if sum > 0 && sum%65535 == 0 {
		return 0
	}
	return 65535 - sum%65535
}

// put is bytes with a number in two of them, the higher one first.
func put(b []byte, at, n int) []byte {
	b = bytes.Clone(b)
	b[at], b[at+1] = byte(n/256), byte(n%256)
	return b
}

// echoSummed is an Echo's bytes with the right sum.
func echoSummed(b []byte) []byte {
	return put(b, 2, plainSum(put(b, 2, 0)))
}

// pseudo is what stands ahead of a Datagram for its sum, by the document's words.
func pseudo(src, dst api.IP, n int) []byte {
	return []byte{src[0], src[1], src[2], src[3], dst[0], dst[1], dst[2], dst[3], 0, 17, byte(n / 256), byte(n % 256)}
}

// datagramSummed is a Datagram's bytes with the right sum of those up to where it says that it ends.
func datagramSummed(b []byte, src, dst api.IP) []byte {
	all := int(b[4])*256 + int(b[5])
	sum := plainSum(append(pseudo(src, dst, all), put(b, 6, 0)[:all]...))
	if sum == 0 {
		sum = 65535
	}
	return put(b, 6, sum)
}

// plain is a message's bytes by the document's words, one by one.
func plain(t *testing.T, m api.Message, src, dst api.IP) []byte {
	t.Helper()
	switch m := m.(type) {
	case api.Echo:
		b := []byte{8, 0, 0, 0, byte(m.ID / 256), byte(m.ID % 256), byte(m.Seq / 256), byte(m.Seq % 256)}
		if m.Reply {
			b[0] = 0
		}
		return echoSummed(append(b, m.Data...))
	case api.Datagram:
		b := put(put(put(make([]byte, 8), 0, int(m.Src)), 2, int(m.Dst)), 4, 8+len(m.Data))
		return datagramSummed(append(b, m.Data...), src, dst)
	}
	t.Fatalf("%T", m)
	return nil
}

// alike tells whether two messages are of one kind and have the same fields, Data that is nil like Data without bytes.
func alike(a, b api.Message) bool {
	full := func(m api.Message) any {
		switch m := m.(type) {
		case api.Echo:
			m.Data = append([]byte{}, m.Data...)
			return m
		case api.Datagram:
			m.Data = append([]byte{}, m.Data...)
			return m
		}
		return m
	}
	return reflect.DeepEqual(full(a), full(b))
}

// datas are data of some lengths, and of some kinds.
func datas() [][]byte {
	list := [][]byte{nil, {}, {0}, {255}, {0, 0}, {255, 255}, {0, 0, 0}, {255, 255, 255}, []byte("abc"), bytes.Repeat([]byte{255}, 992), make([]byte, 992)}
	for _, n := range []int{1, 2, 3, 7, 8, 9, 127, 128, 172, 173, 255, 256, 257, 500, 991, 992} {
		list = append(list, count(n))
	}
	return list
}

// words are numbers of two bytes at which something may turn.
func words() []uint16 {
	return []uint16{0, 1, 7, 255, 256, 0x1234, 32767, 32768, 65534, 65535}
}

// messages are all that may be built, of some numbers and data.
func messages() []api.Message {
	var list []api.Message
	for _, data := range datas() {
		for _, one := range words() {
			for _, two := range []uint16{0, 9, 65535} {
				list = append(list, api.Echo{ID: one, Seq: two, Data: data}, api.Echo{Reply: true, ID: one, Seq: two, Data: data}, api.Datagram{Src: one, Dst: two, Data: data})
			}
		}
	}
	return list
}

// bearing is a message of each kind that is built, with this data.
func bearing(data []byte) []api.Message {
	return []api.Message{
		api.Echo{ID: 0x0102, Seq: 0x0304, Data: data},
		api.Echo{Reply: true, ID: 0x0102, Seq: 0x0304, Data: data},
		api.Datagram{Src: 0x0102, Dst: 0x0304, Data: data},
	}
}

// A message that is none that may be built, though it has an Echo's fields and calls.
type embedded struct{ api.Echo }

// A message that can't be compared, and panics when it is asked.
type rude []byte

func (rude) Proto() byte { panic("asked") }

// A message that says that it is an Echo.
type liar struct{}

func (liar) Proto() byte { return api.ProtoEcho }

// strange are messages that are neither nil nor of a kind that api has.
func strange() []api.Message {
	var noEcho *api.Echo
	var noDatagram *api.Datagram
	var noSegment *api.Segment
	return []api.Message{
		&api.Echo{}, noEcho, &api.Datagram{}, noDatagram, &api.Segment{}, noSegment,
		embedded{}, &embedded{}, rude(nil), rude("abc"), liar{}, &liar{}, struct{ api.Message }{api.Echo{}}, struct{ api.Message }{},
	}
}

// The chapter's example.
func TestExample(t *testing.T) {
	want := []byte{8, 0, 247, 255, 0, 0, 0, 0}
	if b, e := Build(api.Echo{}, ipA, ipB); !bytes.Equal(b, want) || e != api.OK {
		t.Error(b, e)
	}
	if m, e := Open(api.ProtoEcho, ipA, ipB, want); !alike(m, api.Echo{}) || e != api.OK {
		t.Error(m, e)
	}
}

// P8.1: what Build answers, byte by byte.
func TestBuild(t *testing.T) {
	zero := api.IP{}
	for _, c := range []struct {
		m        api.Message
		src, dst api.IP
		text     string
	}{
		{api.Echo{}, zero, zero, "08 00 f7ff 0000 0000"},
		{api.Echo{Reply: true}, zero, zero, "00 00 ffff 0000 0000"},
		{api.Echo{ID: 0x0102, Seq: 0x0304}, zero, zero, "08 00 f3f9 0102 0304"},
		{api.Echo{ID: 0x0102, Seq: 0x0304}, ipA, ipB, "08 00 f3f9 0102 0304"},
		{api.Echo{Reply: true, ID: 0x0102, Seq: 0x0304, Data: []byte{5}}, zero, zero, "00 00 f6f9 0102 0304 05"},
		{api.Echo{Reply: true, ID: 0x0102, Seq: 0x0304, Data: []byte{5, 6}}, zero, zero, "00 00 f6f3 0102 0304 0506"},
		// A sum of 0 is left as it is in an Echo.
		{api.Echo{Reply: true, ID: 65535}, zero, zero, "00 00 0000 ffff 0000"},
		{api.Echo{ID: 0xf7ff}, zero, zero, "08 00 0000 f7ff 0000"},
		{api.Datagram{}, zero, zero, "0000 0000 0008 ffde"},
		{api.Datagram{Src: 0x0102, Dst: 0x0304}, zero, zero, "0102 0304 0008 fbd8"},
		{api.Datagram{Src: 0x0102, Dst: 0x0304, Data: []byte{5}}, zero, zero, "0102 0304 0009 f6d6 05"},
		{api.Datagram{Src: 1, Dst: 2}, api.IP{10, 0, 0, 1}, api.IP{10, 0, 0, 2}, "0001 0002 0008 ebd8"},
		{api.Datagram{Src: 1, Dst: 2, Data: []byte{3, 4, 5}}, api.IP{10, 0, 0, 1}, api.IP{10, 0, 0, 2}, "0001 0002 000b e3ce 030405"},
		// A sum of 0 is 65535 in a Datagram.
		{api.Datagram{Src: 0xffde}, zero, zero, "ffde 0000 0008 ffff"},
		{api.Datagram{Dst: 0xebda}, api.IP{10, 0, 0, 1}, api.IP{10, 0, 0, 2}, "0000 ebda 0008 0001"},
		{api.Datagram{Dst: 0xebdb}, api.IP{10, 0, 0, 1}, api.IP{10, 0, 0, 2}, "0000 ebdb 0008 ffff"},
		{api.Datagram{Dst: 0xebdc}, api.IP{10, 0, 0, 1}, api.IP{10, 0, 0, 2}, "0000 ebdc 0008 fffe"},
	} {
		b, e := Build(c.m, c.src, c.dst)
		if want := unhex(t, c.text); !bytes.Equal(b, want) || e != api.OK {
			t.Errorf("Build(%#v, %v, %v) = %x, %d; want %x", c.m, c.src, c.dst, b, e, want)
		}
	}
}

// P8.1: of many messages, and from and to other hosts.
func TestBuildMany(t *testing.T) {
	for _, m := range messages() {
		for _, ips := range [][2]api.IP{{ipA, ipB}, {ipB, ipA}, {}, {{255, 255, 255, 255}, {255, 255, 255, 255}}} {
			b, e := Build(m, ips[0], ips[1])
			if want := plain(t, m, ips[0], ips[1]); !bytes.Equal(b, want) || e != api.OK {
				t.Fatalf("Build(%v, %v) = %x, %d; want %x", m, ips, b, e, want)
			}
		}
	}
}

// P8.1: each number that a port, or an Echo's field, may be; one of a Datagram's sums is 65535 for 0 among them.
func TestBuildEachNumber(t *testing.T) {
	instead := 0
	for n := range 65536 {
		for _, m := range []api.Message{api.Echo{ID: uint16(n)}, api.Echo{Reply: true, Seq: uint16(n)}, api.Datagram{Src: uint16(n), Data: []byte("ab")}, api.Datagram{Dst: uint16(n)}} {
			b, e := Build(m, ipA, ipB)
			if want := plain(t, m, ipA, ipB); !bytes.Equal(b, want) || e != api.OK {
				t.Fatalf("Build(%v) = %x, %d; want %x", m, b, e, want)
			}
			if m.Proto() == api.ProtoUDP && b[6] == 0 && b[7] == 0 {
				t.Fatalf("Build(%v) = %x has no sum", m, b)
			}
			if m.Proto() == api.ProtoUDP && b[6] == 255 && b[7] == 255 {
				instead++
			}
		}
	}
	if instead != 2 {
		t.Errorf("%d sums of 65535", instead)
	}
}

// P8.1: 1000 bytes in all may be, and none more.
func TestBuildLong(t *testing.T) {
	for n := range 2100 {
		for _, m := range bearing(count(n)) {
			b, e := Build(m, ipA, ipB)
			if n <= 992 && (len(b) != 8+n || !bytes.Equal(b[8:], count(n)) || e != api.OK) {
				t.Fatalf("%T of %d bytes: %d bytes, %d", m, n, len(b), e)
			}
			if n > 992 && (len(b) != 0 || e != api.ErrLong) {
				t.Fatalf("%T of %d bytes: %d bytes, %d", m, n, len(b), e)
			}
		}
	}
	for _, m := range bearing(make([]byte, 65536+8)) {
		if b, e := Build(m, ipA, ipB); len(b) != 0 || e != api.ErrLong {
			t.Errorf("%T: %d bytes, %d", m, len(b), e)
		}
	}
}

// P8.1: what is neither an Echo nor a Datagram is refused, however long it is.
func TestBuildArg(t *testing.T) {
	long := make([]byte, 2000)
	list := append(strange(), nil, api.Segment{}, api.Segment{Flags: api.SYN, Data: long}, &api.Echo{Data: long}, &api.Datagram{Data: long}, embedded{api.Echo{Data: long}}, rude(long))
	for i, m := range list {
		if b, e := Build(m, ipA, ipB); len(b) != 0 || e != api.ErrArg {
			t.Errorf("%d, a %T: %x, %d", i, m, b, e)
		}
	}
}

// P8.2: what Open answers of an Echo's bytes.
func TestOpenEcho(t *testing.T) {
	for _, c := range []struct {
		name, text string
		m          api.Message
		e          api.Errno
	}{
		{"asks", "08 00 f3f9 0102 0304", api.Echo{ID: 0x0102, Seq: 0x0304}, api.OK},
		{"answers", "00 00 f6f9 0102 0304 05", api.Echo{Reply: true, ID: 0x0102, Seq: 0x0304, Data: []byte{5}}, api.OK},
		{"answers, even", "00 00 f6f3 0102 0304 0506", api.Echo{Reply: true, ID: 0x0102, Seq: 0x0304, Data: []byte{5, 6}}, api.OK},
		{"a sum of 0", "08 00 0000 f7ff 0000", api.Echo{ID: 0xf7ff}, api.OK},
		{"65535 for 0", "08 00 ffff f7ff 0000", api.Echo{ID: 0xf7ff}, api.OK},
		{"nothing but a sum", "00 00 ffff 0000 0000", api.Echo{Reply: true}, api.OK},
		{"nothing", "", nil, api.ErrCut},
		{"one byte", "08", nil, api.ErrCut},
		{"seven bytes", "08 00 f7ff 0000 00", nil, api.ErrCut},
		{"seven bytes, Right", "00 00 ffff 0000 00", nil, api.ErrCut},
		{"all nought", "00 00 0000 0000 0000", nil, api.ErrSum},
		{"a wrong sum", "08 00 f7fe 0000 0000", nil, api.ErrSum},
		{"no sum", "08 00 0000 0102 0304", nil, api.ErrSum},
		{"a byte more", "08 00 f3f9 0102 0304 05", nil, api.ErrSum},
		{"a nought more", "08 00 f3f9 0102 0304 00", api.Echo{ID: 0x0102, Seq: 0x0304, Data: []byte{0}}, api.OK},
		{"another kind", "03 00 fcff 0000 0000", nil, api.ErrForm},
		{"another kind, a wrong sum", "03 00 fcfe 0000 0000", nil, api.ErrSum},
		{"another second byte", "08 01 f7fe 0000 0000", nil, api.ErrForm},
		{"another second byte, answers", "00 80 ff7f 0000 0000", nil, api.ErrForm},
		{"another second byte, a wrong sum", "08 01 f7ff 0000 0000", nil, api.ErrSum},
		{"both of another kind", "0b 01 f4fe 0000 0000", nil, api.ErrForm},
	} {
		m, e := Open(api.ProtoEcho, ipA, ipB, unhex(t, c.text))
		if !alike(m, c.m) || e != c.e {
			t.Errorf("%s: %#v, %d; want %#v, %d", c.name, m, e, c.m, c.e)
		}
	}
}

// P8.2: of all first bytes 0 and 8 are right alone, and of all second ones 0.
func TestOpenEchoKinds(t *testing.T) {
	for first := range 256 {
		for second := range 256 {
			b := []byte{byte(first), byte(second), 0, 0, 1, 2, 3, 4, 5}
			m, e := Open(api.ProtoEcho, ipA, ipB, echoSummed(b))
			if second == 0 && (first == 0 || first == 8) {
				if !alike(m, api.Echo{Reply: first == 0, ID: 0x0102, Seq: 0x0304, Data: []byte{5}}) || e != api.OK {
					t.Errorf("%d, %d: %v, %d", first, second, m, e)
				}
			} else if m != nil || e != api.ErrForm {
				t.Errorf("%d, %d: %v, %d", first, second, m, e)
			}
		}
	}
}

// P8.2: what Open answers of a Datagram's bytes.
func TestOpenDatagram(t *testing.T) {
	right := func(text string) []byte { return datagramSummed(unhex(t, text), ipA, ipB) }
	wrong := func(text string) []byte {
		b := right(text)
		b[7] ^= 1
		return b
	}
	some := api.Datagram{Src: 0x0102, Dst: 0x0304, Data: []byte{5}}
	for _, c := range []struct {
		name string
		b    []byte
		m    api.Message
		e    api.Errno
	}{
		{"no data", right("0102 0304 0008 0000"), api.Datagram{Src: 0x0102, Dst: 0x0304}, api.OK},
		{"a byte of data", right("0102 0304 0009 0000 05"), some, api.OK},
		{"no data, other bytes behind it", right("0102 0304 0008 0000 0506"), api.Datagram{Src: 0x0102, Dst: 0x0304}, api.OK},
		{"a byte of data, others behind it", right("0102 0304 0009 0000 05 060708"), some, api.OK},
		{"a byte of data, without a sum", unhex(t, "0102 0304 0009 0000 05"), some, api.OK},
		{"without a sum, others behind it", unhex(t, "0102 0304 0009 0000 05 060708"), some, api.OK},
		{"nothing", nil, nil, api.ErrCut},
		{"one byte", []byte{1}, nil, api.ErrCut},
		{"seven bytes", unhex(t, "0102 0304 0008 00"), nil, api.ErrCut},
		{"seven bytes, that say it", unhex(t, "0102 0304 0007 00"), nil, api.ErrCut},
		{"none, it says", unhex(t, "0102 0304 0000 0000"), nil, api.ErrForm},
		{"seven, it says", right("0102 0304 0007 0000"), nil, api.ErrForm},
		{"seven, it says, a wrong sum", wrong("0102 0304 0007 0000"), nil, api.ErrForm},
		{"one more than there are", unhex(t, "0102 0304 0009 0000"), nil, api.ErrCut},
		{"one more than there are, a wrong sum", unhex(t, "0102 0304 0009 1234"), nil, api.ErrCut},
		{"all that can be said", unhex(t, "0102 0304 ffff 0000 05"), nil, api.ErrCut},
		{"256 more, by the higher byte", unhex(t, "0102 0304 0108 0000"), nil, api.ErrCut},
		{"a wrong sum", wrong("0102 0304 0008 0000"), nil, api.ErrSum},
		{"a wrong sum, with data", wrong("0102 0304 0009 0000 05"), nil, api.ErrSum},
		{"a wrong sum, others behind it", wrong("0102 0304 0009 0000 05 060708"), nil, api.ErrSum},
		{"65535 that isn't right", unhex(t, "0102 0304 0008 ffff"), nil, api.ErrSum},
	} {
		m, e := Open(api.ProtoUDP, ipA, ipB, c.b)
		if !alike(m, c.m) || e != c.e {
			t.Errorf("%s: %#v, %d; want %#v, %d", c.name, m, e, c.m, c.e)
		}
	}
}

// P8.2: each length that a Datagram may say that it has.
func TestOpenDatagramLengths(t *testing.T) {
	for _, there := range []int{8, 9, 20, 255, 256, 257, 999, 1000} {
		for says := range 65536 {
			b := put(put(count(there), 4, says), 6, 0)
			if says >= 8 && says <= there {
				b = datagramSummed(b, ipA, ipB)
			}
			m, e := Open(api.ProtoUDP, ipA, ipB, b)
			switch {
			case says < 8:
				if m != nil || e != api.ErrForm {
					t.Fatalf("%d of %d: %v, %d", says, there, m, e)
				}
			case says > there:
				if m != nil || e != api.ErrCut {
					t.Fatalf("%d of %d: %v, %d", says, there, m, e)
				}
			case !alike(m, api.Datagram{Src: 0x0001, Dst: 0x0203, Data: b[8:says]}) || e != api.OK:
				t.Fatalf("%d of %d: %v, %d", says, there, m, e)
			}
		}
	}
}

// P8.2: of the 65536 sums the right one is taken, and 0, which says that there is none; of an Echo the right one alone.
func TestOpenEachSum(t *testing.T) {
	datagram, echo := datagramSummed(unhex(t, "0102 0304 000b 0000 050607 09"), ipA, ipB), echoSummed(unhex(t, "08 00 0000 0102 0304 05"))
	for sum := range 65536 {
		b := put(datagram, 6, sum)
		m, e := Open(api.ProtoUDP, ipA, ipB, b)
		if sum == 0 || bytes.Equal(b, datagram) {
			if !alike(m, api.Datagram{Src: 0x0102, Dst: 0x0304, Data: []byte{5, 6, 7}}) || e != api.OK {
				t.Fatalf("datagram, sum %d: %v, %d", sum, m, e)
			}
		} else if m != nil || e != api.ErrSum {
			t.Fatalf("datagram, sum %d: %v, %d", sum, m, e)
		}
		b = put(echo, 2, sum)
		m, e = Open(api.ProtoEcho, ipA, ipB, b)
		if bytes.Equal(b, echo) {
			if !alike(m, api.Echo{ID: 0x0102, Seq: 0x0304, Data: []byte{5}}) || e != api.OK {
				t.Fatalf("echo, sum %d: %v, %d", sum, m, e)
			}
		} else if m != nil || e != api.ErrSum {
			t.Fatalf("echo, sum %d: %v, %d", sum, m, e)
		}
	}
}

// P8.2: a Datagram's sum is of the hosts' addresses too, unless it has none; an Echo's isn't.
func TestOpenFromOthers(t *testing.T) {
	for i := range 8 {
		for turn := 1; turn < 256; turn++ {
			src, dst := ipA, ipB
			if i < 4 {
				src[i] ^= byte(turn)
			} else {
				dst[i-4] ^= byte(turn)
			}
			for _, m := range bearing(count(33)) {
				b, _ := Build(m, ipA, ipB)
				got, e := Open(m.Proto(), src, dst, b)
				if m.Proto() == api.ProtoUDP && (got != nil || e != api.ErrSum) || m.Proto() == api.ProtoEcho && (!alike(got, m) || e != api.OK) {
					t.Fatalf("%T, byte %d turned: %v, %d", m, i, got, e)
				}
				if m.Proto() == api.ProtoUDP {
					if got, e := Open(api.ProtoUDP, src, dst, put(b, 6, 0)); !alike(got, m) || e != api.OK {
						t.Fatalf("without a sum, byte %d turned: %v, %d", i, got, e)
					}
				}
			}
		}
	}
}

// P8.2: no other protocol is taken, whatever the bytes; more than 1000 of them are told ahead of that.
func TestOpenProto(t *testing.T) {
	echo, _ := Build(api.Echo{Data: []byte("abc")}, ipA, ipB)
	datagram, _ := Build(api.Datagram{Data: []byte("abc")}, ipA, ipB)
	for proto := range 256 {
		known := proto == api.ProtoEcho || proto == api.ProtoUDP
		for _, b := range [][]byte{nil, {1}, count(7), count(8), echo, datagram, make([]byte, 1000)} {
			if m, e := Open(byte(proto), ipA, ipB, b); !known && (m != nil || e != api.ErrArg) || known && e == api.ErrArg {
				t.Errorf("protocol %d, %d bytes: %v, %d", proto, len(b), m, e)
			}
		}
		for _, n := range []int{1001, 1002, 65536 + 8, 1 << 20} {
			if m, e := Open(byte(proto), ipA, ipB, make([]byte, n)); m != nil || e != api.ErrLong {
				t.Errorf("protocol %d, %d bytes: %v, %d", proto, n, m, e)
			}
		}
	}
}

// P8.2: more than 1000 bytes are refused, right as they may be otherwise, and though fewer are said to be all.
func TestOpenLong(t *testing.T) {
	for _, n := range []int{998, 999, 1000, 1001, 1002, 1500, 4000} {
		echo := echoSummed(append([]byte{8, 0, 0, 0, 0, 0, 0, 0}, count(n-8)...))
		whole := datagramSummed(put(count(n), 4, n), ipA, ipB)
		short := datagramSummed(put(count(n), 4, 9), ipA, ipB)
		for _, c := range []struct {
			proto byte
			b     []byte
			m     api.Message
		}{
			{api.ProtoEcho, echo, api.Echo{Data: count(n - 8)}},
			{api.ProtoUDP, whole, api.Datagram{Src: 0x0001, Dst: 0x0203, Data: count(n)[8:]}},
			{api.ProtoUDP, short, api.Datagram{Src: 0x0001, Dst: 0x0203, Data: []byte{8}}},
		} {
			m, e := Open(c.proto, ipA, ipB, c.b)
			if n <= 1000 && (!alike(m, c.m) || e != api.OK) || n > 1000 && (m != nil || e != api.ErrLong) {
				t.Errorf("protocol %d, %d bytes: %v, %d", c.proto, n, m, e)
			}
		}
	}
}

// apart are messages of which no two are the same.
func apart() []api.Message {
	return []api.Message{
		nil,
		api.Echo{}, api.Echo{Reply: true}, api.Echo{ID: 1}, api.Echo{Seq: 1}, api.Echo{ID: 256}, api.Echo{Data: []byte{0}}, api.Echo{Data: []byte{0, 0}}, api.Echo{Data: []byte{1}},
		api.Echo{Reply: true, ID: 1, Seq: 1, Data: []byte("abc")}, api.Echo{Reply: true, ID: 1, Seq: 1, Data: []byte("abd")}, api.Echo{Reply: true, ID: 1, Seq: 1, Data: []byte("ab")},
		api.Datagram{}, api.Datagram{Src: 1}, api.Datagram{Dst: 1}, api.Datagram{Src: 1, Dst: 1}, api.Datagram{Data: []byte{0}}, api.Datagram{Data: []byte{0, 0}}, api.Datagram{Data: []byte{1}},
		api.Segment{}, api.Segment{Src: 1}, api.Segment{Dst: 1}, api.Segment{Seq: 1}, api.Segment{Ack: 1}, api.Segment{Flags: 1}, api.Segment{Wnd: 1}, api.Segment{MSS: 1},
		api.Segment{Seq: 65536}, api.Segment{Ack: 65536}, api.Segment{Flags: 32}, api.Segment{Data: []byte{0}}, api.Segment{Data: []byte{0, 0}}, api.Segment{Data: []byte{1}},
		api.Segment{Src: 1, Dst: 2, Seq: 3, Ack: 4, Flags: 5, Wnd: 6, MSS: 7, Data: []byte("abc")}, api.Segment{Src: 1, Dst: 2, Seq: 3, Ack: 4, Flags: 5, Wnd: 6, MSS: 7, Data: []byte("abd")},
	}
}

// P8.3: each message is the same as itself, in other memory too, and as no other one.
func TestSame(t *testing.T) {
	again := apart()
	for i, a := range apart() {
		for j, b := range again {
			if got := Same(a, b); got != (i == j) {
				t.Errorf("Same(%#v, %#v) = %t", a, b, got)
			}
		}
	}
}

// P8.3: Data that is nil has the same bytes as Data without any, and what lies behind its length doesn't matter.
func TestSameData(t *testing.T) {
	nothing := [][]byte{nil, {}, make([]byte, 0, 9), []byte("abc")[:0]}
	for _, a := range nothing {
		for _, b := range nothing {
			if !Same(api.Echo{Data: a}, api.Echo{Data: b}) || !Same(api.Datagram{Data: a}, api.Datagram{Data: b}) || !Same(api.Segment{Data: a}, api.Segment{Data: b}) {
				t.Errorf("%#v and %#v", a, b)
			}
		}
	}
	a, b := []byte("abcd")[:2], []byte("abxy")[:2]
	if !Same(api.Echo{Data: a}, api.Echo{Data: b}) || !Same(api.Datagram{Data: a}, api.Datagram{Data: b}) || !Same(api.Segment{Data: a}, api.Segment{Data: b}) {
		t.Error("bytes behind the length were read")
	}
}

// P8.3: what is of no kind that api has is not even the same as itself.
func TestSameStrange(t *testing.T) {
	for i, a := range strange() {
		for _, b := range append(strange(), apart()...) {
			if Same(a, b) || Same(b, a) {
				t.Errorf("%d: %T is the same as %T", i, a, b)
			}
		}
		if Same(a, a) {
			t.Errorf("%d: %T is the same as itself", i, a)
		}
	}
}

// P8.4: what is built is opened, and built again as it was.
func TestBuiltIsOpened(t *testing.T) {
	for _, m := range messages() {
		b, e := Build(m, ipA, ipB)
		if e != api.OK {
			t.Fatal(m, e)
		}
		got, e := Open(m.Proto(), ipA, ipB, b)
		if !alike(got, m) || !Same(got, m) || !Same(m, got) || e != api.OK {
			t.Fatalf("%v: %v, %d", m, got, e)
		}
		if again, e := Build(got, ipA, ipB); !bytes.Equal(again, b) || e != api.OK {
			t.Fatalf("%v: %x, %d; want %x", got, again, e, b)
		}
	}
}

// P8.4: a Datagram of which one byte is turned is refused, but one whose sum that makes 0; where it says how many there are doesn't count here.
func TestOneByteTurned(t *testing.T) {
	list := []api.Message{api.Datagram{}, api.Datagram{Src: 7, Dst: 9, Data: count(1)}, api.Datagram{Src: 65535, Dst: 65535, Data: bytes.Repeat([]byte{255}, 20)}, api.Datagram{Data: count(300)}}
	// From ipA to ipB these have sums of ffff, 0001 and 0100, so that some turns make them 0.
	for _, sum := range []uint16{65535, 1, 0x0100} {
		d := api.Datagram{Data: []byte{0, 0}}
		b, _ := Build(d, ipA, ipB)
		was := int(b[6])*256 + int(b[7])
		d.Src = uint16((was + 65535 - int(sum)) % 65535)
		if b, _ = Build(d, ipA, ipB); int(b[6])*256+int(b[7]) != int(sum) {
			t.Fatalf("sum %x: %x", sum, b)
		}
		list = append(list, d)
	}
	none := 0
	for _, m := range list {
		b, _ := Build(m, ipA, ipB)
		for i := range b {
			for turn := 1; turn < 256 && i != 4 && i != 5; turn++ {
				b[i] ^= byte(turn)
				got, e := Open(api.ProtoUDP, ipA, ipB, b)
				if b[6] == 0 && b[7] == 0 {
					none++
					if !alike(got, m) || e != api.OK {
						t.Fatalf("%v without a sum: %v, %d", m, got, e)
					}
				} else if got != nil || e != api.ErrSum {
					t.Fatalf("%v, byte %d turned: %v, %d", m, i, got, e)
				}
				b[i] ^= byte(turn)
			}
		}
	}
	if none != 2 {
		t.Errorf("%d sums were made 0", none)
	}
}

// P8.4: an Echo of which one byte is turned is refused too.
func TestEchoTurned(t *testing.T) {
	for _, m := range []api.Message{api.Echo{}, api.Echo{Reply: true}, api.Echo{ID: 1, Seq: 2, Data: count(41)}} {
		b, _ := Build(m, ipA, ipB)
		for i := range b {
			for turn := 1; turn < 256; turn++ {
				b[i] ^= byte(turn)
				if got, e := Open(api.ProtoEcho, ipA, ipB, b); got != nil || e != api.ErrSum {
					t.Fatalf("%v, byte %d turned: %v, %d", m, i, got, e)
				}
				b[i] ^= byte(turn)
			}
		}
	}
}

// P8.4: what is built, but for its last bytes, is refused.
func TestBuiltIsCut(t *testing.T) {
	d, _ := Build(api.Datagram{Src: 7, Dst: 9, Data: count(300)}, ipA, ipB)
	for n := range d {
		if m, e := Open(api.ProtoUDP, ipA, ipB, d[:n]); m != nil || e != api.ErrCut {
			t.Fatalf("%d bytes: %v, %d", n, m, e)
		}
	}
}

// P1: no argument makes a call panic, or go on for ever.
func TestNoPanic(t *testing.T) {
	all := append(append(strange(), apart()...), bearing(make([]byte, 1<<22))...)
	all = append(all, api.Segment{Data: make([]byte, 1<<22)})
	for _, a := range all {
		Build(a, api.IP{}, api.IP{255, 255, 255, 255})
		for _, b := range all {
			Same(a, b)
		}
	}
	chance := rand.New(rand.NewSource(8))
	for range 100000 {
		b := make([]byte, chance.Intn(40))
		chance.Read(b)
		if len(b) > 8 && chance.Intn(2) == 0 {
			b[4], b[5] = 0, byte(chance.Intn(44))
		}
		if len(b) > 8 && chance.Intn(4) == 0 {
			b[6], b[7] = 0, 0
		}
		for _, proto := range []byte{api.ProtoEcho, api.ProtoUDP, byte(chance.Intn(256))} {
			if m, e := Open(proto, ipA, ipB, b); (m == nil) == (e == api.OK) {
				t.Fatalf("Open(%d, %x) = %v, %d", proto, b, m, e)
			}
		}
	}
}

// P2: what is called again answers the same, whatever was called meanwhile.
func TestSameAgain(t *testing.T) {
	every := func() []any {
		var told []any
		for _, m := range append(bearing([]byte("abc")), nil, api.Segment{}, &api.Echo{}, api.Echo{Data: make([]byte, 993)}) {
			b, e := Build(m, ipA, ipB)
			told = append(told, b, e, Same(m, m))
			for _, proto := range []byte{api.ProtoEcho, api.ProtoUDP, api.ProtoTCP} {
				m, e := Open(proto, ipA, ipB, b)
				told = append(told, m, e)
			}
		}
		return told
	}
	if first, again := every(), every(); !reflect.DeepEqual(first, again) {
		t.Errorf("%v, then %v", first, again)
	}
}

// data is what a message bears.
func data(t *testing.T, m api.Message) []byte {
	t.Helper()
	switch m := m.(type) {
	case api.Echo:
		return m.Data
	case api.Datagram:
		return m.Data
	}
	t.Fatalf("%T", m)
	return nil
}

// P2, and rules 3 and 4: what is handed in stays, and what is answered shares no memory with it, nor with another answer.
func TestNothingShared(t *testing.T) {
	for i := range bearing(nil) {
		handed := count(50)
		m, want := bearing(handed)[i], bearing(count(50))[i]
		b, e := Build(m, ipA, ipB)
		if e != api.OK || !bytes.Equal(handed, count(50)) || !Same(m, want) || !bytes.Equal(handed, count(50)) {
			t.Fatalf("%T: a call changed what it was handed, %d", m, e)
		}
		was := bytes.Clone(b)
		clear(handed)
		if !bytes.Equal(b, was) {
			t.Errorf("%T: bytes hang on the data that was handed in", m)
		}
		got, e := Open(m.Proto(), ipA, ipB, b)
		if e != api.OK || !bytes.Equal(b, was) {
			t.Fatalf("%T: Open changed what it was handed, %d", m, e)
		}
		clear(b)
		if !alike(got, want) {
			t.Errorf("%T hangs on the bytes that were handed in", m)
		}
		copy(b, was)
		_ = append(data(t, got), 1, 2, 3)
		clear(data(t, got))
		if !bytes.Equal(b, was) {
			t.Errorf("%T: data shares memory with the bytes that were handed in", m)
		}
		if again, e := Open(m.Proto(), ipA, ipB, b); !alike(again, want) || e != api.OK {
			t.Errorf("%T: what was answered is kept: %v, %d", m, again, e)
		}
	}
}

// P2, and rule 4: what lies behind a list's length is neither read nor written.
func TestBehindTheLength(t *testing.T) {
	room := count(300)
	for i, m := range bearing(room[:3]) {
		b, e := Build(m, ipA, ipB)
		if want := plain(t, bearing(count(3))[i], ipA, ipB); !bytes.Equal(b, want) || e != api.OK {
			t.Errorf("%T: %x, %d; want %x", m, b, e, want)
		}
	}
	if !bytes.Equal(room, count(300)) {
		t.Error("Build wrote what lies behind the length")
	}
	for i, m := range bearing(count(11)) {
		whole := append(plain(t, m, ipA, ipB), count(50)...)
		was := bytes.Clone(whole)
		got, e := Open(m.Proto(), ipA, ipB, whole[:19])
		if !alike(got, m) || e != api.OK {
			t.Errorf("%d: %v, %d", i, got, e)
		}
		_ = append(data(t, got), 99)
		if got, e := Open(m.Proto(), ipA, ipB, whole[:7]); got != nil || e != api.ErrCut {
			t.Errorf("%d: %v, %d", i, got, e)
		}
		if !bytes.Equal(whole, was) {
			t.Error("Open wrote what lies behind the length")
		}
	}
}
