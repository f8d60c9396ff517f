package addr

import (
	"fmt"
	"math"
	"math/rand"
	"reflect"
	"regexp"
	"strings"
	"testing"

	"caravel/api"
)

// Patterns of what is written, by the document's words.
var (
	byteText = `(0|[1-9][0-9]?|1[0-9][0-9]|2[0-4][0-9]|25[0-5])`
	portText = `(0|[1-9][0-9]{0,3}|[1-5][0-9]{4}|6[0-4][0-9]{3}|65[0-4][0-9]{2}|655[0-2][0-9]|6553[0-5])`
	ipText   = byteText + `(\.` + byteText + `){3}`
	ipForm   = regexp.MustCompile(`\A` + ipText + `\z`)
	addrForm = regexp.MustCompile(`\A` + ipText + `:` + portText + `\z`)
	macForm  = regexp.MustCompile(`\A[0-9a-f]{2}(:[0-9a-f]{2}){5}\z`)
)

// ips are hosts' addresses at which something may turn, and some others.
func ips() []api.IP {
	list := []api.IP{{}, {10, 0, 0, 1}, {255, 255, 255, 255}, {1, 2, 3, 4}, {9, 10, 99, 100}, {0, 0, 0, 1}, {1, 0, 0, 0}, {127, 128, 249, 250}}
	r := rand.New(rand.NewSource(4))
	for range 200 {
		list = append(list, api.IP{byte(r.Intn(256)), byte(r.Intn(256)), byte(r.Intn(256)), byte(r.Intn(256))})
	}
	return list
}

// ports are ports at which something may turn.
func ports() []uint16 {
	return []uint16{0, 1, 9, 10, 80, 99, 100, 255, 256, 999, 1000, 9999, 10000, 32767, 32768, 65534, 65535}
}

// macs are cards' addresses at which something may turn, and some others.
func macs() []api.MAC {
	list := []api.MAC{{}, {2, 0, 0, 0, 0, 10}, {255, 255, 255, 255, 255, 255}, {1, 2, 3, 4, 5, 6}, {15, 16, 159, 160, 171, 240}}
	r := rand.New(rand.NewSource(4))
	for range 200 {
		var a api.MAC
		r.Read(a[:])
		list = append(list, a)
	}
	return list
}

// wrongIPs are texts of no host's address.
func wrongIPs() []string {
	return []string{
		"", ".", "...", "....", "1", "1.2", "1.2.3", "1.2.3.", ".1.2.3", "1..2.3", "1.2..3", "1.2.3.4.", ".1.2.3.4", "1.2.3.4.5", "1.2.3..4", "1..2.3.4",
		"256.0.0.0", "0.256.0.0", "0.0.256.0", "0.0.0.256", "1000.0.0.0", "0.0.0.260", "0.0.0.300", "0.0.0.999", "0.0.0.65536", "0.0.0.4294967296", "0.0.0.18446744073709551616", "0.0.0.18446744073709551617",
		"00.0.0.0", "0.0.0.00", "01.2.3.4", "1.02.3.4", "1.2.003.4", "1.2.3.04", "1.2.3.000", "1.2.3.0255", "1.2.3.0000000004",
		"-1.2.3.4", "1.2.3.-4", "1.2.3.-0", "+1.2.3.4", "1.2.3.+4", " 1.2.3.4", "1.2.3.4 ", "1. 2.3.4", "1.2.3.4\n", "\n1.2.3.4", "1.2.3.4\x00", "\x001.2.3.4",
		"1,2,3,4", "1:2:3:4", "1.2.3:4", "1.2.3.4:80", "1.2.3.4/8", "0x1.2.3.4", "a.b.c.d", "1.2.3.a", "1.2.3.4a", "1.2.3.1e1", "1.2.3.1_0", "0a000001", "16909060", "localhost",
		"٣.٣.٣.٣", "1.2.3.٣", "１.2.3.4", "1.2.3.é", "1。2。3。4", "1.2.3.\xff", "\xff.2.3.4", "1.2.3.4\xff", "1.2.3.4\xc3", "1.2.3./", "1.2.3.;",
		strings.Repeat("1", 1000), strings.Repeat("1.", 1000), strings.Repeat(".", 1000), "1.2.3." + strings.Repeat("9", 1000), "1.2.3." + strings.Repeat("0", 1000),
	}
}

// P4.1: a host's address as it is written, and read.
func TestIP(t *testing.T) {
	for _, c := range []struct {
		a api.IP
		s string
	}{
		{api.IP{10, 0, 0, 1}, "10.0.0.1"},
		{api.IP{}, "0.0.0.0"},
		{api.IP{255, 255, 255, 255}, "255.255.255.255"},
		{api.IP{1, 2, 3, 4}, "1.2.3.4"},
		{api.IP{9, 10, 99, 100}, "9.10.99.100"},
		{api.IP{199, 200, 249, 250}, "199.200.249.250"},
		{api.IP{0, 0, 0, 7}, "0.0.0.7"},
		{api.IP{7, 0, 0, 0}, "7.0.0.0"},
	} {
		if s := WriteIP(c.a); s != c.s {
			t.Errorf("WriteIP(%d) = %q; want %q", c.a, s, c.s)
		}
		if a, e := ReadIP(c.s); a != c.a || e != api.OK {
			t.Errorf("ReadIP(%q) = %d, %d; want %d", c.s, a, e, c.a)
		}
	}
	for _, s := range wrongIPs() {
		if a, e := ReadIP(s); a != (api.IP{}) || e != api.ErrForm {
			t.Errorf("ReadIP(%q) = %d, %d", s, a, e)
		}
	}
}

// P4.1: each number of a byte, and those above it, at each of the four places.
func TestIPEachNumber(t *testing.T) {
	for n := range 1300 {
		for i := range 4 {
			parts := []string{"1", "20", "0", "255"}
			want := api.IP{1, 20, 0, 255}
			parts[i], want[i] = fmt.Sprint(n), byte(n)
			s := strings.Join(parts, ".")
			a, e := ReadIP(s)
			if n > 255 && (a != (api.IP{}) || e != api.ErrForm) || n <= 255 && (a != want || e != api.OK || WriteIP(want) != s) {
				t.Errorf("ReadIP(%q) = %d, %d; WriteIP(%d) = %q", s, a, e, want, WriteIP(want))
			}
			parts[i] = "0" + parts[i]
			if a, e := ReadIP(strings.Join(parts, ".")); a != (api.IP{}) || e != api.ErrForm {
				t.Errorf("ReadIP(%q) = %d, %d", strings.Join(parts, "."), a, e)
			}
		}
	}
}

// P4.1: an address with a port as it is written, and read.
func TestAddr(t *testing.T) {
	for _, c := range []struct {
		a api.Addr
		s string
	}{
		{api.Addr{IP: api.IP{10, 0, 0, 1}, Port: 80}, "10.0.0.1:80"},
		{api.Addr{}, "0.0.0.0:0"},
		{api.Addr{IP: api.IP{255, 255, 255, 255}, Port: 65535}, "255.255.255.255:65535"},
		{api.Addr{IP: api.IP{1, 2, 3, 4}}, "1.2.3.4:0"},
		{api.Addr{Port: 10}, "0.0.0.0:10"},
		{api.Addr{IP: api.IP{1, 2, 3, 4}, Port: 256}, "1.2.3.4:256"},
	} {
		if s := Write(c.a); s != c.s {
			t.Errorf("Write(%d) = %q; want %q", c.a, s, c.s)
		}
		if a, e := Read(c.s); a != c.a || e != api.OK {
			t.Errorf("Read(%q) = %d, %d; want %d", c.s, a, e, c.a)
		}
	}
	for _, s := range []string{
		"", ":", "::", "10.0.0.1", "10.0.0.1:", ":80", "80", "10.0.0.1 80", "10.0.0.1.80", "10.0.0.1::80", "10.0.0.1:80:", ":10.0.0.1:80", "10.0.0.1:80:80", "10.0.0.1:80.", "80:10.0.0.1",
		"10.0.0.1:65536", "10.0.0.1:65540", "10.0.0.1:70000", "10.0.0.1:99999", "10.0.0.1:100000", "10.0.0.1:4294967376", "10.0.0.1:18446744073709551616", "10.0.0.1:18446744073709551696",
		"10.0.0.1:00", "10.0.0.1:080", "10.0.0.1:00080", "10.0.0.1:065535", "10.0.0.1:-1", "10.0.0.1:-0", "10.0.0.1:+80", "10.0.0.1: 80", "10.0.0.1:80 ", " 10.0.0.1:80", "10.0.0.1 :80", "10.0.0.1:80\n", "10.0.0.1:80\x00",
		"10.0.0.1:http", "10.0.0.1:0x50", "10.0.0.1:8a", "10.0.0.1:8e1", "10.0.0.1:6_0", "10.0.0.1:٨٠", "10.0.0.1:８０", "10.0.0.1:8\xff", "10.0.0.1:\xff", "10.0.0.1：80",
		"256.0.0.1:80", "10.0.0:80", "10.0.0.0.1:80", "010.0.0.1:80", "10.0.0.01:80", "[10.0.0.1]:80", "localhost:80",
		"10.0.0.1:" + strings.Repeat("9", 1000), "10.0.0.1:" + strings.Repeat("0", 1000), "10.0.0.1" + strings.Repeat(":80", 1000),
	} {
		if a, e := Read(s); a != (api.Addr{}) || e != api.ErrForm {
			t.Errorf("Read(%q) = %d, %d", s, a, e)
		}
	}
	for _, s := range wrongIPs() {
		// One of these is an address that has its port already.
		if a, e := Read(s + ":80"); a != (api.Addr{}) || e != api.ErrForm {
			t.Errorf("Read(%q) = %d, %d", s+":80", a, e)
		}
	}
}

// P4.1: each port, and those above it.
func TestEachPort(t *testing.T) {
	for n := range 140000 {
		s := fmt.Sprintf("10.0.0.1:%d", n)
		want := api.Addr{IP: api.IP{10, 0, 0, 1}, Port: uint16(n)}
		a, e := Read(s)
		if n > 65535 && (a != (api.Addr{}) || e != api.ErrForm) || n <= 65535 && (a != want || e != api.OK || Write(want) != s) {
			t.Fatalf("Read(%q) = %d, %d; Write(%d) = %q", s, a, e, want, Write(want))
		}
	}
}

// P4.1: a card's address as it is written, and read.
func TestMAC(t *testing.T) {
	for _, c := range []struct {
		a api.MAC
		s string
	}{
		{api.MAC{2, 0, 0, 0, 0, 10}, "02:00:00:00:00:0a"},
		{api.MAC{}, "00:00:00:00:00:00"},
		{api.MAC{255, 255, 255, 255, 255, 255}, "ff:ff:ff:ff:ff:ff"},
		{api.MAC{1, 35, 69, 103, 137, 171}, "01:23:45:67:89:ab"},
		{api.MAC{205, 239, 16, 15, 160, 10}, "cd:ef:10:0f:a0:0a"},
	} {
		if s := WriteMAC(c.a); s != c.s {
			t.Errorf("WriteMAC(%d) = %q; want %q", c.a, s, c.s)
		}
		if a, e := ReadMAC(c.s); a != c.a || e != api.OK {
			t.Errorf("ReadMAC(%q) = %d, %d; want %d", c.s, a, e, c.a)
		}
	}
	for _, s := range []string{
		"", ":", ":::::", "::::::", "02", "020000", "02000000000a", "02:00:00:00:00", "02:00:00:00:00:", ":02:00:00:00:00", "02:00:00:00:00:0a:", ":02:00:00:00:00:0a", "02:00:00:00:00:0a:00", "02::00:00:00:0a", "02:00::00:00:00:0a",
		"2:0:0:0:0:a", "02:00:00:00:00:a", "2:00:00:00:00:0a", "002:00:00:00:00:0a", "02:00:00:00:00:00a", "02:00:00:00:00:0a0", "02:00:00:00:00:000a", "0200:00:00:00:0a", "0200:00:00:00:00:0a", "02:0000:00:00:0a", "02:00:00:00:0:00a", "0:200:00:00:00:0a",
		"02:00:00:00:00:0A", "FF:FF:FF:FF:FF:FF", "Ff:ff:ff:ff:ff:ff", "02:00:00:00:00:0g", "g0:00:00:00:00:00", "02:00:00:00:00:0x", "0x:00:00:00:00:00", "02:00:00:00:00:-1", "+2:00:00:00:00:01", "02:00:00:00:00: a", " 2:00:00:00:00:0a",
		" 02:00:00:00:00:0a", "02:00:00:00:00:0a ", "02:00:00:00:00:0a\n", "02:00:00:00:00:0\n", "02:00:00:00:00:0a\x00", "02-00-00-00-00-0a", "02.00.00.00.00.0a", "02 00 00 00 00 0a", "02:00:00-00:00:0a",
		"é:00:00:00:00:00", "00:00:00:00:00:é", "٣٣:00:00:00:00:00", "00:00:00:00:00:0\xff", "00:00:00:00:00:\xff\xff", "００:00:00:00:00:00", "00:00:00:00:00：00",
		"10.0.0.1", "10.0.0.1:80", strings.Repeat("00:", 1000), strings.Repeat(":", 1000), strings.Repeat("0", 1000), "00:00:00:00:00:" + strings.Repeat("0", 1000),
	} {
		if a, e := ReadMAC(s); a != (api.MAC{}) || e != api.ErrForm {
			t.Errorf("ReadMAC(%q) = %d, %d", s, a, e)
		}
	}
}

// P4.1: each byte at each of the six places, in its two digits and in other ones.
func TestMACEachByte(t *testing.T) {
	for n := range 256 {
		for i := range 6 {
			parts := strings.Split("12:34:56:78:9a:bc", ":")
			want := api.MAC{0x12, 0x34, 0x56, 0x78, 0x9a, 0xbc}
			parts[i], want[i] = fmt.Sprintf("%02x", n), byte(n)
			s := strings.Join(parts, ":")
			if a, e := ReadMAC(s); a != want || e != api.OK || WriteMAC(want) != s {
				t.Errorf("ReadMAC(%q) = %d, %d; WriteMAC(%d) = %q", s, a, e, want, WriteMAC(want))
			}
			for _, other := range []string{fmt.Sprintf("%03x", n), fmt.Sprintf("%02X", n), fmt.Sprintf("%x", n)} {
				if len(other) == 2 && other == strings.ToLower(other) {
					continue
				}
				parts[i] = other
				if a, e := ReadMAC(strings.Join(parts, ":")); a != (api.MAC{}) || e != api.ErrForm {
					t.Errorf("ReadMAC(%q) = %d, %d", strings.Join(parts, ":"), a, e)
				}
			}
		}
	}
}

// P4.1: of all runes none but a digit is one, in each kind of number.
func TestEachRune(t *testing.T) {
	for r := rune(0); r <= 0x10ffff; r++ {
		decimal := strings.ContainsRune("0123456789", r)
		if _, e := ReadIP("1.2.3.1" + string(r)); (e == api.OK) != decimal {
			t.Fatalf("ReadIP with %U: %d", r, e)
		}
		if _, e := Read("1.2.3.4:1" + string(r)); (e == api.OK) != decimal {
			t.Fatalf("Read with %U: %d", r, e)
		}
		if _, e := ReadMAC("00:00:00:00:00:0" + string(r)); (e == api.OK) != strings.ContainsRune("0123456789abcdef", r) {
			t.Fatalf("ReadMAC with %U: %d", r, e)
		}
	}
}

// P4.2: the card's address that means all.
func TestAll(t *testing.T) {
	if a := All(); a != (api.MAC{255, 255, 255, 255, 255, 255}) {
		t.Errorf("All() = %d", a)
	}
	if s := WriteMAC(All()); s != "ff:ff:ff:ff:ff:ff" {
		t.Errorf("All() is written %q", s)
	}
}

// P4.2: what Within answers.
func TestWithin(t *testing.T) {
	for _, c := range []struct {
		a, net api.IP
		bits   int
		want   bool
	}{
		{api.IP{10, 1, 2, 3}, api.IP{10, 0, 0, 0}, 8, true},
		{api.IP{10, 1, 2, 3}, api.IP{10, 0, 0, 0}, 16, false},
		{api.IP{10, 1, 2, 3}, api.IP{10, 0, 0, 0}, 15, true},
		{api.IP{11, 1, 2, 3}, api.IP{10, 0, 0, 0}, 8, false},
		{api.IP{11, 1, 2, 3}, api.IP{10, 0, 0, 0}, 7, true},
		// The net's own bits behind the first ones don't matter.
		{api.IP{10, 1, 2, 3}, api.IP{10, 255, 255, 255}, 8, true},
		{api.IP{10, 1, 2, 3}, api.IP{10, 1, 2, 3}, 32, true},
		{api.IP{10, 1, 2, 3}, api.IP{10, 1, 2, 2}, 32, false},
		{api.IP{10, 1, 2, 3}, api.IP{10, 1, 2, 2}, 31, true},
		// With no bits each address lies within each net.
		{api.IP{255, 255, 255, 255}, api.IP{}, 0, true},
		{api.IP{}, api.IP{255, 255, 255, 255}, 0, true},
		{api.IP{128, 0, 0, 0}, api.IP{}, 1, false},
		{api.IP{127, 255, 255, 255}, api.IP{}, 1, true},
		{api.IP{0, 128, 0, 0}, api.IP{}, 8, true},
		{api.IP{0, 128, 0, 0}, api.IP{}, 9, false},
		{api.IP{}, api.IP{}, -1, false},
		{api.IP{}, api.IP{}, 33, false},
		{api.IP{}, api.IP{}, -32, false},
		{api.IP{}, api.IP{}, 64, false},
		{api.IP{}, api.IP{}, 256, false},
		{api.IP{}, api.IP{}, 1 << 32, false},
		{api.IP{}, api.IP{}, math.MinInt, false},
		{api.IP{}, api.IP{}, math.MaxInt, false},
	} {
		if got := Within(c.a, c.net, c.bits); got != c.want {
			t.Errorf("Within(%d, %d, %d) = %t; want %t", c.a, c.net, c.bits, got, c.want)
		}
	}
}

// bitsOf is an address' bits, one a byte of a text, the highest one of each byte first.
func bitsOf(a api.IP) string {
	return fmt.Sprintf("%08b%08b%08b%08b", a[0], a[1], a[2], a[3])
}

// P4.2: the first bits are held against each other, each one of them, and no other.
func TestWithinEachBit(t *testing.T) {
	for _, a := range ips() {
		for at := range 32 {
			net := a
			net[at/8] ^= 128 >> (at % 8)
			for n := -3; n <= 35; n++ {
				if got, want := Within(a, net, n), n >= 0 && n <= at; got != want {
					t.Fatalf("Within(%d, %d, %d) = %t", a, net, n, got)
				}
				if got, want := Within(a, a, n), n >= 0 && n <= 32; got != want {
					t.Fatalf("Within(%d, %d, %d) = %t", a, a, n, got)
				}
			}
		}
		for _, net := range ips() {
			for n := range 33 {
				if got, want := Within(a, net, n), bitsOf(a)[:n] == bitsOf(net)[:n]; got != want {
					t.Fatalf("Within(%d, %d, %d) = %t", a, net, n, got)
				}
			}
		}
	}
}

// P4.3: what is written is read, and is written as the document says.
func TestWrittenIsRead(t *testing.T) {
	for _, ip := range ips() {
		s := WriteIP(ip)
		if a, e := ReadIP(s); a != ip || e != api.OK || !ipForm.MatchString(s) {
			t.Fatalf("ReadIP(%q) = %d, %d", s, a, e)
		}
		for _, port := range ports() {
			s := Write(api.Addr{IP: ip, Port: port})
			if a, e := Read(s); a.IP != ip || a.Port != port || e != api.OK || !addrForm.MatchString(s) {
				t.Fatalf("Read(%q) = %d, %d", s, a, e)
			}
		}
	}
	for _, mac := range macs() {
		s := WriteMAC(mac)
		if a, e := ReadMAC(s); a != mac || e != api.OK || !macForm.MatchString(s) {
			t.Fatalf("ReadMAC(%q) = %d, %d", s, a, e)
		}
	}
}

// near are a text, and those that come of it by one turn: something left out, put in, or put in another's place.
func near(s string) []string {
	list := []string{s}
	for i := 0; i <= len(s); i++ {
		for _, c := range []string{"0", "1", "2", "5", "6", "9", "a", "f", "A", "g", ".", ":", " ", "-", "\x00", "\xff", "é"} {
			list = append(list, s[:i]+c+s[i:])
			if i < len(s) {
				list = append(list, s[:i]+c+s[i+1:])
			}
		}
		if i < len(s) {
			list = append(list, s[:i]+s[i+1:], s[:i])
		}
	}
	return list
}

// checkText fails, unless each call that reads takes just the texts that are written so, and answers the address that is.
func checkText(t *testing.T, s string) {
	ip, e := ReadIP(s)
	if ipForm.MatchString(s) {
		if e != api.OK || WriteIP(ip) != s {
			t.Fatalf("ReadIP(%q) = %d, %d", s, ip, e)
		}
	} else if e != api.ErrForm || ip != (api.IP{}) {
		t.Fatalf("ReadIP(%q) = %d, %d", s, ip, e)
	}
	addr, e := Read(s)
	if addrForm.MatchString(s) {
		if e != api.OK || Write(addr) != s {
			t.Fatalf("Read(%q) = %d, %d", s, addr, e)
		}
	} else if e != api.ErrForm || addr != (api.Addr{}) {
		t.Fatalf("Read(%q) = %d, %d", s, addr, e)
	}
	mac, e := ReadMAC(s)
	if macForm.MatchString(s) {
		if e != api.OK || WriteMAC(mac) != s {
			t.Fatalf("ReadMAC(%q) = %d, %d", s, mac, e)
		}
	} else if e != api.ErrForm || mac != (api.MAC{}) {
		t.Fatalf("ReadMAC(%q) = %d, %d", s, mac, e)
	}
}

// P4.3: a text is one address's alone: what is read is written as it was.
func TestReadIsWritten(t *testing.T) {
	for _, start := range []string{"10.0.0.1", "255.255.255.255", "0.0.0.0", "25.24.199.99", "10.0.0.1:80", "0.0.0.0:0", "1.2.3.4:65535", "1.2.3.4:6553", "02:00:00:00:00:0a", "ff:ff:ff:ff:ff:ff", ""} {
		for _, s := range near(start) {
			for _, next := range near(s) {
				checkText(t, next)
			}
		}
	}
}

// P4.3: no two addresses have one text.
func TestTextsDiffer(t *testing.T) {
	whose := map[string]any{}
	note := func(s string, a any) {
		if b, ok := whose[s]; ok && b != a {
			t.Fatalf("%q is of %d and of %d", s, b, a)
		}
		whose[s] = a
	}
	for _, ip := range ips() {
		note(WriteIP(ip), ip)
		for _, port := range ports() {
			note(Write(api.Addr{IP: ip, Port: port}), api.Addr{IP: ip, Port: port})
		}
	}
	for _, mac := range macs() {
		note(WriteMAC(mac), mac)
	}
}

// P1: no argument makes a call panic, or go on for ever.
func TestNoPanic(t *testing.T) {
	long := 1 << 22
	for _, s := range []string{
		"", "\x00", "\xff", strings.Repeat("0", long), strings.Repeat("9", long), strings.Repeat(".", long), strings.Repeat(":", long), strings.Repeat("1.", long), strings.Repeat("00:", long), strings.Repeat("\xff", long),
		"1.2.3." + strings.Repeat("9", long), "1.2.3.4:" + strings.Repeat("9", long), "1.2.3.4:" + strings.Repeat("0", long), "00:00:00:00:00:" + strings.Repeat("0", long),
	} {
		if _, e := ReadIP(s); e != api.ErrForm {
			t.Error(e)
		}
		if _, e := Read(s); e != api.ErrForm {
			t.Error(e)
		}
		if _, e := ReadMAC(s); e != api.ErrForm {
			t.Error(e)
		}
	}
	for _, ip := range ips() {
		for _, n := range []int{math.MinInt, math.MinInt + 1, -64, -33, -32, -1, 0, 1, 31, 32, 33, 63, 64, 65, math.MaxInt - 1, math.MaxInt} {
			Within(ip, api.IP{}, n)
			Within(api.IP{}, ip, n)
		}
	}
}

// P2: what is called again answers the same, whatever was called meanwhile.
func TestSameAgain(t *testing.T) {
	all := func() []any {
		ip, e1 := ReadIP("10.0.0.1")
		_, e2 := ReadIP("10.0.0.256")
		a, e3 := Read("10.0.0.1:80")
		_, e4 := Read("10.0.0.1:080")
		mac, e5 := ReadMAC("02:00:00:00:00:0a")
		_, e6 := ReadMAC("02:00:00:00:00:0A")
		return []any{ip, e1, e2, a, e3, e4, mac, e5, e6, WriteIP(ip), Write(a), WriteMAC(mac), All(), Within(ip, api.IP{10}, 8), Within(ip, api.IP{10}, 32)}
	}
	if first, again := all(), all(); !reflect.DeepEqual(first, again) {
		t.Errorf("%v, then %v", first, again)
	}
}

// P2: an address that was answered is not kept: to turn it turns no later answer.
func TestAnswersAreNew(t *testing.T) {
	every := All()
	clear(every[:])
	if a := All(); a != (api.MAC{255, 255, 255, 255, 255, 255}) {
		t.Errorf("All() = %d", a)
	}
	// What was read before leaves nothing behind in what is refused, or read, next.
	ReadIP("255.255.255.255")
	if a, e := ReadIP("1.2.3"); a != (api.IP{}) || e != api.ErrForm {
		t.Error(a, e)
	}
	if a, e := ReadIP("0.0.0.1"); a != (api.IP{0, 0, 0, 1}) || e != api.OK {
		t.Error(a, e)
	}
}
