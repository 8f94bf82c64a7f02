package addr

import (
	"fmt"
	"math"
	"math/rand"
	"regexp"
	"strings"
	"testing"

	"mantlet/api"
)

// corners are addresses at which a lost, a swapped or a wrongly signed byte shows.
var corners = []uint32{0, 1, 9, 10, 99, 100, 127, 128, 255, 256, 0xff00, 0x01020304, 0x0a010203, 0x7fffffff, 0x80000000, 0x80000001, 0xaaaaaaaa, 0xc0a80001, 0xff000000, 0xfffffffe, math.MaxUint32}

// badBits are counts of bits that no address has.
var badBits = []int{math.MinInt, math.MinInt + 1, math.MinInt + 32, -256, -33, -32, -8, -1, 33, 34, 64, 255, 256, 264, 288, 1 << 32, 1<<32 + 8, math.MaxInt}

// slowPrint is the text of an address as the document defines it.
func slowPrint(a uint32) string {
	return fmt.Sprintf("%d.%d.%d.%d", a/(1<<24), a/(1<<16)%256, a/256%256, a%256)
}

// bit returns bit i of a, the highest being bit 0.
func bit(a uint32, i int) uint32 { return a >> (31 - i) & 1 }

// slowValid looks at each address bit behind the highest ones.
func slowValid(n api.Net) bool {
	if n.Bits < 0 || n.Bits > 32 {
		return false
	}
	for i := n.Bits; i < 32; i++ {
		if bit(n.Addr, i) == 1 {
			return false
		}
	}
	return true
}

// slowHas compares the highest bits one by one.
func slowHas(n api.Net, a uint32) bool {
	if !slowValid(n) {
		return false
	}
	for i := range n.Bits {
		if bit(n.Addr, i) != bit(a, i) {
			return false
		}
	}
	return true
}

// slowShow is the text of a valid network as the document defines it.
func slowShow(n api.Net) string {
	if n.Bits == 0 {
		return "any"
	}
	return fmt.Sprintf("%s/%d", slowPrint(n.Addr), n.Bits)
}

// samples returns the corners, each single bit, and mixed addresses, always the same ones.
func samples() []uint32 {
	all := append([]uint32{}, corners...)
	for i := range 32 {
		all = append(all, 1<<i, 1<<i-1, ^uint32(0)<<i)
	}
	r := rand.New(rand.NewSource(3))
	for range 200 {
		all = append(all, r.Uint32())
	}
	return all
}

// cut keeps the bits highest bits of a.
func cut(a uint32, bits int) uint32 {
	for i := bits; i < 32; i++ {
		a &^= 1 << (31 - i)
	}
	return a
}

func wantParse(t *testing.T, s string, a uint32) {
	t.Helper()
	if got, e := Parse(s); got != a || e != api.OK {
		t.Errorf("Parse(%q) = %#x, %d, want %#x", s, got, e, a)
	}
}

func wantNoAddress(t *testing.T, s string) {
	t.Helper()
	if a, e := Parse(s); a != 0 || e != api.ErrText {
		t.Errorf("Parse(%.99q) = %#x, %d, want ErrText", s, a, e)
	}
}

func wantNet(t *testing.T, s string, n api.Net) {
	t.Helper()
	if got, e := Net(s); got != n || e != api.OK {
		t.Errorf("Net(%q) = %+v, %d, want %+v", s, got, e, n)
	}
	if got, e := Show(n); got != s || e != api.OK {
		t.Errorf("Show(%+v) = %q, %d, want %q", n, got, e, s)
	}
}

func wantNoNet(t *testing.T, s string) {
	t.Helper()
	if n, e := Net(s); n != (api.Net{}) || e != api.ErrText {
		t.Errorf("Net(%.99q) = %+v, %d, want ErrText", s, n, e)
	}
}

// P3.1: ordinary addresses and those with the bytes 0 and 255, both ways.
func TestAddress(t *testing.T) {
	for _, c := range []struct {
		s string
		a uint32
	}{
		{"0.0.0.0", 0},
		{"255.255.255.255", math.MaxUint32},
		{"10.1.2.3", 0x0a010203},
		{"1.2.3.4", 0x01020304},
		{"192.168.0.199", 0xc0a800c7},
		{"0.0.0.255", 255},
		{"255.0.0.0", 0xff000000},
		{"0.255.0.0", 0x00ff0000},
		{"0.0.255.0", 0x0000ff00},
		{"127.0.0.1", 0x7f000001},
		{"128.0.0.0", 1 << 31},
		{"100.20.3.99", 0x64140363},
	} {
		wantParse(t, c.s, c.a)
		if s := Print(c.a); s != c.s {
			t.Errorf("Print(%#x) = %q, want %q", c.a, s, c.s)
		}
	}
}

// P3.1: every byte in every place.
func TestEveryByte(t *testing.T) {
	for place := range 4 {
		for c := range uint32(256) {
			for _, rest := range []uint32{0, 0x01020304, math.MaxUint32} {
				a := rest&^(255<<(8*place)) | c<<(8*place)
				s := slowPrint(a)
				wantParse(t, s, a)
				if got := Print(a); got != s {
					t.Errorf("Print(%#x) = %q, want %q", a, got, s)
				}
			}
		}
	}
}

// P3.1: many addresses, held against the document's definition.
func TestManyAddresses(t *testing.T) {
	for _, a := range samples() {
		s := slowPrint(a)
		wantParse(t, s, a)
		if got := Print(a); got != s {
			t.Errorf("Print(%#x) = %q, want %q", a, got, s)
		}
	}
}

// badNumbers are texts that no number from 0 to 255 has.
var badNumbers = []string{
	"", " ", "00", "01", "007", "000", "0255", "0000000000001",
	"256", "257", "260", "300", "999", "1000", "2560", "65536", "4294967295", "4294967296", "18446744073709551615", "18446744073709551616", "18446744073709551617", "99999999999999999999999999999999",
	"+1", "-1", "-0", "+0", " 1", "1 ", "1\n", "\t1", "1\x00", "\x001",
	"a", "1a", "a1", "0x1", "0b1", "0o1", "1_0", "_1", "1_", "1e1", "1,", "/", ":", "0/", "1:",
	"\xff", "1\xff", "\x80", "é", "\u0661", "１", "any",
}

// P3.1: a part that is not the text of a byte, in every place.
func TestAddressWithABadNumber(t *testing.T) {
	for _, bad := range badNumbers {
		for place := range 4 {
			parts := []string{"1", "2", "3", "4"}
			parts[place] = bad
			wantNoAddress(t, strings.Join(parts, "."))
		}
	}
	for n := 256; n <= 1100; n++ {
		wantNoAddress(t, fmt.Sprintf("%d.0.0.0", n))
		wantNoAddress(t, fmt.Sprintf("0.0.0.%d", n))
	}
	for n := range 256 {
		wantNoAddress(t, fmt.Sprintf("0%d.0.0.0", n))
		wantNoAddress(t, fmt.Sprintf("0.0.0.0%d", n))
	}
}

// P3.1: too few and too many numbers, and other separators.
func TestAddressOfAnotherForm(t *testing.T) {
	for _, s := range []string{
		"", ".", "..", "...", "....", "1", "1.2", "1.2.3", "1.2.3.4.5", "1.2.3.4.5.6.7.8", "16909060", "0x01020304",
		"1.2.3.", ".1.2.3", ".1.2.3.4", "1.2.3.4.", "1..3.4", "1..2.3.4", "1.2.3.4..", " 1.2.3.4", "1.2.3.4 ", "1.2.3.4\n", "1.2.3.4\x00",
		"1,2,3,4", "1 2 3 4", "1:2:3:4", "1/2/3/4", "1.2.3,4", "1。2。3。4", "1.2.3.4/32", "1.2.3.4/", "any", "any.any.any.any", "::1", "a.b.c.d", "-1.2.3.4", "+1.2.3.4",
	} {
		wantNoAddress(t, s)
	}
}

// P3.1: very long texts.
func TestLongTexts(t *testing.T) {
	const size = 100000
	for _, c := range []string{"0", "1", "9", ".", "/", "1.", "1/", "\xff", "any", " "} {
		long := strings.Repeat(c, size)
		for _, s := range []string{long, long + ".2.3.4", "1.2.3." + long, "1.2.3.4" + long} {
			wantNoAddress(t, s)
			wantNoNet(t, s)
		}
		for _, s := range []string{long + "/8", "10.0.0.0/" + long, "10.0.0.0" + long + "/8", "10.0.0.0/8" + long} {
			wantNoNet(t, s)
		}
	}
}

// P3.1: ordinary networks, all bits, none, and a single one, both ways.
func TestNetwork(t *testing.T) {
	for _, c := range []struct {
		s string
		n api.Net
	}{
		{"any", api.Net{}},
		{"10.0.0.0/8", api.Net{Addr: 0x0a000000, Bits: 8}},
		{"10.1.0.0/16", api.Net{Addr: 0x0a010000, Bits: 16}},
		{"10.1.2.0/24", api.Net{Addr: 0x0a010200, Bits: 24}},
		{"1.2.3.4/32", api.Net{Addr: 0x01020304, Bits: 32}},
		{"1.2.3.4/30", api.Net{Addr: 0x01020304, Bits: 30}},
		{"0.0.0.0/32", api.Net{Addr: 0, Bits: 32}},
		{"255.255.255.255/32", api.Net{Addr: math.MaxUint32, Bits: 32}},
		{"255.255.255.254/31", api.Net{Addr: math.MaxUint32 - 1, Bits: 31}},
		{"128.0.0.0/1", api.Net{Addr: 1 << 31, Bits: 1}},
		{"0.0.0.0/1", api.Net{Addr: 0, Bits: 1}},
		{"0.0.0.0/10", api.Net{Addr: 0, Bits: 10}},
		{"192.128.0.0/9", api.Net{Addr: 0xc0800000, Bits: 9}},
	} {
		wantNet(t, c.s, c.n)
	}
	for _, s := range []string{"10.1.0.0/8", "192.168.0.0/9", "10.0.0.1/31", "255.255.255.255/31", "128.0.0.1/1", "64.0.0.0/1"} {
		wantNoNet(t, s)
	}
}

// P3.1: every number of bits of many addresses: the valid ones both ways, the others neither.
func TestManyNetworks(t *testing.T) {
	for _, a := range samples() {
		for bits := 1; bits <= 32; bits++ {
			n := api.Net{Addr: cut(a, bits), Bits: bits}
			wantNet(t, slowShow(n), n)
			if n = (api.Net{Addr: a, Bits: bits}); !slowValid(n) {
				wantNoNet(t, slowShow(n))
				wantNotShown(t, n)
			}
		}
		if a != 0 {
			wantNotShown(t, api.Net{Addr: a})
		}
		wantNoNet(t, slowPrint(a)+"/0")
	}
}

func wantNotShown(t *testing.T, n api.Net) {
	t.Helper()
	if s, e := Show(n); s != "" || e != api.ErrArg {
		t.Errorf("Show(%+v) = %q, %d, want ErrArg", n, s, e)
	}
}

// P3.1: each single address bit behind the highest ones makes a network invalid.
func TestNetworkWithALowBit(t *testing.T) {
	for bits := range 33 {
		for i := range 32 {
			n := api.Net{Addr: cut(0xaaaaaaaa, bits) | 1<<(31-i), Bits: bits}
			if i < bits {
				wantNet(t, slowShow(n), n)
				continue
			}
			wantNotShown(t, n)
			wantNoNet(t, fmt.Sprintf("%s/%d", slowPrint(n.Addr), bits))
		}
	}
}

// P3.1: Bits below 0 and above 32, also where a shift by them, or by what they are modulo 32 or 256, would do.
func TestNetworkWithBadBits(t *testing.T) {
	for _, bits := range badBits {
		for _, a := range samples() {
			wantNotShown(t, api.Net{Addr: a, Bits: bits})
		}
		wantNoNet(t, fmt.Sprintf("0.0.0.0/%d", bits))
		wantNoNet(t, fmt.Sprintf("10.0.0.0/%d", bits))
		wantNoNet(t, fmt.Sprintf("255.255.255.255/%d", bits))
	}
}

// P3.1: the network without bits has no other text than any.
func TestNoBits(t *testing.T) {
	wantNet(t, "any", api.Net{})
	for _, s := range []string{
		"0.0.0.0/0", "1.2.3.4/0", "0.0.0.0", "0/0", "/0", "0", "", "/", "any/0", "any/8", "any/", "/any",
		"Any", "ANY", "an", "anyy", " any", "any ", "any\n", "any\x00", "\x00any", "any any",
	} {
		wantNoNet(t, s)
	}
}

// P3.1: texts without one of the parts, with one more, or with a part that is not the text of its number.
func TestNetworkOfAnotherForm(t *testing.T) {
	for _, s := range []string{
		"10.0.0.0", "10.0.0.0/", "/8", "//", "8", "10/8", "10.0/8", "10.0.0/8", "10.0.0.0.0/8", "10.0.0.0//8", "10.0.0.0/8/", "10.0.0.0/8/8", "/10.0.0.0/8",
		"10.0.0.0 /8", "10.0.0.0/ 8", " 10.0.0.0/8", "10.0.0.0/8 ", "10.0.0.0/8\n", "10.0.0.0\\8", "10.0.0.0:8", "10.0.0.0.8", "8/10.0.0.0", "10.0.0.0/255.0.0.0", "10.0.0.0/8.0",
		"010.0.0.0/8", "256.0.0.0/8", "10.0.0.0x/8", "\xff.0.0.0/8", "10.0.0.0/\xff",
	} {
		wantNoNet(t, s)
	}
	for _, bad := range badNumbers {
		wantNoNet(t, "10.0.0.0/"+bad)
		wantNoNet(t, bad+".0.0.0/8")
		wantNoNet(t, "10.0.0."+bad+"/32")
	}
	for bits := 33; bits <= 1100; bits++ {
		wantNoNet(t, fmt.Sprintf("10.0.0.0/%d", bits))
	}
	for bits := range 33 {
		wantNoNet(t, fmt.Sprintf("0.0.0.0/0%d", bits))
	}
}

// P3.1: one byte of a text put in, taken out or changed.
func TestChangedTexts(t *testing.T) {
	for _, s := range []string{"10.1.2.3", "255.0.99.100", "10.0.0.0/8", "192.168.1.1/32", "0.0.0.0/1", "any"} {
		for at := range len(s) + 1 {
			for c := range 256 {
				put := s[:at] + string([]byte{byte(c)})
				wantAsDefined(t, put+s[at:])
				if at < len(s) {
					wantAsDefined(t, put+s[at+1:])
					wantAsDefined(t, s[:at]+s[at+1:])
				}
			}
		}
	}
}

const (
	oneByte   = `(25[0-5]|2[0-4][0-9]|1[0-9][0-9]|[1-9][0-9]|[0-9])`
	fourBytes = oneByte + `\.` + oneByte + `\.` + oneByte + `\.` + oneByte
	someBits  = `(3[0-2]|[12][0-9]|[1-9])`
)

var (
	addrForm = regexp.MustCompile(`\A` + fourBytes + `\z`)
	netForm  = regexp.MustCompile(`\A` + fourBytes + `/` + someBits + `\z`)
)

// slowNumbers returns the numbers that the form finds in s, or none.
func slowNumbers(form *regexp.Regexp, s string) []int {
	var all []int
	if found := form.FindStringSubmatch(s); found != nil {
		for _, text := range found[1:] {
			n := 0
			for _, digit := range []byte(text) {
				n = 10*n + int(digit-'0')
			}
			all = append(all, n)
		}
	}
	return all
}

func slowAddress(n []int) uint32 {
	return uint32(n[0]*(1<<24) + n[1]*(1<<16) + n[2]*256 + n[3])
}

// wantAsDefined holds Parse and Net against the forms of the texts.
func wantAsDefined(t *testing.T, s string) {
	t.Helper()
	if n := slowNumbers(addrForm, s); n != nil {
		wantParse(t, s, slowAddress(n))
	} else {
		wantNoAddress(t, s)
	}
	want, known := api.Net{}, s == "any"
	if n := slowNumbers(netForm, s); n != nil {
		want = api.Net{Addr: slowAddress(n), Bits: n[4]}
		known = slowValid(want)
	}
	if known {
		wantNet(t, s, want)
	} else {
		wantNoNet(t, s)
	}
}

// P3.1: texts of arbitrary bytes.
func TestArbitraryBytes(t *testing.T) {
	r := rand.New(rand.NewSource(31))
	for range 20000 {
		b := make([]byte, r.Intn(24))
		for i := range b {
			b[i] = byte(r.Intn(256))
			if r.Intn(8) > 0 {
				b[i] = "0123456789./any"[r.Intn(15)]
			}
		}
		wantAsDefined(t, string(b))
	}
	for c := range 256 {
		wantNoAddress(t, string([]byte{byte(c)}))
		wantNoNet(t, string([]byte{byte(c)}))
	}
}

// P3.2: ordinary networks, and addresses just inside and outside.
func TestHas(t *testing.T) {
	for _, c := range []struct {
		n    api.Net
		a    uint32
		want bool
	}{
		{api.Net{Addr: 0x0a000000, Bits: 8}, 0x0a010203, true},
		{api.Net{Addr: 0x0a000000, Bits: 8}, 0x0a000000, true},
		{api.Net{Addr: 0x0a000000, Bits: 8}, 0x0affffff, true},
		{api.Net{Addr: 0x0a000000, Bits: 8}, 0x09ffffff, false},
		{api.Net{Addr: 0x0a000000, Bits: 8}, 0x0b000000, false},
		{api.Net{Addr: 0x0a000000, Bits: 31}, 0x0a000001, true},
		{api.Net{Addr: 0x0a000000, Bits: 31}, 0x0a000002, false},
		{api.Net{Addr: 0x01020304, Bits: 32}, 0x01020304, true},
		{api.Net{Addr: 0x01020304, Bits: 32}, 0x01020305, false},
		{api.Net{Addr: 0x01020304, Bits: 32}, 0x81020304, false},
		{api.Net{Addr: 0, Bits: 32}, 0, true},
		{api.Net{Addr: 0, Bits: 32}, 1, false},
		{api.Net{Addr: math.MaxUint32, Bits: 32}, math.MaxUint32, true},
		{api.Net{Addr: 0, Bits: 1}, 0x7fffffff, true},
		{api.Net{Addr: 0, Bits: 1}, 0x80000000, false},
		{api.Net{Addr: 1 << 31, Bits: 1}, math.MaxUint32, true},
		{api.Net{Addr: 1 << 31, Bits: 1}, 0x7fffffff, false},
	} {
		if got := Has(c.n, c.a); got != c.want {
			t.Errorf("Has(%+v, %#x) = %v", c.n, c.a, got)
		}
	}
}

// P3.2: the network without bits contains every address.
func TestAnyHasAll(t *testing.T) {
	for _, a := range samples() {
		if !Has(api.Net{}, a) {
			t.Errorf("%#x is not in any", a)
		}
	}
}

// P3.2: of the highest bits each one counts, of the others none.
func TestHasByBits(t *testing.T) {
	for _, a := range samples() {
		for bits := range 33 {
			n := api.Net{Addr: cut(a, bits), Bits: bits}
			for i := range 32 {
				other := a ^ 1<<(31-i)
				if Has(n, other) != (i >= bits) {
					t.Errorf("Has(%+v, %#x) = %v", n, other, i < bits)
				}
			}
		}
	}
}

// P3.2: valid and other networks with many addresses, held against a bitwise reference.
func TestManyHas(t *testing.T) {
	for _, a := range samples() {
		for bits := -1; bits <= 33; bits++ {
			for _, n := range []api.Net{{Addr: a, Bits: bits}, {Addr: cut(a, max(bits, 0)), Bits: bits}} {
				for _, b := range corners {
					if got := Has(n, b); got != slowHas(n, b) {
						t.Fatalf("Has(%+v, %#x) = %v", n, b, got)
					}
				}
			}
		}
	}
}

// P3.2: a network that is not valid contains nothing, not even its own address.
func TestInvalidHasNothing(t *testing.T) {
	var all []api.Net
	for _, bits := range badBits {
		all = append(all, api.Net{Bits: bits}, api.Net{Addr: 0x0a000000, Bits: bits}, api.Net{Addr: math.MaxUint32, Bits: bits})
	}
	for bits := range 32 {
		all = append(all, api.Net{Addr: 1 << (31 - bits), Bits: bits}, api.Net{Addr: 1, Bits: bits}, api.Net{Addr: math.MaxUint32, Bits: bits})
	}
	for _, n := range all {
		for _, a := range append([]uint32{n.Addr, cut(n.Addr, min(max(n.Bits, 0), 32))}, corners...) {
			if Has(n, a) {
				t.Errorf("%+v contains %#x", n, a)
			}
		}
	}
}
