package icmp

import (
	"bytes"
	"math/rand"
	"testing"

	"mantlet/api"
	"mantlet/sum"
)

// The content of a ping that another program makes.
const letters = "abcdefghijklmnopqrstuvwabcdefghi"

// The identifier and the number of most messages here.
const (
	ident  = 0x1234
	number = 0x5678
)

// edges are words at which a lost byte or a lost carry shows.
var edges = []uint16{0, 1, 0x7f, 0x80, 0xff, 0x100, 0x1234, 0x7fff, 0x8000, 0xf7ff, 0xff00, 0xfffe, 0xffff}

// parsed is what Parse returns.
type parsed struct {
	kind  uint8
	ident uint16
	e     api.Errno
}

// asked and answered are the results for a message with ident.
var (
	asked    = parsed{api.Echo, ident, api.OK}
	answered = parsed{api.EchoReply, ident, api.OK}
)

// putWord stores a number in two bytes.
func putWord(b []byte, at, n int) {
	b[at], b[at+1] = byte(n/256), byte(n%256)
}

// mend makes the checksum of b right, if b has bytes for it.
func mend(b []byte) []byte {
	if len(b) >= 4 {
		putWord(b, 2, 0)
		putWord(b, 2, int(sum.Of(b)))
	}
	return b
}

// content returns so many bytes, of which neighbours differ.
func content(size int) []byte {
	b := make([]byte, size)
	for i := range b {
		b[i] = byte(37*i + 11)
	}
	return b
}

// message returns a request without an error, with so many bytes of content.
func message(size int) []byte {
	b := []byte{8, 0, 0, 0, ident >> 8, ident & 255, number >> 8, number & 255}
	return mend(append(b, content(size)...))
}

// wantParse holds all results of Parse against want.
func wantParse(t *testing.T, b []byte, want parsed) {
	t.Helper()
	var got parsed
	if got.kind, got.ident, got.e = Parse(b); got != want {
		t.Fatalf("Parse(%d bytes: %x) = %+v, want %+v", len(b), b[:min(len(b), 40)], got, want)
	}
}

// wantError wants an error, and nothing beside it.
func wantError(t *testing.T, b []byte, e api.Errno) {
	t.Helper()
	wantParse(t, b, parsed{e: e})
}

// wantBuild wants a message that Build makes.
func wantBuild(t *testing.T, kind uint8, ident uint16, b, want []byte) {
	t.Helper()
	if got, e := Build(kind, ident, b); e != api.OK || !bytes.Equal(got, want) {
		t.Fatalf("Build(%d, %#x, %d bytes) = %x, %d, want %x", kind, ident, len(b), got, e, want)
	}
}

// wantNoBuild wants an error, and no message beside it.
func wantNoBuild(t *testing.T, kind uint8, b []byte, e api.Errno) {
	t.Helper()
	if got, f := Build(kind, ident, b); f != e || len(got) != 0 {
		t.Fatalf("Build(%d, .., %d bytes) = %d bytes, %d, want error %d", kind, len(b), len(got), f, e)
	}
}

// P7.1: messages that other programs made, of both kinds.
func TestParseKnown(t *testing.T) {
	wantParse(t, append([]byte{8, 0, 0x4d, 0x5a, 0, 1, 0, 1}, letters...), parsed{8, 1, api.OK})
	wantParse(t, append([]byte{0, 0, 0x55, 0x5a, 0, 1, 0, 1}, letters...), parsed{0, 1, api.OK})
	wantParse(t, []byte{8, 0, 247, 254, 0, 1, 0, 0}, parsed{8, 1, api.OK})
	wantParse(t, []byte{0, 0, 255, 254, 0, 1, 0, 0}, parsed{0, 1, api.OK})
	wantError(t, append([]byte{8, 0, 0x4d, 0x5b, 0, 1, 0, 1}, letters...), api.ErrSum)
	wantError(t, append([]byte{0, 0, 0x4d, 0x5a, 0, 1, 0, 1}, letters...), api.ErrSum)
}

// P7.1: every kind with every code, with a checksum that is right and one that is wrong.
func TestParseEveryKindAndCode(t *testing.T) {
	for _, size := range []int{0, 5} {
		b := message(size)
		for first := range 65536 {
			putWord(b, 0, first)
			want := parsed{e: api.ErrKind}
			switch first {
			case 0x0800:
				want = asked
			case 0x0000:
				want = answered
			}
			wantParse(t, mend(b), want)
			b[3]++
			wantError(t, b, api.ErrSum)
		}
	}
}

// P7.1: the identifier has two bytes of its own, most significant first.
func TestParseEveryIdent(t *testing.T) {
	for _, kind := range []uint8{api.Echo, api.EchoReply} {
		b := message(3)
		b[0] = kind
		for n := range 65536 {
			putWord(b, 4, n)
			wantParse(t, mend(b), parsed{kind, uint16(n), api.OK})
		}
	}
}

// P7.1: the number makes no difference but to the sum.
func TestParseIgnoresTheNumber(t *testing.T) {
	b := message(2)
	for n := range 65536 {
		putWord(b, 6, n)
		wantParse(t, mend(b), asked)
		b[7] ^= 1
		wantError(t, b, api.ErrSum)
	}
}

// P7.1: every byte of the content, in each place of a word.
func TestParseIgnoresTheContent(t *testing.T) {
	for at := range 5 {
		for c := range 256 {
			b := message(5)
			b[8+at] = byte(c)
			wantParse(t, mend(b), asked)
		}
	}
}

// P7.1: all lengths of small messages and the edges of larger ones; no length is too great.
func TestParseOfAllLengths(t *testing.T) {
	sizes := []int{255, 256, 257, 1471, 1472, 1473, 1479, 1480, 1481, 1500, 1501, 65535, 65536, 70001}
	for size := range 80 {
		sizes = append(sizes, size)
	}
	for _, size := range sizes {
		b := mend(message(size)[:size])
		right, wrong := asked, parsed{e: api.ErrSum}
		if size < 8 {
			right, wrong = parsed{e: api.ErrShort}, parsed{e: api.ErrShort}
		}
		wantParse(t, b, right)
		if size > 0 {
			b[size-1] ^= 1
			wantParse(t, b, wrong)
		}
	}
}

// P7.1: each single bit turned, with the checksum as it was, and with one that is right again.
func TestParseWithABitTurned(t *testing.T) {
	for _, size := range []int{0, 1, 2, 31, 32, 1471, 1472} {
		for bit := range 8 * (8 + size) {
			at := bit / 8
			b := message(size)
			b[at] ^= 1 << (bit % 8)
			wantError(t, b, api.ErrSum)
			want := asked
			switch at {
			case 0, 1:
				want = parsed{e: api.ErrKind}
			case 4, 5:
				want.ident = uint16(b[4])*256 + uint16(b[5])
			}
			if b[0] == api.EchoReply {
				want = answered
			}
			wantParse(t, mend(b), want)
		}
	}
}

// P7.1: of all checksums, one is right; or 0 and 65535 both are, as their sum with words that are not all 0 is the same.
func TestParseEveryChecksum(t *testing.T) {
	for _, c := range []struct {
		b    []byte
		want parsed
		all  []int
	}{
		{[]byte{8, 0, 0, 0, 0, 1, 0, 0}, parsed{8, 1, api.OK}, []int{0xf7fe}},
		{[]byte{8, 0, 0, 0, 0, 1, 0, 0, 2}, parsed{8, 1, api.OK}, []int{0xf5fe}},
		{[]byte{0, 0, 0, 0, 0, 1, 0, 0, 0, 2}, parsed{0, 1, api.OK}, []int{0xfffc}},
		{[]byte{8, 0, 0, 0, 0xf7, 0xff, 0, 0}, parsed{8, 0xf7ff, api.OK}, []int{0, 65535}},
		{[]byte{0, 0, 0, 0, 0xff, 0xff, 0xff, 0xff}, parsed{0, 65535, api.OK}, []int{0, 65535}},
		{[]byte{0, 0, 0, 0, 0, 0, 0, 0, 0xff, 0xfe, 0, 1}, parsed{0, 0, api.OK}, []int{0, 65535}},
		{[]byte{0, 0, 0, 0, 0, 0, 0, 0}, parsed{0, 0, api.OK}, []int{65535}},
		{[]byte{0, 0, 0, 0, 0, 0, 0, 0, 0}, parsed{0, 0, api.OK}, []int{65535}},
	} {
		right := map[int]int{}
		for _, check := range c.all {
			right[check] = 1
		}
		for check := range 65536 {
			putWord(c.b, 2, check)
			want := parsed{e: api.ErrSum}
			if right[check] == 1 {
				want = c.want
			}
			wantParse(t, c.b, want)
		}
	}
}

// P7.1: bytes that are all 0 are a reply without its checksum, if there are enough of them; bytes that are all 255 have the right sum and no right kind.
func TestParseOfEqualBytes(t *testing.T) {
	for _, size := range []int{0, 1, 2, 3, 4, 7, 8, 9, 10, 11, 1472, 1480, 1500} {
		zero, full := api.ErrSum, api.ErrKind
		if size < 8 {
			zero, full = api.ErrShort, api.ErrShort
		} else if size%2 == 1 { // the last word is 0xff00
			full = api.ErrSum
		}
		wantError(t, make([]byte, size), zero)
		wantError(t, bytes.Repeat([]byte{255}, size), full)
	}
}

// P7.1: each error alone, in a message that has nothing else wrong.
func TestEachErrorOfParse(t *testing.T) {
	for _, size := range []int{12, 13} {
		wantParse(t, message(size), asked)
		wantError(t, nil, api.ErrShort)
		wantError(t, []byte{}, api.ErrShort)
		wantError(t, message(size)[:0], api.ErrShort)
		wantError(t, mend(message(size)[:7]), api.ErrShort)
		wantError(t, message(size)[:7+size], api.ErrSum)
		wantError(t, append(message(size), 0, 1), api.ErrSum)
		for at := range 8 + size {
			b := message(size)
			b[at]++
			wantError(t, b, api.ErrSum)
		}
		for _, kind := range []byte{1, 3, 5, 7, 9, 11, 13, 14, 16, 40, 128, 136, 255} {
			b := message(size)
			b[0] = kind
			wantError(t, mend(b), api.ErrKind)
		}
		for _, code := range []byte{1, 2, 8, 127, 128, 255} {
			for _, kind := range []byte{0, 8} {
				b := message(size)
				b[0], b[1] = kind, code
				wantError(t, mend(b), api.ErrKind)
			}
		}
	}
}

// P7.1 and R2: of several errors, the one that the chapter names first.
func TestOrderOfErrorsOfParse(t *testing.T) {
	for _, c := range []struct {
		b []byte
		e api.Errno
	}{
		{[]byte{8, 0, 0xf7, 0xff, 0, 0, 0}, api.ErrShort}, // nothing else
		{[]byte{8, 0, 0, 0, 0, 0, 0}, api.ErrShort},       // and a wrong sum
		{[]byte{3, 0, 0xfc, 0xff, 0, 0, 0}, api.ErrShort}, // and another kind
		{[]byte{0, 1, 0xff, 0xfe}, api.ErrShort},          // and another code
		{[]byte{3, 1, 0, 0, 0, 0, 0}, api.ErrShort},       // and all of them
		{[]byte{3}, api.ErrShort},
		{[]byte{3, 0, 0, 0, 0, 1, 0, 0}, api.ErrSum}, // a wrong sum, and another kind
		{[]byte{8, 1, 0, 0, 0, 1, 0, 0}, api.ErrSum}, // or another code
		{[]byte{0, 1, 0, 0, 0, 1, 0, 0}, api.ErrSum},
		{[]byte{255, 255, 0, 0, 0, 1, 0, 0}, api.ErrSum}, // or both
		{[]byte{8, 0, 0, 0, 0, 1, 0, 0}, api.ErrSum},
		{[]byte{3, 1, 0xfc, 0xfd, 0, 1, 0, 0}, api.ErrKind},
	} {
		wantError(t, c.b, c.e)
	}
}

// P7.2: the document's example, and messages that other programs made, with number 0.
func TestBuildKnown(t *testing.T) {
	wantBuild(t, api.Echo, 1, nil, []byte{8, 0, 247, 254, 0, 1, 0, 0})
	wantBuild(t, api.EchoReply, 1, nil, []byte{0, 0, 255, 254, 0, 1, 0, 0})
	wantBuild(t, api.Echo, 1, []byte(letters), append([]byte{8, 0, 0x4d, 0x5b, 0, 1, 0, 0}, letters...))
	wantBuild(t, api.EchoReply, 1, []byte(letters), append([]byte{0, 0, 0x55, 0x5b, 0, 1, 0, 0}, letters...))
	wantBuild(t, api.Echo, 0x102, []byte{7, 8, 9}, []byte{8, 0, 0xe6, 0xf5, 1, 2, 0, 0, 7, 8, 9})
	wantBuild(t, api.Echo, 0, []byte{0x80}, []byte{8, 0, 0x77, 0xff, 0, 0, 0, 0, 0x80})
}

// P7.2: a checksum that is 0 stays 0, and one of words that are all 0 is 65535.
func TestBuildEdgesOfTheChecksum(t *testing.T) {
	wantBuild(t, api.Echo, 0xf7ff, nil, []byte{8, 0, 0, 0, 0xf7, 0xff, 0, 0})
	wantBuild(t, api.EchoReply, 65535, nil, []byte{0, 0, 0, 0, 255, 255, 0, 0})
	wantBuild(t, api.EchoReply, 65535, []byte{255, 255}, []byte{0, 0, 0, 0, 255, 255, 0, 0, 255, 255})
	wantBuild(t, api.Echo, 0, []byte{0xf7, 0xff}, []byte{8, 0, 0, 0, 0, 0, 0, 0, 0xf7, 0xff})
	for _, size := range []int{0, 1, 2, 3, 1471, 1472} {
		zeros := make([]byte, size)
		wantBuild(t, api.EchoReply, 0, zeros, append([]byte{0, 0, 255, 255, 0, 0, 0, 0}, zeros...))
	}
}

// P7.2: every kind, with content that is short, long enough and too long.
func TestBuildEveryKind(t *testing.T) {
	for kind := range 256 {
		for _, size := range []int{0, 1, 1472, 1473, 65536} {
			b := content(size)
			switch {
			case kind != 0 && kind != 8:
				wantNoBuild(t, uint8(kind), b, api.ErrKind)
			case size > 1472:
				wantNoBuild(t, uint8(kind), b, api.ErrOver)
			default:
				want := append([]byte{byte(kind), 0, 0, 0, ident >> 8, ident & 255, 0, 0}, b...)
				wantBuild(t, uint8(kind), ident, b, mend(want))
			}
		}
	}
}

// P7.2: every length of content, odd and even; Parse accepts what Build makes.
func TestBuildOfAllLengths(t *testing.T) {
	for size := range 1473 {
		b := content(size)
		wantBuild(t, api.Echo, ident, b, mend(append([]byte{8, 0, 0, 0, 0x12, 0x34, 0, 0}, b...)))
		wantBuild(t, api.EchoReply, ident, b, mend(append([]byte{0, 0, 0, 0, 0x12, 0x34, 0, 0}, b...)))
		made, _ := Build(api.Echo, ident, b)
		wantParse(t, made, asked)
		made, _ = Build(api.EchoReply, ident, b)
		wantParse(t, made, answered)
	}
	for _, size := range []int{1473, 1474, 1480, 1500, 2944, 65535, 65536, 67008, 1 << 20} {
		wantNoBuild(t, api.Echo, content(size), api.ErrOver)
		wantNoBuild(t, api.EchoReply, make([]byte, size), api.ErrOver)
	}
}

// P7.2: every identifier, most significant byte first; Parse returns it again.
func TestBuildEveryIdent(t *testing.T) {
	for n := range 65536 {
		for _, b := range [][]byte{nil, {9, 8, 7}} {
			want := mend(append([]byte{8, 0, 0, 0, byte(n / 256), byte(n % 256), 0, 0}, b...))
			wantBuild(t, api.Echo, uint16(n), b, want)
			wantParse(t, want, parsed{8, uint16(n), api.OK})
		}
	}
}

// P7.2: the checksum covers everything, whatever the content; and it is the only right one, but for 0 and 65535.
func TestBuildOfManyContents(t *testing.T) {
	random := rand.New(rand.NewSource(1))
	for range 3000 {
		b := make([]byte, random.Intn(100))
		random.Read(b)
		for _, n := range edges {
			made, e := Build(api.EchoReply, n, b)
			if e != api.OK || sum.Add(0, made) != 65535 || !bytes.Equal(made[8:], b) {
				t.Fatalf("Build(0, %#x, %x) = %x, %d", n, b, made, e)
			}
			wantParse(t, made, parsed{0, n, api.OK})
			made[2+random.Intn(2)] ^= 1 << random.Intn(8)
			wantError(t, made, api.ErrSum)
		}
	}
}

// R1: nil and empty content are the same, in either place.
func TestNoContent(t *testing.T) {
	for _, n := range edges {
		want := mend([]byte{8, 0, 0, 0, byte(n >> 8), byte(n), 0, 0})
		for _, b := range [][]byte{nil, {}, content(9)[:0], content(9)[9:]} {
			wantBuild(t, api.Echo, n, b, want)
			wantError(t, b, api.ErrShort)
			wantNoBuild(t, 1, b, api.ErrKind)
		}
	}
}

// P7.1, P7.2 and R4: only the bytes within the length count, and nothing behind it changes.
func TestSpareCapacity(t *testing.T) {
	for size := range 20 {
		for _, c := range []byte{0, 1, 0xff} {
			room := append(message(size), c, c, c, c)
			before := bytes.Clone(room)
			wantParse(t, room[:8+size], asked)
			wantError(t, room[:7], api.ErrShort)
			b := room[8 : 8+size]
			wantBuild(t, api.Echo, ident, b, mend(append([]byte{8, 0, 0, 0, 0x12, 0x34, 0, 0}, b...)))
			wantNoBuild(t, 7, b, api.ErrKind)
			if !bytes.Equal(room, before) {
				t.Fatal("the argument has changed")
			}
		}
	}
}

// R4: a message shares no memory with the content or with another message, also not behind its end.
func TestSharedMemory(t *testing.T) {
	for _, size := range []int{0, 1, 8, 100, 1472} {
		b := append(content(size), 1, 2, 3, 4, 5, 6, 7, 8)
		before := bytes.Clone(b)
		made, _ := Build(api.Echo, ident, b[:size])
		other, _ := Build(api.Echo, ident, b[:size])
		want := bytes.Clone(other)
		room := made[:cap(made)]
		for i := range room {
			room[i] ^= 255
		}
		if !bytes.Equal(b, before) || !bytes.Equal(other, want) {
			t.Fatal("writing to a message changed something else")
		}
		for i := range b {
			b[i] ^= 255
		}
		if !bytes.Equal(other, want) {
			t.Fatal("writing to the content changed a message")
		}
	}
}

// R4: Parse leaves its argument as it is, right or wrong.
func TestParseLeavesItsArgument(t *testing.T) {
	wrong := message(9)
	wrong[3]++
	for _, b := range [][]byte{message(0), message(9), wrong, make([]byte, 7), make([]byte, 20)} {
		before := bytes.Clone(b)
		Parse(b)
		if !bytes.Equal(b, before) {
			t.Fatal("the argument has changed")
		}
	}
}

// R5: what was parsed and built before makes no difference.
func TestNothingIsKept(t *testing.T) {
	b := message(5)
	want := mend([]byte{0, 0, 0, 0, 0, 9, 0, 0, 4})
	for _, other := range [][]byte{nil, message(1464), message(0), make([]byte, 1473), make([]byte, 8)} {
		for _, kind := range []uint8{0, 8, 3} {
			Parse(other)
			Build(kind, 65535, other)
			wantParse(t, b, asked)
			wantBuild(t, api.EchoReply, 9, []byte{4}, want)
		}
	}
}
