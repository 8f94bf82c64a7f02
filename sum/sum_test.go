package sum

import (
	"bytes"
	"testing"
)

// corners are words at which a lost or an extra carry shows.
var corners = []uint16{0, 1, 2, 0x00ff, 0x0100, 0x5555, 0x7fff, 0x8000, 0x8001, 0xaaaa, 0xff00, 0xfffd, 0xfffe, 0xffff}

// header is one of IPv4, with 0 in place of its checksum 0xb861.
var header = []byte{0x45, 0, 0, 0x73, 0, 0, 0x40, 0, 0x40, 0x11, 0, 0, 0xc0, 0xa8, 0, 1, 0xc0, 0xa8, 0, 0xc7}

// slowCarry is the sum with carry as the document defines it.
func slowCarry(x, y int) int {
	if x+y > 65535 {
		return x + y - 65535
	}
	return x + y
}

// slowAdd adds whole words, after a zero byte is put behind an odd last byte.
func slowAdd(sum int, b []byte) int {
	even := bytes.Clone(b)
	if len(even)%2 == 1 {
		even = append(even, 0)
	}
	for i := 0; i < len(even); i += 2 {
		sum = slowCarry(sum, int(even[i])*256+int(even[i+1]))
	}
	return sum
}

// slowEdit is Edit as the document defines it.
func slowEdit(check, was, is int) int {
	return 65535 - slowCarry(slowCarry(65535-check, 65535-was), is)
}

// samples returns bytes of every length up to 40 and of some larger ones, with all 0, all 255, and mixed ones.
func samples() [][]byte {
	var all [][]byte
	next := uint32(1)
	for _, size := range append(upTo(40), 999, 1000, 1499, 1500, 65537) {
		mixed := make([]byte, size)
		for i := range mixed {
			next = next*1664525 + 1013904223
			mixed[i] = byte(next >> 24)
		}
		all = append(all, make([]byte, size), bytes.Repeat([]byte{255}, size), mixed)
	}
	return all
}

func upTo(n int) []int {
	var sizes []int
	for size := range n + 1 {
		sizes = append(sizes, size)
	}
	return sizes
}

// putWord stores a word in b at an even place.
func putWord(b []byte, at int, w uint16) {
	b[at], b[at+1] = byte(w>>8), byte(w)
}

func wordAt(b []byte, at int) uint16 {
	return uint16(b[at])<<8 | uint16(b[at+1])
}

// P2.1: ordinary words, an odd last byte, sums around 65535, bytes that are all 0.
func TestAdd(t *testing.T) {
	for _, c := range []struct {
		from uint16
		b    []byte
		want uint16
	}{
		{0, []byte{1, 2}, 0x0102},
		{0, []byte{1, 2, 3, 4}, 0x0406},
		{0x1000, []byte{1, 2, 3, 4}, 0x1406},
		{0, []byte{0x80}, 0x8000},
		{0, []byte{1, 2, 3}, 0x0402},
		{0xff00, []byte{0xff}, 0xfe01},
		{0, []byte{255, 255}, 65535},
		{0xfffe, []byte{0, 1}, 65535},
		{65535, []byte{0, 1}, 1},
		{1, []byte{255, 255}, 1},
		{65535, []byte{255, 255}, 65535},
		{0, []byte{255, 255, 255, 255}, 65535},
		{0, []byte{0x80, 0, 0x80, 0}, 1},
		{0, []byte{0x80, 0, 0x7f, 0xff}, 65535},
		{0, []byte{0, 0, 0, 0}, 0},
		{0, []byte{0, 0, 0}, 0},
		{65535, []byte{0, 0, 0, 0}, 65535},
		{65535, []byte{0}, 65535},
		{7, []byte{0, 0}, 7},
	} {
		if n := Add(c.from, c.b); n != c.want {
			t.Errorf("Add(%#x, %x) = %#x, want %#x", c.from, c.b, n, c.want)
		}
	}
}

// P2.1: without bytes there are no words to add.
func TestAddOfNothing(t *testing.T) {
	for _, from := range corners {
		for _, b := range [][]byte{nil, {}, header[:0]} {
			if n := Add(from, b); n != from {
				t.Errorf("Add(%#x, nothing) = %#x", from, n)
			}
		}
	}
}

// P2.1: every word added to words at the corners.
func TestAddOfEveryWord(t *testing.T) {
	for _, from := range corners {
		for w := range 65536 {
			b := []byte{byte(w >> 8), byte(w)}
			if n := Add(from, b); int(n) != slowCarry(int(from), w) {
				t.Fatalf("Add(%#x, %x) = %#x", from, b, n)
			}
		}
	}
}

// P2.1: many words one after the other, held against the document's definition.
func TestAddOfManyWords(t *testing.T) {
	for _, b := range samples() {
		for _, from := range corners {
			if n := Add(from, b); int(n) != slowAdd(int(from), b) {
				t.Fatalf("Add(%#x, %d bytes) = %#x, want %#x", from, len(b), n, slowAdd(int(from), b))
			}
		}
	}
}

// P2.1: an odd last byte is as if a zero byte followed; a zero byte before it is another word.
func TestOddLastByte(t *testing.T) {
	for c := range 256 {
		odd := append(bytes.Clone(header), byte(c))
		if n := Add(0, odd); n != Add(0, append(bytes.Clone(odd), 0)) {
			t.Errorf("byte %d: %#x", c, n)
		}
		if n := Add(0, []byte{byte(c)}); int(n) != c*256 {
			t.Errorf("byte %d alone: %#x", c, n)
		}
		if n := Add(0, []byte{0, byte(c)}); int(n) != c {
			t.Errorf("byte %d behind a zero byte: %#x", c, n)
		}
	}
}

// P2.1 and R4: the length of the bytes counts, not what lies behind it in memory, and nothing there changes.
func TestAddKeepsToTheLength(t *testing.T) {
	b := []byte{1, 2, 3, 4}
	if n := Add(0, b[:3]); n != 0x0402 {
		t.Errorf("%#x", n)
	}
	if n := Of(b[:3]); n != 0xfbfd {
		t.Errorf("%#x", n)
	}
	if !bytes.Equal(b, []byte{1, 2, 3, 4}) {
		t.Error("the argument has changed", b)
	}
}

// P2.1: checksums, also 0 and 65535.
func TestOf(t *testing.T) {
	for _, c := range []struct {
		b    []byte
		want uint16
	}{
		{[]byte{0x45, 0, 0, 0x3c}, 0xbac3},
		{header, 0xb861},
		{[]byte{1, 2, 3}, 0xfbfd},
		{[]byte{1}, 0xfeff},
		{nil, 65535},
		{[]byte{}, 65535},
		{[]byte{0}, 65535},
		{[]byte{0, 0, 0, 0}, 65535},
		{[]byte{255, 255}, 0},
		{[]byte{255, 255, 255, 255}, 0},
		{[]byte{0, 0, 255, 255, 0}, 0},
		{[]byte{255, 0, 0, 255}, 0},
		{[]byte{255, 255, 0, 1}, 0xfffe},
	} {
		if n := Of(c.b); n != c.want {
			t.Errorf("Of(%x) = %#x, want %#x", c.b, n, c.want)
		}
	}
	for _, b := range samples() {
		if n := Of(b); int(n) != 65535-slowAdd(0, b) {
			t.Fatalf("Of(%d bytes) = %#x", len(b), n)
		}
	}
}

// P2.2: RFC 1624's example, a header whose TTL goes down, and the ends of the range.
func TestEdit(t *testing.T) {
	for _, c := range []struct{ check, was, is, want uint16 }{
		{0xdd2f, 0x5555, 0x3285, 0},
		{0xb861, 0x4011, 0x3f11, 0xb961},
		{0xbac3, 0x003c, 0x0040, 0xbabf},
		{0xbac3, 0x003c, 0x003c, 0xbac3},
		{0, 0, 0, 0},
		{0, 0, 65535, 0},
		{0, 65535, 0, 0},
		{0, 65535, 65535, 0},
		{65535, 0, 0, 0},
		{65535, 0, 65535, 0},
		{65535, 65535, 0, 65535},
		{65535, 65535, 65535, 0},
		{65535, 65535, 1, 65534},
		{65535, 0, 1, 65534},
		{0, 0, 1, 65534},
		{1, 0, 1, 0},
	} {
		if n := Edit(c.check, c.was, c.is); n != c.want {
			t.Errorf("Edit(%#x, %#x, %#x) = %#x, want %#x", c.check, c.was, c.is, n, c.want)
		}
	}
}

// P2.2: every checksum with words at the corners, and every word in each place, held against the document's definition.
func TestEditOfEveryWord(t *testing.T) {
	for w := range 65536 {
		for _, x := range corners {
			for _, y := range corners {
				for _, c := range [][3]uint16{{uint16(w), x, y}, {x, uint16(w), y}, {x, y, uint16(w)}} {
					if n := Edit(c[0], c[1], c[2]); int(n) != slowEdit(int(c[0]), int(c[1]), int(c[2])) {
						t.Fatalf("Edit(%#x, %#x, %#x) = %#x", c[0], c[1], c[2], n)
					}
				}
			}
		}
	}
}

// P2.3: bytes with their checksum in place of a word 0 have the sum 65535, also where the checksum is 0 or 65535.
func TestBytesWithTheirChecksum(t *testing.T) {
	for _, b := range append(samples(), bytes.Clone(header), []byte{0, 0, 255, 255}) {
		for at := 0; at+2 <= len(b) && at <= 40; at += 2 {
			whole := bytes.Clone(b)
			putWord(whole, at, 0)
			putWord(whole, at, Of(whole))
			if n := Add(0, whole); n != 65535 {
				t.Fatalf("%d bytes, checksum at %d: the sum is %#x", len(b), at, n)
			}
			if n := Of(whole); n != 0 {
				t.Fatalf("%d bytes, checksum at %d: the checksum is %#x", len(b), at, n)
			}
		}
	}
}

// isChecksum allows for 0 in place of 65535 and vice versa, as P2.3 does: modulo 65535 they are the same.
func isChecksum(check uint16, b []byte) bool {
	of := Of(b)
	return check == of || check == 0 && of == 65535 || check == 65535 && of == 0
}

// P2.3: Edit of Of(b) is a checksum of the changed words.
func TestEditIsAChecksum(t *testing.T) {
	for _, b := range append(samples(), bytes.Clone(header)) {
		for at := 0; at+2 <= len(b) && at <= 40; at += 2 {
			for _, is := range append(corners, 0x1234) {
				changed := bytes.Clone(b)
				putWord(changed, at, is)
				if n := Edit(Of(b), wordAt(b, at), is); !isChecksum(n, changed) {
					t.Fatalf("%d bytes, word %d becomes %#x: %#x, want %#x", len(b), at, is, n, Of(changed))
				}
			}
		}
	}
}

// P2.3: when the last word that is not 0 becomes 0, Edit returns 0 and Of returns 65535.
func TestEditToAllZero(t *testing.T) {
	for _, was := range corners[1:] {
		b := make([]byte, 6)
		putWord(b, 2, was)
		if n := Edit(Of(b), was, 0); n != 0 {
			t.Errorf("from %#x: %#x", was, n)
		}
		if n := Of(make([]byte, 6)); n != 65535 {
			t.Errorf("%#x", n)
		}
	}
}
