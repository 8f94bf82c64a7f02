package field

import (
	"bytes"
	"math"
	"strconv"
	"testing"
)

const all = math.MaxUint64

// words are patterns in which a bit that is taken from a wrong place shows.
var words = []uint64{0, 1, all, 1 << 63, 0xabcd, 0x0123456789abcdef, 0xfedcba9876543210, 0xaaaaaaaaaaaaaaaa, 0x5555555555555555}

// extremes are places and sizes that are out of every range, or whose sum overflows.
var extremes = []int{math.MinInt, math.MinInt + 1, -65, -64, -8, -1, 65, 128, 1 << 32, 1 << 62, math.MaxInt - 64, math.MaxInt - 1, math.MaxInt}

func bit(w uint64, i int) bool { return w>>i&1 == 1 }

// slowGet takes the field bit by bit.
func slowGet(w uint64, at, size int) uint64 {
	var n uint64
	for i := range size {
		if bit(w, at+i) {
			n |= 1 << i
		}
	}
	return n
}

// slowPut sets the field bit by bit.
func slowPut(w uint64, at, size int, v uint64) uint64 {
	for i := range size {
		w &^= 1 << (at + i)
		if bit(v, i) {
			w |= 1 << (at + i)
		}
	}
	return w
}

// P1.1: ordinary fields, and those at the ends of the word.
func TestGetAndPut(t *testing.T) {
	for _, c := range []struct {
		w        uint64
		at, size int
		get      uint64
		v, put   uint64
	}{
		{0xabcd, 4, 8, 0xbc, 0x12, 0xa12d},
		{0xabcd, 0, 4, 0xd, 0, 0xabc0},
		{0xabcd, 12, 4, 0xa, 0xf, 0xfbcd},
		{0xabcd, 16, 48, 0, 1, 0x1abcd},
		{0x0123456789abcdef, 0, 64, 0x0123456789abcdef, 7, 7},
		{1 << 63, 63, 1, 1, 0, 0},
		{1, 0, 1, 1, 0, 0},
		{0, 63, 1, 0, 1, 1 << 63},
		{all, 32, 32, 0xffffffff, 0, 0xffffffff},
	} {
		if n := Get(c.w, c.at, c.size); n != c.get {
			t.Errorf("Get(%#x, %d, %d) = %#x, want %#x", c.w, c.at, c.size, n, c.get)
		}
		if n := Put(c.w, c.at, c.size, c.v); n != c.put {
			t.Errorf("Put(%#x, %d, %d, %#x) = %#x, want %#x", c.w, c.at, c.size, c.v, n, c.put)
		}
	}
}

// P1.1: of v only the lowest size bits count.
func TestPutIgnoresHigherBits(t *testing.T) {
	if n := Put(0, 8, 8, 0xfff); n != 0xff00 {
		t.Errorf("%#x", n)
	}
	if n := Put(all, 8, 8, 0xf00); n != all-0xff00 {
		t.Errorf("%#x", n)
	}
}

// P1.1: every valid field of several words, held against a bitwise reference.
func TestAllFields(t *testing.T) {
	for _, w := range words {
		for at := range 64 {
			for size := 1; at+size <= 64; size++ {
				if n := Get(w, at, size); n != slowGet(w, at, size) {
					t.Fatalf("Get(%#x, %d, %d) = %#x", w, at, size, n)
				}
				for _, v := range words {
					if n := Put(w, at, size, v); n != slowPut(w, at, size, v) {
						t.Fatalf("Put(%#x, %d, %d, %#x) = %#x", w, at, size, v, n)
					}
				}
			}
		}
	}
}

// P1.1: fields that are not valid: no bits, or bits that the word does not have.
func TestInvalidFields(t *testing.T) {
	cases := [][2]int{{0, 0}, {0, 65}, {1, 64}, {63, 2}, {64, 1}, {64, 0}, {65, 1}, {65, -1}, {-1, 1}, {-1, 2}, {-1, 64}, {-1, 65}, {0, -1}, {1, -1}}
	for _, x := range extremes {
		cases = append(cases, [2]int{x, 1}, [2]int{x, 64}, [2]int{0, x}, [2]int{63, x})
		for _, y := range extremes {
			cases = append(cases, [2]int{x, y})
		}
	}
	for _, c := range cases {
		for _, w := range words {
			if n := Get(w, c[0], c[1]); n != 0 {
				t.Errorf("Get(%#x, %d, %d) = %#x, want 0", w, c[0], c[1], n)
			}
			if n := Put(w, c[0], c[1], ^w); n != w {
				t.Errorf("Put(%#x, %d, %d, %#x) = %#x, want the word", w, c[0], c[1], ^w, n)
			}
		}
	}
}

// P1.1: positive and negative numbers of several sizes; higher bits do not count.
func TestSign(t *testing.T) {
	for _, c := range []struct {
		v    uint64
		size int
		want int64
	}{
		{0xf, 4, -1},
		{0x7, 4, 7},
		{0x8, 4, -8},
		{0xf7, 4, 7},
		{0xf8, 4, -8},
		{0, 1, 0},
		{1, 1, -1},
		{2, 1, 0},
		{0x7fffffff, 32, math.MaxInt32},
		{0x80000000, 32, math.MinInt32},
		{0x80000000, 33, 1 << 31},
		{all, 63, -1},
		{1<<62 - 1, 63, 1<<62 - 1},
		{1 << 62, 63, -1 << 62},
		{all, 64, -1},
		{1 << 63, 64, math.MinInt64},
		{1<<63 - 1, 64, math.MaxInt64},
	} {
		if n := Sign(c.v, c.size); n != c.want {
			t.Errorf("Sign(%#x, %d) = %d, want %d", c.v, c.size, n, c.want)
		}
	}
}

// P1.1: the highest of the bits counts negatively, each other one positively.
func TestSignOfAllSizes(t *testing.T) {
	for _, v := range words {
		for size := 1; size <= 64; size++ {
			want := int64(slowGet(v, 0, size))
			if size < 64 && bit(v, size-1) {
				want -= 1 << (size - 1)
				want -= 1 << (size - 1)
			}
			if n := Sign(v, size); n != want {
				t.Errorf("Sign(%#x, %d) = %d, want %d", v, size, n, want)
			}
		}
	}
}

// P1.1: sizes that a number in a word does not have.
func TestSignOfInvalidSizes(t *testing.T) {
	for _, size := range append([]int{0}, extremes...) {
		for _, v := range words {
			if n := Sign(v, size); n != 0 {
				t.Errorf("Sign(%#x, %d) = %d, want 0", v, size, n)
			}
		}
	}
}

// P1.2: numbers from anywhere in the bytes, also the last ones.
func TestNum(t *testing.T) {
	b := []byte{1, 2, 3, 4, 5, 6, 7, 8, 255}
	for _, c := range []struct {
		at, size int
		want     uint64
	}{
		{0, 1, 1},
		{0, 2, 258},
		{1, 3, 0x020304},
		{0, 8, 0x0102030405060708},
		{1, 8, 0x02030405060708ff},
		{7, 2, 0x08ff},
		{8, 1, 255},
	} {
		if n, ok := Num(b, c.at, c.size); n != c.want || !ok {
			t.Errorf("Num(%d, %d) = %#x, %v, want %#x", c.at, c.size, n, ok, c.want)
		}
	}
	if n, ok := Num(bytes.Repeat([]byte{255}, 8), 0, 8); n != all || !ok {
		t.Errorf("%#x, %v", n, ok)
	}
}

// P1.2: a byte of 0 is a number too.
func TestNumOfZeroBytes(t *testing.T) {
	for size := 1; size <= 8; size++ {
		if n, ok := Num(make([]byte, 8), 8-size, size); n != 0 || !ok {
			t.Errorf("size %d: %d, %v", size, n, ok)
		}
	}
}

// P1.2: numbers that are not there.
func TestNumOfNothing(t *testing.T) {
	long := bytes.Repeat([]byte{0x5a}, 20)
	type one struct {
		b        []byte
		at, size int
	}
	cases := []one{
		{nil, 0, 0}, {nil, 0, 1}, {nil, -1, 1}, {[]byte{}, 0, 1},
		{long, -1, 1}, {long, -1, 2}, {long, 0, 0}, {long, 0, -1}, {long, 0, 9},
		{long, 20, 1}, {long, 21, 1}, {long, 20, 0}, {long, 19, 2}, {long, 13, 8}, {long, 5, -1},
	}
	for _, x := range extremes {
		cases = append(cases, one{long, x, 1}, one{long, x, 8}, one{long, 0, x}, one{long, 19, x})
		for _, y := range extremes {
			cases = append(cases, one{long, x, y})
		}
	}
	for _, c := range cases {
		if n, ok := Num(c.b, c.at, c.size); n != 0 || ok {
			t.Errorf("Num of %d bytes (%d, %d) = %#x, %v, want 0, false", len(c.b), c.at, c.size, n, ok)
		}
	}
}

// P1.2: the length of the bytes counts, not what lies behind it in memory.
func TestNumKeepsToTheLength(t *testing.T) {
	b := []byte{1, 2, 3, 4}
	if n, ok := Num(b[:2], 1, 2); n != 0 || ok {
		t.Errorf("%#x, %v", n, ok)
	}
	Num(b, 0, 4)
	if !bytes.Equal(b, []byte{1, 2, 3, 4}) {
		t.Error("the argument has changed", b)
	}
}

// P1.2: the lowest bytes, the most significant one first.
func TestCut(t *testing.T) {
	for _, c := range []struct {
		v    uint64
		size int
		want []byte
	}{
		{0x0102030405060708, 1, []byte{8}},
		{0x0102030405060708, 2, []byte{7, 8}},
		{0x0102030405060708, 7, []byte{2, 3, 4, 5, 6, 7, 8}},
		{0x0102030405060708, 8, []byte{1, 2, 3, 4, 5, 6, 7, 8}},
		{258, 4, []byte{0, 0, 1, 2}},
		{all, 3, []byte{255, 255, 255}},
		{0x100, 1, []byte{0}},
		{0, 8, make([]byte, 8)},
	} {
		if b := Cut(c.v, c.size); !bytes.Equal(b, c.want) {
			t.Errorf("Cut(%#x, %d) = %v, want %v", c.v, c.size, b, c.want)
		}
	}
}

// P1.2: sizes that give nothing.
func TestCutOfInvalidSizes(t *testing.T) {
	for _, size := range append([]int{0, 9, 64}, extremes...) {
		if b := Cut(all, size); len(b) != 0 {
			t.Errorf("Cut(%d) = %v, want nothing", size, b)
		}
	}
}

// P1.2 and R4: two results share no memory, nor spare capacity.
func TestCutIsNew(t *testing.T) {
	a, b := Cut(258, 2), Cut(258, 2)
	a[0] = 9
	_ = append(a, 7)
	if !bytes.Equal(b, []byte{1, 2}) || !bytes.Equal(Cut(258, 2), []byte{1, 2}) {
		t.Error("results share memory")
	}
}

// P1.2: Num of what Cut returns is the lowest bytes of the number.
func TestCutAndNum(t *testing.T) {
	for _, v := range words {
		for size := 1; size <= 8; size++ {
			t.Run(strconv.FormatUint(v, 16)+" "+strconv.Itoa(size), func(t *testing.T) {
				n, ok := Num(Cut(v, size), 0, size)
				if n != slowGet(v, 0, 8*size) || !ok {
					t.Errorf("%#x, %v", n, ok)
				}
			})
		}
	}
}
