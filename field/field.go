// Package field reads and writes bit fields of 64-bit words and numbers in bytes.
package field

const (
	wordBits  = 64
	wordBytes = 8
	byteBits  = 8
)

// valid is written without at + size, which might overflow.
func valid(at, size int) bool {
	return at >= 0 && size >= 1 && size <= wordBits && at <= wordBits-size
}

// ones returns the number whose lowest size bits are set; size is from 1 to 64.
func ones(size int) uint64 {
	return ^uint64(0) >> (wordBits - size)
}

// Get returns the number in the size bits of w from bit at on, or 0 if there is no such field.
func Get(w uint64, at, size int) uint64 {
	if !valid(at, size) {
		return 0
	}
	return (w >> at) & ones(size)
}

// Put returns w with the lowest size bits of v in the field from bit at on, or w if there is no such field.
func Put(w uint64, at, size int, v uint64) uint64 {
	if !valid(at, size) {
		return w
	}
	mask := ones(size)
	return w&^(mask<<at) | (v&mask)<<at
}

// Sign returns the lowest size bits of v as a two's complement number, or 0 if size is not from 1 to 64.
func Sign(v uint64, size int) int64 {
	if !valid(0, size) {
		return 0
	}
	unused := wordBits - size
	// Only the shift of a signed number repeats the sign bit on its way back.
	return int64(v<<unused) >> unused
}

// Num returns the number in the size bytes of b from at on, most significant first; false if there is no such number.
func Num(b []byte, at, size int) (uint64, bool) {
	if !holds(len(b), at, size) {
		return 0, false
	}
	var n uint64
	for _, c := range b[at : at+size] {
		n = n<<byteBits | uint64(c)
	}
	return n, true
}

// holds is written without at + size, which might overflow.
func holds(length, at, size int) bool {
	return at >= 0 && size >= 1 && size <= wordBytes && at <= length-size
}

// Cut returns the lowest size bytes of v, most significant first, or nothing if size is not from 1 to 8.
func Cut(v uint64, size int) []byte {
	if size < 1 || size > wordBytes {
		return nil
	}
	b := make([]byte, size)
	for i := range b {
		b[i] = byte(v >> (byteBits * (size - 1 - i)))
	}
	return b
}
