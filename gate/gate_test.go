package gate

import (
	"math"
	"math/rand"
	"slices"
	"testing"

	"mantlet/api"
	"mantlet/field"
)

// What one of each part is worth, as the document's example says it.
const (
	oneVersion = 1 << 52
	oneCount   = 1 << 40
)

// The greatest numbers, written out.
const (
	topVersion = 4095
	topCount   = 4095
	topClock   = 1099511627775
)

// full is the greatest word.
const full = math.MaxUint64

// word goes by the document's example: a sum of products.
func word(version, count, clock int) uint64 {
	return uint64(version)*oneVersion + uint64(count)*oneCount + uint64(clock)
}

// slowParts divides: what is left of the greater parts is the smaller ones.
func slowParts(w uint64) (version, count, clock int) {
	return int(w / oneVersion), int(w % oneVersion / oneCount), int(w % oneCount)
}

// slowTick adds in unsigned numbers, which hold the sum of any Clock and any n.
func slowTick(w uint64, n int) uint64 {
	version, count, clock := slowParts(w)
	sum := uint64(clock)
	if n > 0 {
		sum += uint64(n)
	}
	if sum > topClock {
		sum = topClock
	}
	return word(version, count, int(sum))
}

// slowEnter goes by the document's words.
func slowEnter(w uint64, limit int) (uint64, bool) {
	version, count, clock := slowParts(w)
	below := count < limit
	if !below || count == 4095 {
		return w, false
	}
	return word(version, count+1, clock), true
}

// slowLeave goes by the document's words.
func slowLeave(w uint64) (uint64, bool) {
	version, count, clock := slowParts(w)
	if count == 0 {
		return w, false
	}
	return word(version, count-1, clock), true
}

// slowSwap goes by the document's words.
func slowSwap(w uint64) (uint64, bool) {
	version, count, clock := slowParts(w)
	if version == 4095 {
		return w, false
	}
	return word(version+1, count, clock), true
}

// wantGate fails the test unless Pack and Unpack say that w is the word of g.
func wantGate(t *testing.T, g api.Gate, w uint64) {
	t.Helper()
	if got, e := Pack(g); got != w || e != api.OK {
		t.Fatalf("Pack(%v) = %#x, %d, want %#x", g, got, e, w)
	}
	if got := Unpack(w); got != g {
		t.Fatalf("Unpack(%#x) = %v, want %v", w, got, g)
	}
}

// wantNoWord fails the test unless Pack refuses g.
func wantNoWord(t *testing.T, g api.Gate) {
	t.Helper()
	if w, e := Pack(g); w != 0 || e != api.ErrArg {
		t.Fatalf("Pack(%v) = %#x, %d, want 0, ErrArg", g, w, e)
	}
}

// wantTick fails the test unless Tick changes the Clock of w to this one, and nothing else.
func wantTick(t *testing.T, w uint64, n, clock int) {
	t.Helper()
	version, count, _ := slowParts(w)
	if got := Tick(w, n); got != word(version, count, clock) {
		t.Fatalf("Tick(%#x, %d) = %#x, want %#x", w, n, got, word(version, count, clock))
	}
}

// wantEnter fails the test unless Enter answers so.
func wantEnter(t *testing.T, w uint64, limit int, want uint64, wantOK bool) {
	t.Helper()
	if got, ok := Enter(w, limit); got != want || ok != wantOK {
		t.Fatalf("Enter(%#x, %d) = %#x, %v, want %#x, %v", w, limit, got, ok, want, wantOK)
	}
}

// wantLeave fails the test unless Leave answers so.
func wantLeave(t *testing.T, w, want uint64, wantOK bool) {
	t.Helper()
	if got, ok := Leave(w); got != want || ok != wantOK {
		t.Fatalf("Leave(%#x) = %#x, %v, want %#x, %v", w, got, ok, want, wantOK)
	}
}

// wantSwap fails the test unless Swap answers so.
func wantSwap(t *testing.T, w, want uint64, wantOK bool) {
	t.Helper()
	if got, ok := Swap(w); got != want || ok != wantOK {
		t.Fatalf("Swap(%#x) = %#x, %v, want %#x, %v", w, got, ok, want, wantOK)
	}
}

// someSmall returns numbers of a part of 12 bits: its edges and some between.
func someSmall() []int {
	return []int{0, 1, 2, 255, 256, 0x555, 2047, 2048, 0xaaa, 4094, 4095}
}

// someClocks returns numbers of the part of 40 bits: its edges and some between.
func someClocks() []int {
	return []int{0, 1, 2, 255, 4095, 4096, math.MaxInt32, 1 << 31, math.MaxUint32, 1 << 32, 0x5555555555, 1<<39 - 1, 1 << 39, 0xaaaaaaaaaa, topClock - 1, topClock}
}

// outside returns numbers that are below 0 or above top; the lowest bits of some are those of numbers that are not.
func outside(top int) []int {
	return []int{
		math.MinInt, math.MinInt + 1, math.MinInt + top, -1 << 62, -1 << 52, -1 << 40, -1<<40 + 1, -1 << 32, math.MinInt32,
		-2*top - 2, -top - 1, -top, -top + 1, -4096, -4095, -2, -1,
		top + 1, top + 2, 2*top + 1, 2*top + 2, 1 << 41, 1<<41 + 1, 1 << 52, 1<<52 + 1, 1 << 62, 1<<62 + 1,
		math.MaxInt - top, math.MaxInt - 1, math.MaxInt,
	}
}

// neighbours returns words whose parts are empty, full and between, each with each.
func neighbours() []uint64 {
	var list []uint64
	for _, version := range []int{0, 1, 0x5a5, topVersion - 1, topVersion} {
		for _, count := range []int{0, 1, 0xa5a, topCount - 1, topCount} {
			for _, clock := range []int{0, 1, 0x5a5a5a5a5a, topClock - 1, topClock} {
				list = append(list, word(version, count, clock))
			}
		}
	}
	return list
}

// arbitraryWord returns a word of any parts, which are often at their edges.
func arbitraryWord(r *rand.Rand) uint64 {
	version, count, clock := slowParts(r.Uint64())
	if r.Intn(3) == 0 {
		version = someSmall()[r.Intn(len(someSmall()))]
	}
	if r.Intn(3) == 0 {
		count = someSmall()[r.Intn(len(someSmall()))]
	}
	if r.Intn(3) == 0 {
		clock = someClocks()[r.Intn(len(someClocks()))]
	}
	return word(version, count, clock)
}

// P14.1: the document's example, and words written out.
func TestWords(t *testing.T) {
	wantGate(t, api.Gate{Version: 1, Count: 2, Clock: 3}, 1<<52+2*1<<40+3)
	for _, c := range []struct {
		g api.Gate
		w uint64
	}{
		{api.Gate{}, 0},
		{api.Gate{Clock: 1}, 1},
		{api.Gate{Count: 1}, 0x10000000000},
		{api.Gate{Version: 1}, 0x10000000000000},
		{api.Gate{Version: 1, Count: 2, Clock: 3}, 0x0010020000000003},
		{api.Gate{Version: 3, Count: 1, Clock: 2}, 0x0030010000000002},
		{api.Gate{Version: 0x123, Count: 0x456, Clock: 0x789abcdef0}, 0x123456789abcdef0},
		{api.Gate{Version: 0xfed, Count: 0xcba, Clock: 0x9876543210}, 0xfedcba9876543210},
		{api.Gate{Version: 2048, Count: 2048, Clock: 1 << 39}, 0x8008008000000000},
		{api.Gate{Version: 4094, Count: 4094, Clock: topClock - 1}, 0xffeffefffffffffe},
	} {
		wantGate(t, c.g, c.w)
	}
}

// P14.1: each set of the three fields full, the others empty.
func TestFullFields(t *testing.T) {
	for _, c := range []struct {
		g api.Gate
		w uint64
	}{
		{api.Gate{Clock: topClock}, 0x000000ffffffffff},
		{api.Gate{Count: topCount}, 0x000fff0000000000},
		{api.Gate{Version: topVersion}, 0xfff0000000000000},
		{api.Gate{Version: topVersion, Count: topCount}, 0xffffff0000000000},
		{api.Gate{Version: topVersion, Clock: topClock}, 0xfff000ffffffffff},
		{api.Gate{Count: topCount, Clock: topClock}, 0x000fffffffffffff},
		{api.Gate{Version: topVersion, Count: topCount, Clock: topClock}, full},
	} {
		wantGate(t, c.g, c.w)
	}
}

// P14.1: the document's limits are those of api.
func TestLimits(t *testing.T) {
	wantGate(t, api.Gate{Version: api.MaxVersion, Count: api.MaxCap, Clock: api.MaxClock}, full)
	wantNoWord(t, api.Gate{Version: api.MaxVersion + 1})
	wantNoWord(t, api.Gate{Count: api.MaxCap + 1})
	wantNoWord(t, api.Gate{Clock: api.MaxClock + 1})
}

// P14.1: each field inside its limits and outside, at all edges, alone and with each such number of the others.
func TestPackEdges(t *testing.T) {
	small := append(outside(4095), someSmall()...)
	clocks := append(outside(topClock), someClocks()...)
	for _, version := range small {
		for _, count := range small {
			for _, clock := range clocks {
				g := api.Gate{Version: version, Count: count, Clock: clock}
				fits := slices.Contains(someSmall(), version) && slices.Contains(someSmall(), count) && slices.Contains(someClocks(), clock)
				if fits {
					wantGate(t, g, word(version, count, clock))
				} else {
					wantNoWord(t, g)
				}
			}
		}
	}
}

// P14.1: each field outside its limits alone, beside each set of the others empty and full.
func TestPackOneWrong(t *testing.T) {
	for set := range 4 {
		low, high := set&1*4095, set>>1*4095
		for _, n := range outside(4095) {
			wantNoWord(t, api.Gate{Version: n, Count: low, Clock: set >> 1 * topClock})
			wantNoWord(t, api.Gate{Version: low, Count: n, Clock: set >> 1 * topClock})
		}
		for _, n := range outside(topClock) {
			wantNoWord(t, api.Gate{Version: low, Count: high, Clock: n})
		}
	}
	// What fits in a Clock does not fit in the others.
	for _, n := range someClocks() {
		wantGate(t, api.Gate{Clock: n}, uint64(n))
		if n > 4095 {
			wantNoWord(t, api.Gate{Version: n})
			wantNoWord(t, api.Gate{Count: n})
		}
	}
	// All are outside, in numbers that would be inside together.
	wantNoWord(t, api.Gate{Version: 5000, Count: -5000, Clock: 5000})
	wantNoWord(t, api.Gate{Version: -1, Count: 1, Clock: 1})
	wantNoWord(t, api.Gate{Version: 1, Count: -1, Clock: 1 << 40})
	wantNoWord(t, api.Gate{Version: -1, Count: 4096, Clock: topClock})
	wantNoWord(t, api.Gate{Version: math.MinInt, Count: math.MinInt, Clock: math.MinInt})
	wantNoWord(t, api.Gate{Version: math.MaxInt, Count: math.MaxInt, Clock: math.MaxInt})
}

// P14.1: each bit of an int in each field alone, and missing alone from the full field.
func TestPackBits(t *testing.T) {
	for i := range 64 {
		n := int(uint64(1) << i)
		if i < 40 {
			wantGate(t, api.Gate{Clock: n}, 1<<i)
			wantGate(t, api.Gate{Version: 4095, Count: 4095, Clock: topClock - n}, full-1<<i)
		} else {
			wantNoWord(t, api.Gate{Clock: n})
			wantNoWord(t, api.Gate{Clock: topClock | n})
		}
		if i < 12 {
			wantGate(t, api.Gate{Count: n}, 1<<(40+i))
			wantGate(t, api.Gate{Version: n}, 1<<(52+i))
			wantGate(t, api.Gate{Version: 4095, Count: 4095 - n, Clock: topClock}, full-1<<(40+i))
			wantGate(t, api.Gate{Version: 4095 - n, Count: 4095, Clock: topClock}, full-1<<(52+i))
		} else {
			for _, m := range []int{n, n | 4095, n | 1} {
				wantNoWord(t, api.Gate{Count: m})
				wantNoWord(t, api.Gate{Version: m})
				wantNoWord(t, api.Gate{Version: 4095, Count: m, Clock: topClock})
				wantNoWord(t, api.Gate{Version: m, Count: 4095, Clock: topClock})
			}
		}
	}
}

// P14.1: all numbers of the fields of 12 bits, with some below and above, beside empty, full and other fields.
func TestPackSmallFields(t *testing.T) {
	for n := -5000; n <= 10000; n++ {
		for _, other := range []int{0, 1, 0x5a5, 4095} {
			for _, clock := range []int{0, 1, 0x5a5a5a5a5a, topClock} {
				if 0 <= n && n <= 4095 {
					wantGate(t, api.Gate{Version: n, Count: other, Clock: clock}, word(n, other, clock))
					wantGate(t, api.Gate{Version: other, Count: n, Clock: clock}, word(other, n, clock))
				} else {
					wantNoWord(t, api.Gate{Version: n, Count: other, Clock: clock})
					wantNoWord(t, api.Gate{Version: other, Count: n, Clock: clock})
				}
			}
		}
	}
}

// P14.1: Clocks around each power of two and around the limit.
func TestPackClocks(t *testing.T) {
	try := func(n int) {
		for _, w := range []uint64{0, full} {
			version, count, _ := slowParts(w)
			if 0 <= n && n <= topClock {
				wantGate(t, api.Gate{Version: version, Count: count, Clock: n}, word(version, count, n))
			} else {
				wantNoWord(t, api.Gate{Version: version, Count: count, Clock: n})
			}
		}
	}
	for i := range 64 {
		for d := -2000; d <= 2000; d++ {
			try(int(uint64(1)<<i) + d)
			try(-int(uint64(1)<<i) + d)
		}
	}
}

// P14.1: the gates of the words 0 and full, of words of one bit, and of words that miss one.
func TestUnpackBits(t *testing.T) {
	if g := Unpack(0); g != (api.Gate{}) {
		t.Error(g)
	}
	if g := Unpack(full); g != (api.Gate{Version: 4095, Count: 4095, Clock: topClock}) {
		t.Error(g)
	}
	for i := range 64 {
		var g api.Gate
		switch {
		case i < 40:
			g.Clock = 1 << i
		case i < 52:
			g.Count = 1 << (i - 40)
		default:
			g.Version = 1 << (i - 52)
		}
		if got := Unpack(1 << i); got != g {
			t.Errorf("bit %d: %v, want %v", i, got, g)
		}
		missing := api.Gate{Version: 4095 - g.Version, Count: 4095 - g.Count, Clock: topClock - g.Clock}
		if got := Unpack(full - 1<<i); got != missing {
			t.Errorf("all but bit %d: %v, want %v", i, got, missing)
		}
	}
}

// P14.1: the lowest and the highest bits of a word in each number, so that each edge between two fields is crossed.
func TestUnpackRuns(t *testing.T) {
	for i := range 65 {
		low := uint64(1)<<i - 1 // for i 64 the shift leaves nothing, so that all bits are set
		for _, w := range []uint64{low, ^low} {
			version, count, clock := slowParts(w)
			wantGate(t, api.Gate{Version: version, Count: count, Clock: clock}, w)
		}
		for j := range i {
			w := low &^ (uint64(1)<<j - 1)
			version, count, clock := slowParts(w)
			wantGate(t, api.Gate{Version: version, Count: count, Clock: clock}, w)
		}
	}
}

// P14.1: Unpack of arbitrary words, and Pack of what it returns: each word is one of a gate.
func TestUnpackAndPack(t *testing.T) {
	r := rand.New(rand.NewSource(14))
	for i := range 300000 {
		w := r.Uint64()
		if i%2 == 0 {
			w = arbitraryWord(r)
		}
		version, count, clock := slowParts(w)
		wantGate(t, api.Gate{Version: version, Count: count, Clock: clock}, w)
		g := api.Gate{
			Version: int(field.Get(w, 52, 12)),
			Count:   int(field.Get(w, 40, 12)),
			Clock:   int(field.Get(w, 0, 40)),
		}
		wantGate(t, g, w)
	}
}

// P14.1: Unpack of what Pack returns, for arbitrary gates that often do not fit by little.
func TestPackAndUnpack(t *testing.T) {
	r := rand.New(rand.NewSource(141))
	small := func() int { return r.Intn(4100) - 2 }
	packed := 0
	const calls = 300000
	for range calls {
		g := api.Gate{Version: small(), Count: small(), Clock: int(r.Uint64() >> (20 + r.Intn(12)))}
		switch r.Intn(8) {
		case 0:
			g.Version = int(r.Uint64()) >> r.Intn(64)
		case 1:
			g.Count = int(r.Uint64()) >> r.Intn(64)
		case 2:
			g.Clock = int(r.Uint64()) >> r.Intn(64)
		}
		fits := g.Clock >= 0 && g.Clock <= topClock && g.Count >= 0 && g.Count <= 4095 && g.Version >= 0 && g.Version <= 4095
		if !fits {
			wantNoWord(t, g)
			continue
		}
		packed++
		wantGate(t, g, word(g.Version, g.Count, g.Clock))
	}
	if packed < calls/20 || packed > calls*19/20 {
		t.Errorf("%d of %d gates fit: the arbitrary ones tell little", packed, calls)
	}
}

// P14.2: Tick by a little, by 0 and by negative numbers, beside all neighbours.
func TestTick(t *testing.T) {
	for _, others := range neighbours() {
		version, count, _ := slowParts(others)
		for _, c := range []struct{ clock, n, want int }{
			{0, 0, 0}, {0, 1, 1}, {0, 5, 5}, {0, -1, 0}, {0, -5, 0},
			{7, 0, 7}, {7, 1, 8}, {7, 5, 12}, {7, -1, 7}, {7, -7, 7}, {7, -8, 7},
			{1<<39 - 1, 1, 1 << 39}, {255, 1, 256}, {math.MaxUint32, 1, 1 << 32},
			{0, topClock - 1, topClock - 1}, {0, topClock, topClock}, {0, topClock + 1, topClock}, {0, 1 << 41, topClock},
			{1, topClock - 2, topClock - 1}, {1, topClock - 1, topClock}, {1, topClock, topClock}, {1, topClock + 1, topClock},
			{topClock - 1, 0, topClock - 1}, {topClock - 1, 1, topClock}, {topClock - 1, 2, topClock}, {topClock - 1, -1, topClock - 1}, {topClock - 1, topClock, topClock},
			{topClock, 0, topClock}, {topClock, 1, topClock}, {topClock, 2, topClock}, {topClock, -1, topClock}, {topClock, -topClock, topClock}, {topClock, topClock, topClock},
		} {
			wantTick(t, word(version, count, c.clock), c.n, c.want)
		}
	}
}

// P14.2: Tick of each Clock by -1, 0, 1, just up to the greatest Clock, one less and one further, and the edges of int.
func TestTickEdges(t *testing.T) {
	for _, others := range neighbours() {
		version, count, _ := slowParts(others)
		for _, clock := range append(someClocks(), 0x123456789a) {
			w := word(version, count, clock)
			left := topClock - clock
			wantTick(t, w, 0, clock)
			if left > 0 {
				wantTick(t, w, 1, clock+1)
				wantTick(t, w, left-1, topClock-1)
			} else {
				wantTick(t, w, 1, topClock)
			}
			for _, n := range []int{left, left + 1, left + 2, 2*left + 1, topClock, topClock + 1} {
				wantTick(t, w, n, topClock)
			}
			// The sum would wrap around, or its lowest bits would be a small Clock.
			for _, n := range []int{1 << 40, 1 << 41, 1 << 52, 1 << 62, math.MaxInt - clock, math.MaxInt - clock + min(clock, 1), math.MaxInt - topClock, math.MaxInt - 1, math.MaxInt} {
				wantTick(t, w, n, topClock)
			}
			for _, n := range []int{-1, -2, -clock, -clock - 1, -left - 1, -topClock, -topClock - 1, -1 << 52, -1 << 62, math.MinInt + clock, math.MinInt + topClock, math.MinInt + 1, math.MinInt} {
				wantTick(t, w, min(n, 0), clock)
			}
		}
	}
}

// P14.2: Tick by each power of two and its neighbours, negative too, against the reference.
func TestTickPowers(t *testing.T) {
	for _, w := range neighbours() {
		for i := range 64 {
			for d := -2; d <= 2; d++ {
				n := int(uint64(1)<<i) + d
				for _, n := range []int{n, -n, topClock - n} {
					if got := Tick(w, n); got != slowTick(w, n) {
						t.Fatalf("Tick(%#x, %d) = %#x, want %#x", w, n, got, slowTick(w, n))
					}
				}
			}
		}
	}
}

// P14.2: Tick twice is Tick by the sum; a Clock that has stopped at its greatest number stays there.
func TestTickTwice(t *testing.T) {
	r := rand.New(rand.NewSource(142))
	for range 100000 {
		w := arbitraryWord(r)
		n, m := int(r.Uint64()>>(2+r.Intn(60))), int(r.Uint64()>>(2+r.Intn(60)))
		if got := Tick(Tick(w, n), m); got != Tick(w, n+m) || got != slowTick(w, n+m) {
			t.Fatalf("%#x %d %d: %#x", w, n, m, got)
		}
	}
	for _, w := range neighbours() {
		version, count, _ := slowParts(w)
		wantTick(t, Tick(w, math.MaxInt), 1, topClock)
		wantTick(t, Tick(w, math.MaxInt), -1, topClock)
		wantTick(t, word(version, count, topClock), math.MinInt, topClock)
	}
}

// P14.2: Tick one by one, from below the greatest Clock over it.
func TestTickSteps(t *testing.T) {
	for _, start := range []int{0, 1<<39 - 50, topClock - 50} {
		for _, others := range neighbours() {
			version, count, _ := slowParts(others)
			w := word(version, count, start)
			for i := range 100 {
				wantTick(t, w, 1, min(start+i+1, topClock))
				w = Tick(w, 1)
			}
		}
	}
}

// P14.2: Enter of every Count against limits below, at and above it, and at all edges.
func TestEnter(t *testing.T) {
	for count := range 4096 {
		limits := []int{
			math.MinInt, math.MinInt + 1, math.MinInt32, -1 << 40, -4096, -4095, -count - 1, -count, -2, -1, 0, 1, 2,
			count - 2, count - 1, count, count + 1, count + 2, count + 4095, count + 4096, 4 * count,
			4093, 4094, 4095, 4096, 4097, 8191, 8192, 1 << 40, 1<<40 - 1, 1 << 52, 1 << 62, math.MaxInt32, math.MaxUint32, math.MaxInt - 1, math.MaxInt,
		}
		for _, version := range []int{0, 1, 0xa5a, 4095} {
			for _, clock := range []int{0, 1, 0x5a5a5a5a5a, topClock} {
				w := word(version, count, clock)
				for _, limit := range limits {
					if count == 4095 || limit <= count {
						wantEnter(t, w, limit, w, false)
					} else {
						wantEnter(t, w, limit, word(version, count+1, clock), true)
					}
				}
			}
		}
	}
}

// P14.2: the Count 4095 never increases, whatever the limit; the one before it does once.
func TestEnterTop(t *testing.T) {
	for _, others := range neighbours() {
		version, _, clock := slowParts(others)
		top, below := word(version, 4095, clock), word(version, 4094, clock)
		for _, limit := range []int{4095, 4096, 4097, 5000, 8191, 8192, 1 << 12, 1 << 13, 1 << 40, 1 << 52, 1 << 62, math.MaxInt - 1, math.MaxInt} {
			wantEnter(t, top, limit, top, false)
			wantEnter(t, below, limit, top, true)
		}
		for _, limit := range []int{4094, 4093, 1, 0, -1, -4096, math.MinInt + 1, math.MinInt} {
			wantEnter(t, top, limit, top, false)
			wantEnter(t, below, limit, below, false)
		}
	}
}

// P14.2: all pairs of a Count and a limit, and somewhat beyond.
func TestEnterAllPairs(t *testing.T) {
	for count := range 4096 {
		w := word(count, count, count)
		more := word(count, count+1, count)
		for limit := -2; limit <= 4100; limit++ {
			got, ok := Enter(w, limit)
			enters := limit-count >= 1 && count != 4095
			if ok != enters || enters && got != more || !enters && got != w {
				t.Fatalf("Enter(%#x, %d) = %#x, %v", w, limit, got, ok)
			}
		}
	}
}

// P14.2: Leave of every Count, 0 too, beside all neighbours.
func TestLeave(t *testing.T) {
	for count := range 4096 {
		for _, others := range neighbours() {
			version, _, clock := slowParts(others)
			w := word(version, count, clock)
			if count == 0 {
				wantLeave(t, w, w, false)
			} else {
				wantLeave(t, w, word(version, count-1, clock), true)
			}
		}
	}
	wantLeave(t, 0, 0, false)
	wantLeave(t, full, full-1<<40, true)
	wantLeave(t, 1<<40-1, 1<<40-1, false)
	wantLeave(t, 1<<40, 0, true)
	wantLeave(t, 1<<52, 1<<52, false)
}

// P14.2: Swap of every Version, 4095 too, beside all neighbours.
func TestSwap(t *testing.T) {
	for version := range 4096 {
		for _, others := range neighbours() {
			_, count, clock := slowParts(others)
			w := word(version, count, clock)
			if version == 4095 {
				wantSwap(t, w, w, false)
			} else {
				wantSwap(t, w, word(version+1, count, clock), true)
			}
		}
	}
	wantSwap(t, 0, 1<<52, true)
	wantSwap(t, full, full, false)
	wantSwap(t, 1<<52-1, 1<<53-1, true)
	wantSwap(t, full-1<<52, full, true)
	wantSwap(t, full-1<<52+1, full-1<<52+1, false)
}

// P14.2: the fields that a function does not name keep each of their bits, set alone and missing alone.
func TestOtherFields(t *testing.T) {
	for i := range 64 {
		for _, w := range []uint64{1 << i, full - 1<<i} {
			for _, n := range []int{-1, 0, 1, topClock, math.MaxInt, math.MinInt} {
				if got := Tick(w, n); got != slowTick(w, n) {
					t.Fatalf("Tick(%#x, %d) = %#x", w, n, got)
				}
			}
			for _, limit := range []int{-1, 0, 1, 2, 4094, 4095, math.MaxInt} {
				want, ok := slowEnter(w, limit)
				wantEnter(t, w, limit, want, ok)
			}
			want, ok := slowLeave(w)
			wantLeave(t, w, want, ok)
			want, ok = slowSwap(w)
			wantSwap(t, w, want, ok)
		}
	}
}

// P14.2: arbitrary words against the references.
func TestArbitrarySteps(t *testing.T) {
	r := rand.New(rand.NewSource(143))
	for range 300000 {
		w := arbitraryWord(r)
		_, count, clock := slowParts(w)
		for _, n := range []int{int(r.Uint64()) >> r.Intn(64), topClock - clock + r.Intn(5) - 2} {
			if got := Tick(w, n); got != slowTick(w, n) {
				t.Fatalf("Tick(%#x, %d) = %#x, want %#x", w, n, got, slowTick(w, n))
			}
		}
		for _, limit := range []int{int(r.Uint64()) >> r.Intn(64), count + r.Intn(5) - 2, r.Intn(4097)} {
			want, ok := slowEnter(w, limit)
			wantEnter(t, w, limit, want, ok)
		}
		want, ok := slowLeave(w)
		wantLeave(t, w, want, ok)
		want, ok = slowSwap(w)
		wantSwap(t, w, want, ok)
	}
}

// P14.2: Leave undoes Enter, and Enter undoes Leave.
func TestEnterAndLeave(t *testing.T) {
	for count := range 4096 {
		for _, others := range neighbours() {
			version, _, clock := slowParts(others)
			w := word(version, count, clock)
			if more, ok := Enter(w, math.MaxInt); ok {
				wantLeave(t, more, w, true)
				wantEnter(t, more, count+1, more, false)
			}
			if less, ok := Leave(w); ok {
				wantEnter(t, less, count, w, true)
				wantEnter(t, less, count-1, less, false)
			}
		}
	}
}

// P14.2: Enter until the limit is reached and then Leave until nothing is left, for several limits.
func TestFillAndEmpty(t *testing.T) {
	for _, limit := range []int{-1, 0, 1, 2, 64, 2048, 4094, 4095, 4096, math.MaxInt} {
		for _, empty := range []uint64{0, 5, topClock, 7 << 52, 4095 << 52, 4095<<52 + topClock} {
			w := empty
			entered := 0
			for ok := true; ok && entered < 5000; {
				w, ok = Enter(w, limit)
				if ok {
					entered++
				}
			}
			most := max(min(limit, 4095), 0)
			if entered != most || w != empty+uint64(most)<<40 {
				t.Fatalf("limit %d: %d entered, the word is %#x", limit, entered, w)
			}
			for range most {
				var ok bool
				if w, ok = Leave(w); !ok {
					t.Fatalf("limit %d: %#x", limit, w)
				}
			}
			wantLeave(t, w, empty, false)
		}
	}
}

// P14.2: Swap from version 0 until it is refused.
func TestSwapAll(t *testing.T) {
	for _, first := range []uint64{0, 1<<52 - 1, 5<<40 + 9} {
		w := first
		for version := 1; version <= 4095; version++ {
			next, ok := Swap(w)
			if !ok || next != first+uint64(version)<<52 || Unpack(next).Version != version {
				t.Fatalf("%d: %#x, %v", version, next, ok)
			}
			w = next
		}
		wantSwap(t, w, w, false)
	}
}

// P14.1, P14.2: long sequences of all steps, with the word unpacked and packed again, against a gate that is counted beside it.
func TestSequences(t *testing.T) {
	r := rand.New(rand.NewSource(144))
	for range 300 {
		limit := []int{0, 1, 3, 10, 4095, 9999}[r.Intn(6)]
		g := Unpack(arbitraryWord(r))
		w, _ := Pack(g)
		for range 500 {
			var ok, want bool
			switch r.Intn(4) {
			case 0:
				n := int(r.Uint64()) >> (24 + r.Intn(40))
				w, ok, want = Tick(w, n), true, true
				g.Clock = min(g.Clock+max(n, 0), topClock)
			case 1:
				w, ok = Enter(w, limit)
				if want = g.Count < limit && g.Count < 4095; want {
					g.Count++
				}
			case 2:
				w, ok = Leave(w)
				if want = g.Count > 0; want {
					g.Count--
				}
			case 3:
				w, ok = Swap(w)
				if want = g.Version < 4095; want {
					g.Version++
				}
			}
			if ok != want {
				t.Fatalf("%v, want %v, at %v", ok, want, g)
			}
			wantGate(t, g, w)
		}
	}
}

// R5: nothing is kept: the same calls in another order, with others between them, give the same answers.
func TestNothingKept(t *testing.T) {
	r := rand.New(rand.NewSource(145))
	type answer struct {
		packed, ticked, entered, left, swapped uint64
		e                                      api.Errno
		g                                      api.Gate
		enters, leaves, swaps                  bool
	}
	type call struct {
		w    uint64
		g    api.Gate
		n    int
		want answer
	}
	ask := func(c call) (a answer) {
		a.packed, a.e = Pack(c.g)
		a.g = Unpack(c.w)
		a.ticked = Tick(c.w, c.n)
		a.entered, a.enters = Enter(c.w, c.n)
		a.left, a.leaves = Leave(c.w)
		a.swapped, a.swaps = Swap(c.w)
		return a
	}
	var calls []call
	for i := range 2000 {
		c := call{w: arbitraryWord(r), g: Unpack(arbitraryWord(r)), n: r.Intn(9000) - 1000}
		if i%3 == 0 {
			c.g.Count += r.Intn(9000) - 4500
		}
		c.want = ask(c)
		calls = append(calls, c)
	}
	for range 5 {
		r.Shuffle(len(calls), func(i, j int) { calls[i], calls[j] = calls[j], calls[i] })
		for _, c := range calls {
			if got := ask(c); got != c.want {
				t.Fatalf("%#x %v %d: %v, and before %v", c.w, c.g, c.n, got, c.want)
			}
		}
	}
}
