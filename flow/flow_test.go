package flow

import (
	"math"
	"math/rand"
	"testing"

	"mantlet/api"
	"mantlet/field"
)

// What one of each part is worth: its lowest bit, as the document's terms say.
const (
	oneState = 1 << 60
	oneSeq   = 1 << 40
)

// The greatest numbers, written out.
const (
	topState = 15
	topSeq   = 1048575
	topUntil = 1099511627775
)

// full is the greatest word.
const full = math.MaxUint64

// word is a sum of products.
func word(state, seq, until int) uint64 {
	return uint64(state)*oneState + uint64(seq)*oneSeq + uint64(until)
}

// slowParts divides: what is left of the greater parts is the smaller ones.
func slowParts(w uint64) (state, seq, until int) {
	return int(w / oneState), int(w % oneState / oneSeq), int(w % oneSeq)
}

// slowState returns the lowest 4 bits of a number, which are its remainder by 16.
func slowState(state int) int {
	return (state%16 + 16) % 16
}

// slowNext goes by the document's words.
func slowNext(w uint64, state, until int) uint64 {
	_, seq, _ := slowParts(w)
	if seq < topSeq {
		seq++
	}
	if until < 0 {
		until = 0
	}
	if until > topUntil {
		until = topUntil
	}
	return word(slowState(state), seq, until)
}

// slowOver counts the document's reasons.
func slowOver(w uint64, clock int) bool {
	state, seq, until := slowParts(w)
	reasons := 0
	if state == 0 || state == 15 {
		reasons++
	}
	if until < clock || until == clock {
		reasons++
	}
	if seq == 1048575 {
		reasons++
	}
	return reasons > 0
}

// wantFlow fails the test unless Pack and Unpack say that w is the word of f.
func wantFlow(t *testing.T, f api.Flow, w uint64) {
	t.Helper()
	if got, e := Pack(f); got != w || e != api.OK {
		t.Fatalf("Pack(%v) = %#x, %d, want %#x", f, got, e, w)
	}
	if got := Unpack(w); got != f {
		t.Fatalf("Unpack(%#x) = %v, want %v", w, got, f)
	}
}

// wantNoWord fails the test unless Pack refuses f, and returns 0 beside the error.
func wantNoWord(t *testing.T, f api.Flow) {
	t.Helper()
	if w, e := Pack(f); w != 0 || e != api.ErrArg {
		t.Fatalf("Pack(%v) = %#x, %d, want 0, ErrArg", f, w, e)
	}
}

// wantNext fails the test unless Next returns the word of these parts.
func wantNext(t *testing.T, w uint64, state, until int, wantState, wantSeq, wantUntil int) {
	t.Helper()
	want := word(wantState, wantSeq, wantUntil)
	if got := Next(w, state, until); got != want {
		t.Fatalf("Next(%#x, %d, %d) = %#x, want %#x", w, state, until, got, want)
	}
}

// wantOver fails the test unless Over answers so.
func wantOver(t *testing.T, w uint64, clock int, want bool) {
	t.Helper()
	if got := Over(w, clock); got != want {
		t.Fatalf("Over(%#x, %d) = %v, want %v", w, clock, got, want)
	}
}

// someSeqs returns numbers of the part of 20 bits: its edges and some between.
func someSeqs() []int {
	return []int{0, 1, 2, 255, 256, 0x55555, 1<<19 - 1, 1 << 19, 0xaaaaa, topSeq - 1, topSeq}
}

// someUntils returns numbers of the part of 40 bits: its edges and some between.
func someUntils() []int {
	return []int{0, 1, 2, 255, 4096, math.MaxInt32, 1 << 31, math.MaxUint32, 1 << 32, 0x5555555555, 1<<39 - 1, 1 << 39, 0xaaaaaaaaaa, topUntil - 1, topUntil}
}

// outside returns numbers that are below 0 or above top; the lowest bits of some are those of numbers that are not.
func outside(top int) []int {
	return []int{
		math.MinInt, math.MinInt + 1, math.MinInt + top, -1 << 62, -1 << 60, -1 << 40, -1<<40 + 1, -1 << 32, math.MinInt32,
		-2*top - 2, -top - 1, -top, -top + 1, -16, -15, -2, -1,
		top + 1, top + 2, 2*top + 1, 2*top + 2, 1 << 41, 1<<41 + 1, 1 << 60, 1<<60 + 1, 1 << 62, 1<<62 + 1,
		math.MaxInt - top, math.MaxInt - 1, math.MaxInt,
	}
}

// anyStates returns all numbers of a state, and numbers of which only the lowest 4 bits count.
func anyStates() []int {
	list := outside(topState)
	for state := -40; state <= 40; state++ {
		list = append(list, state)
	}
	return append(list, 255, 256, 257, 1<<31, 1<<32+3, 1<<36, 1<<40+9, 1<<59, -1<<32+7, math.MinInt+15, math.MinInt+16)
}

// anyUntils returns numbers inside and outside the limits of Until.
func anyUntils() []int {
	return append(outside(topUntil), someUntils()...)
}

// anyClocks returns clocks inside the limits and outside, the edges of int too.
func anyClocks() []int {
	return anyUntils()
}

// arbitraryWord returns a word of any parts, which are often at their edges.
func arbitraryWord(r *rand.Rand) uint64 {
	state, seq, until := slowParts(r.Uint64())
	if r.Intn(3) == 0 {
		seq = someSeqs()[r.Intn(len(someSeqs()))]
	}
	if r.Intn(3) == 0 {
		until = someUntils()[r.Intn(len(someUntils()))]
	}
	return word(state, seq, until)
}

// arbitraryInt returns an int of any size, negative or not.
func arbitraryInt(r *rand.Rand) int {
	return int(r.Uint64()) >> r.Intn(64)
}

// P15.1: words written out.
func TestWords(t *testing.T) {
	for _, c := range []struct {
		f api.Flow
		w uint64
	}{
		{api.Flow{}, 0},
		{api.Flow{Until: 1}, 1},
		{api.Flow{Seq: 1}, 0x10000000000},
		{api.Flow{State: 1}, 0x1000000000000000},
		{api.Flow{State: 1, Seq: 2, Until: 3}, 0x1000020000000003},
		{api.Flow{State: 3, Seq: 1, Until: 2}, 0x3000010000000002},
		{api.Flow{State: 2, Seq: 3, Until: 1}, 0x2000030000000001},
		{api.Flow{State: 1, Seq: 0x23456, Until: 0x789abcdef0}, 0x123456789abcdef0},
		{api.Flow{State: 15, Seq: 0xedcba, Until: 0x9876543210}, 0xfedcba9876543210},
		{api.Flow{State: 8, Seq: 1 << 19, Until: 1 << 39}, 0x8800008000000000},
		{api.Flow{State: 14, Seq: topSeq - 1, Until: topUntil - 1}, 0xeffffefffffffffe},
	} {
		wantFlow(t, c.f, c.w)
	}
}

// P15.1: each set of the three fields full, the others empty.
func TestFullFields(t *testing.T) {
	for _, c := range []struct {
		f api.Flow
		w uint64
	}{
		{api.Flow{Until: topUntil}, 0x000000ffffffffff},
		{api.Flow{Seq: topSeq}, 0x0fffff0000000000},
		{api.Flow{State: topState}, 0xf000000000000000},
		{api.Flow{State: topState, Seq: topSeq}, 0xffffff0000000000},
		{api.Flow{State: topState, Until: topUntil}, 0xf00000ffffffffff},
		{api.Flow{Seq: topSeq, Until: topUntil}, 0x0fffffffffffffff},
		{api.Flow{State: topState, Seq: topSeq, Until: topUntil}, full},
	} {
		wantFlow(t, c.f, c.w)
	}
}

// P15.1: the document's limits are those of api.
func TestLimits(t *testing.T) {
	wantFlow(t, api.Flow{State: api.Dead, Seq: api.MaxSeq, Until: api.MaxClock}, full)
	wantNoWord(t, api.Flow{State: api.Dead + 1})
	wantNoWord(t, api.Flow{Seq: api.MaxSeq + 1})
	wantNoWord(t, api.Flow{Until: api.MaxClock + 1})
}

// P15.1: each field inside its limits and outside, at all edges, with each such number of the others.
func TestPackEdges(t *testing.T) {
	states := append(outside(topState), 0, 1, 2, 7, 8, 10, 14, 15)
	seqs := append(outside(topSeq), someSeqs()...)
	for _, state := range states {
		for _, seq := range seqs {
			for _, until := range anyUntils() {
				f := api.Flow{State: state, Seq: seq, Until: until}
				fits := 0 <= state && state <= 15 && 0 <= seq && seq <= 1048575 && 0 <= until && until <= 1099511627775
				if fits {
					wantFlow(t, f, word(state, seq, until))
				} else {
					wantNoWord(t, f)
				}
			}
		}
	}
}

// P15.1: each field outside its limits alone, beside each set of the others empty and full.
func TestPackOneWrong(t *testing.T) {
	for set := range 4 {
		low, high := set&1, set>>1
		for _, n := range outside(topState) {
			wantNoWord(t, api.Flow{State: n, Seq: low * topSeq, Until: high * topUntil})
		}
		for _, n := range outside(topSeq) {
			wantNoWord(t, api.Flow{State: low * topState, Seq: n, Until: high * topUntil})
		}
		for _, n := range outside(topUntil) {
			wantNoWord(t, api.Flow{State: low * topState, Seq: high * topSeq, Until: n})
		}
	}
}

// P15.1: what fits in one field does not fit in a smaller one; and wrong numbers that would be inside together.
func TestPackOtherLimits(t *testing.T) {
	for _, n := range someUntils() {
		wantFlow(t, api.Flow{Until: n}, uint64(n))
		if n > topSeq {
			wantNoWord(t, api.Flow{Seq: n})
		}
		if n > topState {
			wantNoWord(t, api.Flow{State: n})
		}
	}
	for _, n := range someSeqs() {
		wantFlow(t, api.Flow{Seq: n}, uint64(n)<<40)
		if n > topState {
			wantNoWord(t, api.Flow{State: n})
		}
	}
	wantNoWord(t, api.Flow{State: 20, Seq: -20, Until: 20})
	wantNoWord(t, api.Flow{State: -1, Seq: 1, Until: 1})
	wantNoWord(t, api.Flow{State: 1, Seq: -1, Until: 1 << 40})
	wantNoWord(t, api.Flow{State: -1, Seq: 1 << 20, Until: topUntil})
	wantNoWord(t, api.Flow{State: math.MinInt, Seq: math.MinInt, Until: math.MinInt})
	wantNoWord(t, api.Flow{State: math.MaxInt, Seq: math.MaxInt, Until: math.MaxInt})
}

// bitFlow returns the flow of the word of which only bit i is set.
func bitFlow(i int) api.Flow {
	switch {
	case i < 40:
		return api.Flow{Until: 1 << i}
	case i < 60:
		return api.Flow{Seq: 1 << (i - 40)}
	default:
		return api.Flow{State: 1 << (i - 60)}
	}
}

// P15.1: each bit of each field alone, and missing alone from the full word.
func TestBits(t *testing.T) {
	wantFlow(t, api.Flow{}, 0)
	wantFlow(t, api.Flow{State: 15, Seq: topSeq, Until: topUntil}, full)
	for i := range 64 {
		f := bitFlow(i)
		wantFlow(t, f, 1<<i)
		wantFlow(t, api.Flow{State: 15 - f.State, Seq: topSeq - f.Seq, Until: topUntil - f.Until}, full-1<<i)
	}
}

// P15.1: each bit of an int that is above a field, alone and beside lower ones.
func TestPackHighBits(t *testing.T) {
	for i := range 64 {
		n := int(uint64(1) << i)
		for _, low := range []int{0, 1, 15, topSeq, topUntil} {
			if m := n | low; i >= 4 {
				wantNoWord(t, api.Flow{State: m})
				wantNoWord(t, api.Flow{State: m, Seq: topSeq, Until: topUntil})
			}
			if m := n | low; i >= 20 {
				wantNoWord(t, api.Flow{Seq: m})
				wantNoWord(t, api.Flow{State: 15, Seq: m, Until: topUntil})
			}
			if m := n | low; i >= 40 {
				wantNoWord(t, api.Flow{Until: m})
				wantNoWord(t, api.Flow{State: 15, Seq: topSeq, Until: m})
			}
		}
	}
}

// P15.1: every State, also those that no flow has, and some below and above.
func TestPackStates(t *testing.T) {
	for state := -300; state <= 300; state++ {
		for _, seq := range someSeqs() {
			for _, until := range someUntils() {
				f := api.Flow{State: state, Seq: seq, Until: until}
				if 0 <= state && state <= 15 {
					wantFlow(t, f, word(state, seq, until))
				} else {
					wantNoWord(t, f)
				}
			}
		}
	}
}

// P15.1: every Seq, with some below and above, beside empty and full fields.
func TestPackSeqs(t *testing.T) {
	for seq := -1000; seq <= topSeq+1000; seq++ {
		for _, f := range []api.Flow{{Seq: seq}, {State: 15, Seq: seq, Until: topUntil}} {
			if 0 <= seq && seq <= topSeq {
				wantFlow(t, f, word(f.State, seq, f.Until))
			} else {
				wantNoWord(t, f)
			}
		}
	}
}

// P15.1: Untils around each power of two, and around the limit.
func TestPackUntils(t *testing.T) {
	attempt := func(n int) {
		for _, f := range []api.Flow{{Until: n}, {State: 15, Seq: topSeq, Until: n}} {
			if 0 <= n && n <= topUntil {
				wantFlow(t, f, word(f.State, f.Seq, n))
			} else {
				wantNoWord(t, f)
			}
		}
	}
	for i := range 64 {
		for d := -1000; d <= 1000; d++ {
			attempt(int(uint64(1)<<i) + d)
			attempt(-int(uint64(1)<<i) + d)
		}
	}
}

// P15.1: all runs of bits, so that each edge between two fields is crossed.
func TestUnpackRuns(t *testing.T) {
	for i := range 65 {
		below := uint64(1)<<i - 1 // for i 64 the shift leaves nothing, so that all bits are set
		for j := range i + 1 {
			for _, w := range []uint64{below &^ (uint64(1)<<j - 1), ^(below &^ (uint64(1)<<j - 1))} {
				state, seq, until := slowParts(w)
				wantFlow(t, api.Flow{State: state, Seq: seq, Until: until}, w)
			}
		}
	}
}

// P15.1: Unpack of arbitrary words, and Pack of what it returns: each word is one of a flow, by chapter 1's fields too.
func TestUnpackAndPack(t *testing.T) {
	r := rand.New(rand.NewSource(15))
	for i := range 300000 {
		w := r.Uint64()
		if i%2 == 0 {
			w = arbitraryWord(r)
		}
		state, seq, until := slowParts(w)
		wantFlow(t, api.Flow{State: state, Seq: seq, Until: until}, w)
		wantFlow(t, api.Flow{
			State: int(field.Get(w, 60, 4)),
			Seq:   int(field.Get(w, 40, 20)),
			Until: int(field.Get(w, 0, 40)),
		}, w)
		if got, e := Pack(Unpack(w)); got != w || e != api.OK {
			t.Fatalf("%#x: %#x, %d", w, got, e)
		}
	}
}

// P15.1: Unpack of what Pack returns, for arbitrary flows that often do not fit by little.
func TestPackAndUnpack(t *testing.T) {
	r := rand.New(rand.NewSource(151))
	packed := 0
	const calls = 300000
	for range calls {
		f := api.Flow{State: r.Intn(18) - 1, Seq: r.Intn(topSeq+3) - 1, Until: int(r.Uint64() >> (23 + r.Intn(12)))}
		switch r.Intn(8) {
		case 0:
			f.State = arbitraryInt(r)
		case 1:
			f.Seq = arbitraryInt(r)
		case 2:
			f.Until = arbitraryInt(r)
		}
		fits := f.State >= 0 && f.State <= 15 && f.Seq >= 0 && f.Seq <= topSeq && f.Until >= 0 && f.Until <= topUntil
		if !fits {
			wantNoWord(t, f)
			continue
		}
		packed++
		wantFlow(t, f, word(f.State, f.Seq, f.Until))
	}
	if packed < calls/20 || packed > calls*19/20 {
		t.Errorf("%d of %d flows fit: the arbitrary ones tell little", packed, calls)
	}
}

// P15.1: the word of a dead flow.
func TestDead(t *testing.T) {
	if w := Dead(); w != 0xf000000000000000 {
		t.Errorf("%#x", w)
	}
	wantFlow(t, api.Flow{State: api.Dead}, Dead())
	wantFlow(t, api.Flow{State: 15, Seq: 0, Until: 0}, Dead())
	for _, clock := range anyClocks() {
		wantOver(t, Dead(), clock, true)
	}
	wantNext(t, Dead(), 3, 9, 3, 1, 9)
}

// P15.2: the document's example.
func TestExample(t *testing.T) {
	w := Next(0, 1, 5)
	wantFlow(t, api.Flow{State: 1, Seq: 1, Until: 5}, w)
	wantOver(t, w, 5, true)
	wantOver(t, w, 4, false)
}

// P15.2: words written out.
func TestNextWords(t *testing.T) {
	for _, c := range []struct {
		w            uint64
		state, until int
		want         uint64
	}{
		{0, 0, 0, 0x0000010000000000},
		{0, 1, 5, 0x1000010000000005},
		{0, 15, topUntil, 0xf00001ffffffffff},
		{0x1000010000000005, 2, 9, 0x2000020000000009},
		{0x1000010000000005, 1, 5, 0x1000020000000005},
		{0x30000f0000000005, 3, 5, 0x3000100000000005},
		{0xf7ffffffffffffff, 0, 0, 0x0800000000000000},
		{0xf7ffffffffffffff, 15, topUntil, 0xf80000ffffffffff},
		{0x9ffffe0000000007, 9, 8, 0x9fffff0000000008},
		{0x9fffff0000000007, 9, 8, 0x9fffff0000000008},
		{full, 0, 0, 0x0fffff0000000000},
		{full, 1, -1, 0x1fffff0000000000},
		{full, 15, topUntil, full},
		{full, -1, topUntil + 1, full},
		{0, 16, -1, 0x0000010000000000},
		{0, 17, math.MinInt, 0x1000010000000000},
		{0, -16, math.MaxInt, 0x000001ffffffffff},
		{0, math.MinInt, topUntil - 1, 0x000001fffffffffe},
		{0, math.MaxInt, 1, 0xf000010000000001},
	} {
		if got := Next(c.w, c.state, c.until); got != c.want {
			t.Errorf("Next(%#x, %d, %d) = %#x, want %#x", c.w, c.state, c.until, got, c.want)
		}
	}
}

// P15.2: Next from each Seq at an edge, by all states and Untils, from words whose other fields are empty, full and between.
func TestNextEdges(t *testing.T) {
	for _, seq := range someSeqs() {
		after := min(seq+1, topSeq)
		for _, oldState := range []int{0, 1, 5, 10, 14, 15} {
			for _, oldUntil := range []int{0, 1, 0x5a5a5a5a5a, topUntil - 1, topUntil} {
				w := word(oldState, seq, oldUntil)
				for _, state := range anyStates() {
					for _, until := range anyUntils() {
						wantNext(t, w, state, until, slowState(state), after, min(max(until, 0), topUntil))
					}
				}
			}
		}
	}
}

// P15.2: only the lowest 4 bits of a state count: each state with each higher bit, and all higher bits.
func TestNextStateBits(t *testing.T) {
	for state := range 16 {
		for i := 4; i < 64; i++ {
			high := int(uint64(1) << i)
			for _, w := range []uint64{0, full, Dead(), word(7, 9, 11)} {
				_, seq, _ := slowParts(w)
				after := min(seq+1, topSeq)
				wantNext(t, w, state, 77, state, after, 77)
				wantNext(t, w, state|high, 77, state, after, 77)
				wantNext(t, w, state|-high, 77, state, after, 77)
				wantNext(t, w, state|(-16&^high), 77, state, after, 77)
			}
		}
	}
}

// P15.2: Until around each power of two and its limits, negative too.
func TestNextUntils(t *testing.T) {
	for _, w := range []uint64{0, full, word(7, 9, 11)} {
		_, seq, _ := slowParts(w)
		after := min(seq+1, topSeq)
		for i := range 64 {
			for d := -40; d <= 40; d++ {
				for _, until := range []int{int(uint64(1)<<i) + d, -int(uint64(1)<<i) + d, topUntil - int(uint64(1)<<i) + d} {
					want := until
					switch {
					case until < 0:
						want = 0
					case until > topUntil:
						want = topUntil
					}
					wantNext(t, w, 3, until, 3, after, want)
				}
			}
		}
	}
}

// P15.2: Next from every Seq, beside empty and full fields: it never passes MaxSeq and nothing is carried over.
func TestNextSeqs(t *testing.T) {
	for seq := range topSeq + 1 {
		after := seq + 1
		if seq == topSeq {
			after = topSeq
		}
		wantNext(t, word(0, seq, 0), 15, topUntil, 15, after, topUntil)
		wantNext(t, word(15, seq, topUntil), 0, 0, 0, after, 0)
		wantNext(t, word(4, seq, 6), 4, 6, 4, after, 6)
	}
}

// P15.2: nothing of the old State and Until is left, whichever bits they have.
func TestNextForgets(t *testing.T) {
	for _, seq := range someSeqs() {
		after := min(seq+1, topSeq)
		for i := range 64 {
			f := bitFlow(i)
			for _, w := range []uint64{word(f.State, seq, f.Until), word(15-f.State, seq, topUntil-f.Until)} {
				wantNext(t, w, 0, 0, 0, after, 0)
				wantNext(t, w, 15, topUntil, 15, after, topUntil)
				wantNext(t, w, 5, 0x5555555555, 5, after, 0x5555555555)
				wantNext(t, w, 10, 0xaaaaaaaaaa, 10, after, 0xaaaaaaaaaa)
			}
		}
	}
}

// P15.2: arbitrary words, states and Untils against the reference.
func TestNextArbitrary(t *testing.T) {
	r := rand.New(rand.NewSource(152))
	for range 300000 {
		w, state, until := arbitraryWord(r), arbitraryInt(r), arbitraryInt(r)
		if got := Next(w, state, until); got != slowNext(w, state, until) {
			t.Fatalf("Next(%#x, %d, %d) = %#x, want %#x", w, state, until, got, slowNext(w, state, until))
		}
	}
}

// P15.2: each reason alone and with the others, at clocks just below, at and above Until.
func TestOver(t *testing.T) {
	for state := range 16 {
		ended := state == 0 || state == 15
		for _, seq := range someSeqs() {
			used := seq == topSeq
			for _, until := range someUntils() {
				w := word(state, seq, until)
				for _, clock := range []int{until - 2, until - 1, -1, math.MinInt, until - topUntil - 1} {
					wantOver(t, w, clock, ended || used)
				}
				for _, clock := range []int{until, until + 1, until + 2, topUntil, topUntil + 1, until + topUntil, math.MaxInt} {
					wantOver(t, w, clock, true)
				}
			}
		}
	}
}

// P15.2: each of the reasons written out, the others absent.
func TestOverReasons(t *testing.T) {
	for _, c := range []struct {
		f     api.Flow
		clock int
		want  bool
	}{
		{api.Flow{State: 1, Seq: 1, Until: 5}, 4, false},
		{api.Flow{State: 1, Seq: 1, Until: 5}, 5, true},
		{api.Flow{State: 1, Seq: 1, Until: 5}, 6, true},
		{api.Flow{State: 1, Seq: 0, Until: 5}, 4, false},
		{api.Flow{State: 0, Seq: 1, Until: 5}, 4, true},
		{api.Flow{State: api.Dead, Seq: 1, Until: 5}, 4, true},
		{api.Flow{State: 14, Seq: 1, Until: 5}, 4, false},
		{api.Flow{State: api.Reset, Seq: 1, Until: 5}, 4, false},
		{api.Flow{State: api.Answered, Seq: topSeq - 1, Until: 5}, 4, false},
		{api.Flow{State: api.Answered, Seq: topSeq, Until: 5}, 4, true},
		{api.Flow{State: 1, Seq: 1, Until: 0}, 0, true},
		{api.Flow{State: 1, Seq: 1, Until: 0}, -1, false},
		{api.Flow{State: 0, Seq: 1, Until: 0}, -1, true},
		{api.Flow{State: 1, Seq: 1, Until: topUntil}, topUntil - 1, false},
		{api.Flow{State: 1, Seq: 1, Until: topUntil}, topUntil, true},
		{api.Flow{State: 1, Seq: 1, Until: topUntil}, topUntil + 1, true},
		{api.Flow{State: 1, Seq: 1, Until: topUntil}, math.MaxInt, true},
		{api.Flow{State: 1, Seq: 1, Until: topUntil}, math.MinInt, false},
		{api.Flow{}, math.MinInt, true},
		{api.Flow{State: api.Dead, Seq: topSeq, Until: topUntil}, math.MinInt, true},
		{api.Flow{State: 1, Seq: topSeq, Until: topUntil}, math.MinInt, true},
	} {
		w, _ := Pack(c.f)
		wantOver(t, w, c.clock, c.want)
	}
}

// P15.2: all clocks at the edges, as they are: one below 0 or above MaxClock is not cut to the limits.
func TestOverClocks(t *testing.T) {
	for _, until := range someUntils() {
		for _, clock := range anyClocks() {
			for state := 1; state <= 14; state++ {
				for _, seq := range []int{0, 1, 1 << 19, topSeq - 1} {
					wantOver(t, word(state, seq, until), clock, until <= clock)
				}
				wantOver(t, word(state, topSeq, until), clock, true)
			}
			for _, seq := range someSeqs() {
				wantOver(t, word(0, seq, until), clock, true)
				wantOver(t, word(15, seq, until), clock, true)
			}
		}
	}
}

// P15.2: of all Seqs only the greatest makes a flow over.
func TestOverSeqs(t *testing.T) {
	for seq := range topSeq + 1 {
		for _, f := range []api.Flow{{State: 1, Seq: seq, Until: 1}, {State: 14, Seq: seq, Until: topUntil}} {
			wantOver(t, word(f.State, seq, f.Until), 0, seq == topSeq)
			wantOver(t, word(f.State, seq, f.Until), f.Until, true)
		}
	}
}

// P15.2: each bit of a word, set alone and missing alone, against the reference.
func TestOverBits(t *testing.T) {
	for i := range 64 {
		for j := range 64 {
			for _, w := range []uint64{1<<i | 1<<j, ^uint64(1<<i | 1<<j)} {
				for _, clock := range anyClocks() {
					wantOver(t, w, clock, slowOver(w, clock))
				}
			}
		}
	}
}

// P15.2: arbitrary words and clocks against the reference; the answer is often yes and often no.
func TestOverArbitrary(t *testing.T) {
	r := rand.New(rand.NewSource(153))
	over := 0
	const calls = 400000
	for range calls {
		w := arbitraryWord(r)
		_, _, until := slowParts(w)
		clock := until + r.Intn(5) - 2
		if r.Intn(2) == 0 {
			clock = arbitraryInt(r)
		}
		want := slowOver(w, clock)
		wantOver(t, w, clock, want)
		if want {
			over++
		}
	}
	if over < calls/10 || over > calls*9/10 {
		t.Errorf("%d of %d are over: the arbitrary ones tell little", over, calls)
	}
}

// P15.2: a flow that is over stays over as the clock goes on, step by step and by leaps.
func TestStaysOver(t *testing.T) {
	r := rand.New(rand.NewSource(154))
	for range 3000 {
		w := arbitraryWord(r)
		_, _, until := slowParts(w)
		clock, over := until-r.Intn(20), false
		for range 60 {
			now := Over(w, clock)
			if over && !now {
				t.Fatalf("%#x was over, and is not at clock %d", w, clock)
			}
			if !now && clock >= until {
				t.Fatalf("%#x is not over at clock %d", w, clock)
			}
			over = now
			clock += r.Intn(3)
		}
		for _, leap := range []int{1, topUntil, 1 << 41, 1 << 60} {
			clock += leap
			wantOver(t, w, clock, true)
		}
		wantOver(t, w, math.MaxInt, true)
	}
}

// P15.2: the longest sequence of Next there is: no word recurs until the flow is over by its Seq.
func TestNoWordRecurs(t *testing.T) {
	for _, vary := range []bool{false, true} {
		seen := make(map[uint64]struct{}, topSeq)
		w, steps := Next(0, 1, topUntil), 1
		for !Over(w, 0) {
			if _, ok := seen[w]; ok {
				t.Fatalf("%#x recurs after %d steps", w, steps)
			}
			seen[w] = struct{}{}
			state, until := 1, topUntil
			if vary {
				state, until = 1+steps%14, 1+steps%7
			}
			w = Next(w, state, until)
			steps++
		}
		if _, seq, _ := slowParts(w); seq != topSeq || steps != topSeq {
			t.Fatalf("over at %#x, after %d steps", w, steps)
		}
		// What is over by its Seq stays so, whatever follows.
		for state := range 16 {
			for _, until := range anyUntils() {
				wantOver(t, Next(w, state, until), math.MinInt, true)
			}
		}
	}
}

// P15.2: sequences of Next from any word, over the end: no word recurs until the Seq is MaxSeq, also if the flow is dead meanwhile.
func TestNoWordRecursFromAny(t *testing.T) {
	r := rand.New(rand.NewSource(155))
	for range 3000 {
		w := arbitraryWord(r)
		if r.Intn(2) == 0 {
			w = w&^(topSeq<<40) | uint64(topSeq-r.Intn(150))<<40
		}
		states, untils := 1+r.Intn(16), 1+r.Intn(5)
		seen := map[uint64]int{}
		for i := range 100 {
			_, seq, _ := slowParts(w)
			if seq == topSeq {
				wantOver(t, w, math.MinInt, true)
				break
			}
			if before, ok := seen[w]; ok {
				t.Fatalf("%#x of step %d recurs at step %d", w, before, i)
			}
			seen[w] = i
			w = Next(w, r.Intn(states), r.Intn(untils))
			if _, after, _ := slowParts(w); after != seq+1 {
				t.Fatalf("Seq %d after %d", after, seq)
			}
		}
	}
}

// P15.1, P15.2: long sequences, with the word unpacked and packed again, against a flow that is counted beside it.
func TestSequences(t *testing.T) {
	r := rand.New(rand.NewSource(156))
	for range 500 {
		f := Unpack(arbitraryWord(r))
		w, _ := Pack(f)
		clock := 0
		for range 300 {
			state, until := arbitraryInt(r), clock+r.Intn(40)-5
			if r.Intn(4) == 0 {
				until = arbitraryInt(r)
			}
			w = Next(w, state, until)
			f = api.Flow{State: slowState(state), Seq: min(f.Seq+1, topSeq), Until: min(max(until, 0), topUntil)}
			wantFlow(t, f, w)
			clock += r.Intn(10)
			wantOver(t, w, clock, f.State == 0 || f.State == 15 || f.Until <= clock || f.Seq == topSeq)
		}
	}
}

// R5: nothing is kept: the same calls in another order, with others between them, give the same answers.
func TestNothingKept(t *testing.T) {
	r := rand.New(rand.NewSource(157))
	type answer struct {
		packed, next, dead uint64
		e                  api.Errno
		f                  api.Flow
		over               bool
	}
	type call struct {
		w               uint64
		f               api.Flow
		state, n, clock int
		want            answer
	}
	ask := func(c call) (a answer) {
		a.packed, a.e = Pack(c.f)
		a.f = Unpack(c.w)
		a.next = Next(c.w, c.state, c.n)
		a.over = Over(c.w, c.clock)
		a.dead = Dead()
		return a
	}
	var calls []call
	for i := range 2000 {
		c := call{w: arbitraryWord(r), f: Unpack(arbitraryWord(r)), state: r.Intn(40) - 20, n: arbitraryInt(r), clock: arbitraryInt(r)}
		if i%3 == 0 {
			c.f.State += r.Intn(40) - 20
		}
		c.want = ask(c)
		if c.want.dead != 15<<60 {
			t.Fatalf("%#x", c.want.dead)
		}
		calls = append(calls, c)
	}
	for range 5 {
		r.Shuffle(len(calls), func(i, j int) { calls[i], calls[j] = calls[j], calls[i] })
		for _, c := range calls {
			if got := ask(c); got != c.want {
				t.Fatalf("%#x %v %d %d %d: %v, and before %v", c.w, c.f, c.state, c.n, c.clock, got, c.want)
			}
		}
	}
}
