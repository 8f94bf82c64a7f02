package trace

import (
	"math"
	"math/rand"
	"strconv"
	"testing"

	"mantlet/api"
)

// The flags, written out.
const (
	finBit = 1
	synBit = 2
	rstBit = 4
	pshBit = 8
	ackBit = 16
	urgBit = 32
)

// The states, written out.
const (
	isSynSent  = 1
	isSynRecv  = 2
	isOpen     = 3
	isFinFirst = 4
	isFinReply = 5
	isClosing  = 6
	isReset    = 7
)

// has reports whether a flag is set, by division.
func has(flags uint8, bit int) bool {
	return int(flags)/bit%2 == 1
}

// The kinds of segments, in the words of the document's terms.

func isPlain(flags uint8) bool {
	return has(flags, ackBit) && !has(flags, synBit) && !has(flags, finBit) && !has(flags, rstBit)
}

func isOpening(flags uint8) bool {
	return has(flags, synBit) && !has(flags, ackBit) && !has(flags, finBit) && !has(flags, rstBit)
}

func isAnswer(flags uint8) bool {
	return has(flags, synBit) && has(flags, ackBit) && !has(flags, finBit) && !has(flags, rstBit)
}

func isEnd(flags uint8) bool {
	return has(flags, finBit) && has(flags, ackBit) && !has(flags, synBit) && !has(flags, rstBit)
}

// isAbort reports whether flags are those that reset a flow.
func isAbort(flags uint8) bool {
	return has(flags, rstBit) && !has(flags, synBit) && !has(flags, finBit)
}

// entry is a part of the document's list.
type entry struct {
	state int
	reply bool
	is    func(flags uint8) bool
	next  int
}

// entries is the document's list; what is said of both directions stands for each of them.
func entries() []entry {
	return []entry{
		{1, false, isOpening, 1},
		{1, true, isAnswer, 2},
		{2, false, isOpening, 2},
		{2, true, isAnswer, 2},
		{2, false, isPlain, 3},
		{2, false, isEnd, 4},
		{3, false, isPlain, 3},
		{3, true, isPlain, 3},
		{3, false, isEnd, 4},
		{3, true, isEnd, 5},
		{4, false, isPlain, 4},
		{4, true, isPlain, 4},
		{4, false, isEnd, 4},
		{4, true, isEnd, 6},
		{5, false, isPlain, 5},
		{5, true, isPlain, 5},
		{5, false, isEnd, 6},
		{5, true, isEnd, 5},
		{6, false, isPlain, 6},
		{6, true, isPlain, 6},
		{6, false, isEnd, 6},
		{6, true, isEnd, 6},
	}
}

// slowNext goes by the document's words.
func slowNext(state int, reply bool, flags uint8) (int, bool) {
	if isAbort(flags) && state >= 1 && state <= 7 {
		return 7, true
	}
	for _, e := range entries() {
		if e.state == state && e.reply == reply && e.is(flags) {
			return e.next, true
		}
	}
	return 0, false
}

// wantNext fails the test unless the segment is valid and leads to this state.
func wantNext(t *testing.T, state int, reply bool, flags uint8, want int) {
	t.Helper()
	if got, ok := Next(state, reply, flags); got != want || !ok {
		t.Fatalf("Next(%d, %v, %d) = %d, %v, want %d, true", state, reply, flags, got, ok, want)
	}
}

// wantNone fails the test unless the segment is not valid, with 0 beside the false.
func wantNone(t *testing.T, state int, reply bool, flags uint8) {
	t.Helper()
	if got, ok := Next(state, reply, flags); got != 0 || ok {
		t.Fatalf("Next(%d, %v, %d) = %d, %v, want 0, false", state, reply, flags, got, ok)
	}
}

// wantOpen fails the test unless Open answers so.
func wantOpen(t *testing.T, flags uint8, want bool) {
	t.Helper()
	state := 0
	if want {
		state = 1
	}
	if got, ok := Open(flags); got != state || ok != want {
		t.Fatalf("Open(%d) = %d, %v, want %d, %v", flags, got, ok, state, want)
	}
}

// allFlags returns the 256 values of flags.
func allFlags() []uint8 {
	var list []uint8
	for f := range 256 {
		list = append(list, uint8(f))
	}
	return list
}

// bothWays returns sent and replied.
func bothWays() []bool {
	return []bool{false, true}
}

// edgeStates returns the edges of int and numbers of which some lowest bits are those of a state.
func edgeStates() []int {
	list := []int{math.MinInt, math.MinInt + 1, math.MaxInt - 1, math.MaxInt, math.MinInt32, math.MaxInt32, math.MaxUint32}
	for state := range 8 {
		for _, i := range []int{3, 4, 7, 8, 15, 16, 31, 32, 33, 62, 63} {
			high := int(uint64(1) << i)
			list = append(list, state+high, state-high)
		}
	}
	return list
}

// someStates returns the states from -2 to 10, and the edges.
func someStates() []int {
	list := edgeStates()
	for state := -2; state <= 10; state++ {
		list = append(list, state)
	}
	return list
}

// noStates returns numbers that are not from SynSent to Reset.
func noStates() []int {
	list := edgeStates()
	for i := range 300 {
		list = append(list, -i, 8+i)
	}
	return list
}

// P16.1: each of the 256 values of flags; those of an opening are written out.
func TestOpen(t *testing.T) {
	openings := map[uint8]int{
		2: 1, 10: 1, 34: 1, 42: 1,
		66: 1, 74: 1, 98: 1, 106: 1,
		130: 1, 138: 1, 162: 1, 170: 1,
		194: 1, 202: 1, 226: 1, 234: 1,
	}
	count := 0
	for _, f := range allFlags() {
		wantOpen(t, f, openings[f] == 1)
		wantOpen(t, f, isOpening(f))
		if _, ok := Open(f); ok {
			count++
		}
	}
	if count != 16 {
		t.Errorf("%d openings", count)
	}
}

// P16.1: an opening with each other flag, and each kind that is none.
func TestOpenFlags(t *testing.T) {
	for _, c := range []struct {
		flags uint8
		want  bool
	}{
		{api.Syn, true},
		{api.Syn | api.Psh, true},
		{api.Syn | api.Urg, true},
		{api.Syn | api.Psh | api.Urg, true},
		{api.Syn | 64, true},
		{api.Syn | 128, true},
		{api.Syn | api.Ack, false},
		{api.Syn | api.Fin, false},
		{api.Syn | api.Rst, false},
		{api.Syn | api.Ack | api.Fin, false},
		{api.Syn | api.Ack | api.Rst, false},
		{api.Syn | api.Fin | api.Rst, false},
		{api.Syn | api.Ack | api.Fin | api.Rst, false},
		{0, false},
		{api.Fin, false},
		{api.Rst, false},
		{api.Psh, false},
		{api.Ack, false},
		{api.Urg, false},
		{64, false},
		{128, false},
		{api.Fin | api.Ack, false},
		{api.Rst | api.Ack, false},
		{255, false},
		{255 - api.Syn, false},
	} {
		wantOpen(t, c.flags, c.want)
	}
	if state, _ := Open(api.Syn); state != api.SynSent {
		t.Errorf("%d", state)
	}
}

// P16.1, P16.2: Psh, Urg and the two highest bits change no answer.
func TestOtherBits(t *testing.T) {
	const free = pshBit | urgBit | 64 | 128
	for _, f := range allFlags() {
		bare := f &^ free
		wantOpen(t, f, isOpening(bare))
		for _, state := range someStates() {
			for _, reply := range bothWays() {
				want, wantOK := Next(state, reply, bare)
				if got, ok := Next(state, reply, f); got != want || ok != wantOK {
					t.Fatalf("Next(%d, %v, %d) = %d, %v, but of %d %d, %v", state, reply, f, got, ok, bare, want, wantOK)
				}
			}
		}
	}
}

// P16.2: each state with each direction and each value of flags, against the document's list.
func TestNext(t *testing.T) {
	for _, state := range someStates() {
		for _, reply := range bothWays() {
			for _, f := range allFlags() {
				if want, ok := slowNext(state, reply, f); ok {
					wantNext(t, state, reply, f, want)
				} else {
					wantNone(t, state, reply, f)
				}
			}
		}
	}
}

// P16.2: the next states written out, for each set of the flags that make a difference: from left to right Fin counts 1, Syn 2, Rst 4 and Ack 8.
func TestNextTable(t *testing.T) {
	for _, row := range []struct {
		state int
		reply bool
		next  string
	}{
		{0, false, "................"},
		{0, true, "................"},
		{isSynSent, false, "..1.7.......7..."},
		{isSynSent, true, "....7.....2.7..."},
		{isSynRecv, false, "..2.7...34..7..."},
		{isSynRecv, true, "....7.....2.7..."},
		{isOpen, false, "....7...34..7..."},
		{isOpen, true, "....7...35..7..."},
		{isFinFirst, false, "....7...44..7..."},
		{isFinFirst, true, "....7...46..7..."},
		{isFinReply, false, "....7...56..7..."},
		{isFinReply, true, "....7...55..7..."},
		{isClosing, false, "....7...66..7..."},
		{isClosing, true, "....7...66..7..."},
		{isReset, false, "....7.......7..."},
		{isReset, true, "....7.......7..."},
		{8, false, "................"},
		{8, true, "................"},
	} {
		for _, f := range allFlags() {
			i := f&(finBit|synBit|rstBit) + f&ackBit/2
			want, e := strconv.Atoi(row.next[i : i+1])
			if e != nil {
				wantNone(t, row.state, row.reply, f)
			} else {
				wantNext(t, row.state, row.reply, f, want)
			}
		}
	}
}

// P16.2: the numbers of the states are those of api.
func TestStates(t *testing.T) {
	const syn, answer, plain, end = api.Syn, api.Syn | api.Ack, api.Ack, api.Fin | api.Ack
	wantNext(t, api.SynSent, false, syn, api.SynSent)
	wantNext(t, api.SynSent, true, answer, api.SynRecv)
	wantNext(t, api.SynRecv, false, plain, api.Open)
	wantNext(t, api.SynRecv, false, end, api.FinFirst)
	wantNext(t, api.Open, false, end, api.FinFirst)
	wantNext(t, api.Open, true, end, api.FinReply)
	wantNext(t, api.FinFirst, true, end, api.Closing)
	wantNext(t, api.FinReply, false, end, api.Closing)
	for _, state := range []int{api.SynSent, api.SynRecv, api.Open, api.FinFirst, api.FinReply, api.Closing, api.Reset} {
		wantNext(t, state, false, api.Rst, api.Reset)
		wantNext(t, state, true, api.Rst|api.Ack, api.Reset)
	}
	for _, state := range []int{api.Asked, api.Answered, api.Dead} {
		for _, f := range allFlags() {
			wantNone(t, state, false, f)
			wantNone(t, state, true, f)
		}
	}
}

// P16.2: how many segments are valid in each state and direction: 32 reset it, and 16 are of each kind.
func TestCounts(t *testing.T) {
	want := map[int][2]int{
		1: {48, 48}, 2: {80, 48}, 3: {64, 64}, 4: {64, 64}, 5: {64, 64}, 6: {64, 64}, 7: {32, 32},
	}
	for state := -2; state <= 20; state++ {
		var count [2]int
		for i, reply := range bothWays() {
			for _, f := range allFlags() {
				if _, ok := Next(state, reply, f); ok {
					count[i]++
				}
			}
		}
		if count != want[state] {
			t.Errorf("state %d: %v, want %v", state, count, want[state])
		}
	}
}

// P16.2: Rst resets each state from SynSent to Reset, in both directions, with Ack or without, whatever else is set.
func TestRst(t *testing.T) {
	for state := isSynSent; state <= isReset; state++ {
		for _, reply := range bothWays() {
			for _, f := range []uint8{4, 12, 20, 28, 36, 44, 52, 60} {
				for _, high := range []uint8{0, 64, 128, 192} {
					wantNext(t, state, reply, f+high, isReset)
				}
			}
		}
	}
}

// P16.2: with Rst and Syn, or with Rst and Fin, nothing is valid, in no state.
func TestRstWithSynOrFin(t *testing.T) {
	wrong := 0
	for _, f := range allFlags() {
		if has(f, rstBit) {
			wantOpen(t, f, false)
		}
		if !has(f, rstBit) || !has(f, synBit) && !has(f, finBit) {
			continue
		}
		wrong++
		for _, state := range someStates() {
			wantNone(t, state, false, f)
			wantNone(t, state, true, f)
		}
	}
	if wrong != 96 {
		t.Errorf("%d values of flags", wrong)
	}
}

// P16.2: flags that are of no kind are valid nowhere.
func TestNoKind(t *testing.T) {
	for _, f := range allFlags() {
		if isPlain(f) || isOpening(f) || isAnswer(f) || isEnd(f) || isAbort(f) {
			continue
		}
		for _, state := range someStates() {
			for _, reply := range bothWays() {
				wantNone(t, state, reply, f)
			}
		}
	}
	for _, f := range []uint8{0, 1, 3, 8, 9, 11, 19, 32, 33, 40, 64, 128, 192, 232} {
		for state := range 9 {
			wantNone(t, state, false, f)
			wantNone(t, state, true, f)
		}
	}
}

// P16.2: in Reset nothing is valid but what resets a flow.
func TestReset(t *testing.T) {
	for _, reply := range bothWays() {
		for _, f := range allFlags() {
			if has(f, rstBit) && !has(f, synBit) && !has(f, finBit) {
				wantNext(t, isReset, reply, f, isReset)
			} else {
				wantNone(t, isReset, reply, f)
			}
		}
	}
}

// P16.2: in the states below SynSent and above Reset nothing is valid.
func TestNoStates(t *testing.T) {
	for _, state := range noStates() {
		for _, reply := range bothWays() {
			for _, f := range allFlags() {
				wantNone(t, state, reply, f)
			}
		}
	}
}

// P16.2: which states follow on which, by any segment; all of them are reached from an opening.
func TestFollowers(t *testing.T) {
	want := map[int][]int{
		1: {1, 2, 7}, 2: {2, 3, 4, 7}, 3: {3, 4, 5, 7}, 4: {4, 6, 7}, 5: {5, 6, 7}, 6: {6, 7}, 7: {7},
	}
	reached := map[int]int{}
	first, _ := Open(synBit)
	for todo := []int{first}; len(todo) > 0; todo = todo[1:] {
		state := todo[0]
		if reached[state] > 0 {
			continue
		}
		reached[state] = 1
		follows := map[int]int{}
		for _, f := range allFlags() {
			for _, reply := range bothWays() {
				if next, ok := Next(state, reply, f); ok {
					follows[next] = 1
					todo = append(todo, next)
				}
			}
		}
		if len(follows) != len(want[state]) {
			t.Errorf("state %d: %v, want %v", state, follows, want[state])
		}
		for _, next := range want[state] {
			if follows[next] == 0 {
				t.Errorf("state %d never becomes %d", state, next)
			}
		}
	}
	if len(reached) != 7 {
		t.Errorf("reached %v", reached)
	}
}

// segment is one in a story; one that is not valid there leads to 0.
type segment struct {
	reply bool
	flags uint8
	next  int
}

// tell plays a story from an opening on; a segment that is not valid leaves the state as it is.
func tell(t *testing.T, story []segment) {
	t.Helper()
	state, ok := Open(synBit)
	if state != isSynSent || !ok {
		t.Fatalf("%d, %v", state, ok)
	}
	for _, s := range story {
		if s.next == 0 {
			wantNone(t, state, s.reply, s.flags)
			continue
		}
		wantNext(t, state, s.reply, s.flags, s.next)
		state = s.next
	}
}

// P16.2: the document's example.
func TestExample(t *testing.T) {
	state, ok := Open(synBit)
	if state != 1 || !ok {
		t.Fatalf("%d, %v", state, ok)
	}
	state, ok = Next(state, true, synBit|ackBit)
	if state != 2 || !ok {
		t.Fatalf("%d, %v", state, ok)
	}
	state, ok = Next(state, false, ackBit)
	if state != api.Open || !ok {
		t.Fatalf("%d, %v", state, ok)
	}
}

// P16.2: whole flows, one segment after the other.
func TestStories(t *testing.T) {
	const syn, answer, plain, push, end, rst = synBit, synBit | ackBit, ackBit, pshBit | ackBit, finBit | ackBit, rstBit
	const sent, replied = false, true
	for _, story := range [][]segment{
		{ // who opened it ends first
			{replied, answer, 2}, {sent, plain, 3}, {sent, push, 3}, {replied, push, 3},
			{sent, end, 4}, {replied, plain, 4}, {replied, push, 4}, {replied, end, 6}, {sent, plain, 6},
		},
		{ // the other one ends first
			{replied, answer, 2}, {sent, plain, 3}, {replied, end, 5}, {sent, plain, 5},
			{sent, push, 5}, {sent, end, 6}, {replied, plain, 6},
		},
		{ // everything comes twice
			{sent, syn, 1}, {replied, answer, 2}, {replied, answer, 2}, {sent, syn, 2}, {sent, plain, 3}, {sent, plain, 3},
			{sent, end, 4}, {sent, end, 4}, {replied, end, 6}, {replied, end, 6}, {sent, end, 6}, {sent, plain, 6}, {replied, plain, 6},
		},
		{ // ended before it is open
			{replied, answer, 2}, {sent, end, 4}, {replied, end, 6},
		},
		{ // the wrong one answers, acknowledges or ends
			{sent, answer, 0}, {replied, syn, 0}, {replied, plain, 0}, {sent, plain, 0}, {sent, end, 0}, {replied, end, 0},
			{replied, answer, 2}, {sent, answer, 0}, {replied, syn, 0}, {replied, plain, 0}, {replied, end, 0},
			{sent, plain, 3}, {sent, syn, 0}, {replied, syn, 0}, {sent, answer, 0}, {replied, answer, 0},
			{replied, end, 5}, {sent, syn, 0}, {replied, answer, 0}, {replied, end, 5},
			{sent, end, 6}, {sent, syn, 0}, {replied, answer, 0},
		},
		{ // refused
			{replied, rst | ackBit, 7}, {sent, syn, 0}, {replied, answer, 0}, {sent, plain, 0}, {sent, end, 0}, {sent, rst, 7}, {replied, rst, 7},
		},
		{ // reset once open
			{replied, answer, 2}, {sent, plain, 3}, {sent, rst, 7}, {sent, plain, 0}, {replied, plain, 0}, {replied, end, 0}, {replied, rst | ackBit, 7},
		},
		{ // reset while it ends
			{replied, answer, 2}, {sent, plain, 3}, {replied, end, 5}, {sent, end, 6}, {sent, rst, 7}, {sent, end, 0}, {replied, end, 0},
		},
	} {
		tell(t, story)
	}
}

// facts is what a flow has seen of valid segments.
type facts struct {
	answered     bool // by the other endpoint
	acknowledged bool // after that, by who opened it
	endSent      bool
	endReplied   bool
	reset        bool
}

// learn adds what a valid segment tells.
func (s *facts) learn(reply bool, flags uint8) {
	switch {
	case isAbort(flags):
		s.reset = true
	case isAnswer(flags) && reply:
		s.answered = true
	case isPlain(flags) && !reply:
		s.acknowledged = s.acknowledged || s.answered
	case isEnd(flags) && !reply:
		s.acknowledged = s.acknowledged || s.answered
		s.endSent = true
	case isEnd(flags):
		s.endReplied = true
	}
}

// state returns the state that a flow has by what it has seen, without its earlier states.
func (s *facts) state() int {
	switch {
	case s.reset:
		return isReset
	case s.endSent && s.endReplied:
		return isClosing
	case s.endSent:
		return isFinFirst
	case s.endReplied:
		return isFinReply
	case s.acknowledged:
		return isOpen
	case s.answered:
		return isSynRecv
	}
	return isSynSent
}

// advance does one step of a flow, and fails the test unless it goes as the document lets it.
func advance(t *testing.T, state int, seen *facts, reply bool, flags uint8) int {
	t.Helper()
	next, ok := Next(state, reply, flags)
	if !ok {
		wantNone(t, state, reply, flags)
		return state
	}
	seen.learn(reply, flags)
	switch {
	case next < state:
		t.Fatalf("state %d goes back to %d by %v, %d", state, next, reply, flags)
	case state == isReset && next != isReset:
		t.Fatalf("Reset is left to %d by %v, %d", next, reply, flags)
	case next >= isSynRecv && next <= isClosing && !seen.answered:
		t.Fatalf("state %d ahead of an answer, by %v, %d", next, reply, flags)
	case next >= isOpen && next <= isClosing && !seen.acknowledged:
		t.Fatalf("state %d ahead of an acknowledgement, by %v, %d", next, reply, flags)
	case next != seen.state():
		t.Fatalf("state %d by %v, %d, after %v", next, reply, flags, *seen)
	}
	return next
}

// P16.2: all sequences of three segments from an opening on, each with any set of the flags that make a difference.
func TestShortSequences(t *testing.T) {
	type way struct {
		state int
		seen  facts
	}
	reached := map[int]int{}
	first, _ := Open(synBit)
	ways := []way{{state: first}}
	for range 3 {
		var longer []way
		for _, w := range ways {
			for i := range 32 {
				reply, flags := i/16 == 1, uint8(i%16/8*ackBit+i%8)
				seen := w.seen
				state := advance(t, w.state, &seen, reply, flags)
				longer = append(longer, way{state, seen})
				reached[state]++
			}
		}
		ways = longer
	}
	if len(ways) != 32*32*32 {
		t.Errorf("%d sequences", len(ways))
	}
	for state := isSynSent; state <= isReset; state++ {
		if reached[state] == 0 && state != isClosing && state != isFinReply {
			t.Errorf("state %d is never reached", state)
		}
	}
}

// likely returns flags that are often those of a flow that goes on, and seldom reset it.
func likely(r *rand.Rand) uint8 {
	switch r.Intn(40) {
	case 0:
		return uint8(r.Intn(256))
	case 1, 2:
		return finBit | ackBit
	case 3, 4, 5:
		return synBit
	case 6, 7, 8, 9:
		return synBit | ackBit
	}
	return uint8(ackBit | pshBit*r.Intn(2))
}

// P16.2: long sequences, from an opening on, whatever comes; each state is passed often.
func TestLongSequences(t *testing.T) {
	r := rand.New(rand.NewSource(16))
	passed := map[int]int{}
	for range 3000 {
		state, ok := Open(uint8(synBit | pshBit*r.Intn(2) | urgBit*r.Intn(2) | 64*r.Intn(4)))
		if state != isSynSent || !ok {
			t.Fatalf("%d, %v", state, ok)
		}
		var seen facts
		wild := r.Intn(4) == 0
		for range 100 {
			flags := likely(r)
			if wild {
				flags = uint8(r.Intn(256))
			}
			state = advance(t, state, &seen, r.Intn(2) == 1, flags)
			passed[state]++
		}
	}
	for state := isSynSent; state <= isReset; state++ {
		if passed[state] < 1000 {
			t.Errorf("state %d is passed %d times: the arbitrary ones tell little", state, passed[state])
		}
	}
}

// P16.2: arbitrary states, near and far, against the document's list.
func TestNextArbitrary(t *testing.T) {
	r := rand.New(rand.NewSource(162))
	for range 50000 {
		state, reply, flags := int(r.Uint64())>>r.Intn(64), r.Intn(2) == 1, uint8(r.Intn(256))
		if want, ok := slowNext(state, reply, flags); ok {
			wantNext(t, state, reply, flags, want)
		} else {
			wantNone(t, state, reply, flags)
		}
	}
}

// R5: nothing is kept: the same calls in another order, with others between them, give the same answers.
func TestNothingKept(t *testing.T) {
	type call struct {
		state int
		reply bool
		flags uint8
	}
	type answered struct {
		first, next     int
		opens, goesOver bool
	}
	ask := func(c call) (a answered) {
		a.first, a.opens = Open(c.flags)
		a.next, a.goesOver = Next(c.state, c.reply, c.flags)
		return a
	}
	var calls []call
	before := map[call]answered{}
	for state := -2; state <= 10; state++ {
		for _, reply := range bothWays() {
			for _, f := range allFlags() {
				c := call{state, reply, f}
				calls = append(calls, c)
				before[c] = ask(c)
			}
		}
	}
	r := rand.New(rand.NewSource(163))
	for range 5 {
		r.Shuffle(len(calls), func(i, j int) { calls[i], calls[j] = calls[j], calls[i] })
		for _, c := range calls {
			if got := ask(c); got != before[c] {
				t.Fatalf("%v: %v, and before %v", c, got, before[c])
			}
		}
	}
}
