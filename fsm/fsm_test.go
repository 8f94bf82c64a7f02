package fsm

import (
	"math"
	"math/big"
	"math/rand"
	"testing"

	"mantlet/api"
	"mantlet/key"
	"mantlet/pack"
	"mantlet/trace"
	"mantlet/wire"
)

// The protocols, written out.
const (
	isICMP = 1
	isTCP  = 6
	isUDP  = 17
)

// The two kinds of echo messages, written out.
const (
	isReply = 0
	isEcho  = 8
)

// The flags that the tests name, written out.
const (
	finFlag = 1
	synFlag = 2
	rstFlag = 4
	ackFlag = 16
)

// The states that the tests name, written out.
const (
	isSynSent  = 1
	isReset    = 7
	isAsked    = 8
	isAnswered = 9
)

// The greatest clock and timeout, written out.
const (
	topClock = 1099511627775
	topTime  = 1048576
)

// result is what Open and Next return.
type result struct {
	state int
	ok    bool
}

// slowOpen goes by the document's words, one row for each thing that opens a flow.
func slowOpen(p api.Packet) result {
	var r result
	if p.Proto == isTCP {
		r.state, r.ok = trace.Open(p.Flags)
	}
	if p.Proto == isUDP || p.Proto == isICMP && p.Kind == isEcho {
		r = result{8, true}
	}
	return r
}

// slowNext goes by the document's words.
func slowNext(state int, reply bool, p api.Packet) result {
	var r result
	if p.Proto == isTCP {
		r.state, r.ok = trace.Next(state, reply, p.Flags)
		return r
	}
	if state != 8 && state != 9 {
		return r
	}
	udp := p.Proto == isUDP
	question := p.Proto == isICMP && p.Kind == isEcho
	answer := p.Proto == isICMP && p.Kind == isReply
	if reply && (udp || answer) {
		r = result{9, true}
	}
	if !reply && (udp || question) {
		r = result{state, true}
	}
	return r
}

// slowUntil adds unbounded integers.
func slowUntil(times [16]int, state, clock int) int {
	timeout := 0
	for i, n := range times {
		if i == state {
			timeout = n
		}
	}
	sum := new(big.Int).Add(slowClamp(clock, 0, topClock), slowClamp(timeout, 1, topTime))
	if sum.Cmp(big.NewInt(topClock)) > 0 {
		return topClock
	}
	return int(sum.Int64())
}

// slowClamp compares unbounded integers.
func slowClamp(n, low, high int) *big.Int {
	b := big.NewInt(int64(n))
	if b.Cmp(big.NewInt(int64(low))) < 0 {
		return big.NewInt(int64(low))
	}
	if b.Cmp(big.NewInt(int64(high))) > 0 {
		return big.NewInt(int64(high))
	}
	return b
}

// wantOpen fails the test unless Open answers so.
func wantOpen(t *testing.T, p api.Packet, want result) {
	t.Helper()
	if got, ok := Open(p); got != want.state || ok != want.ok {
		t.Fatalf("Open(%+v) = %d, %v, want %v", p, got, ok, want)
	}
}

// wantNext fails the test unless Next answers so.
func wantNext(t *testing.T, state int, reply bool, p api.Packet, want result) {
	t.Helper()
	if got, ok := Next(state, reply, p); got != want.state || ok != want.ok {
		t.Fatalf("Next(%d, %v, %+v) = %d, %v, want %v", state, reply, p, got, ok, want)
	}
}

// wantUntil fails the test unless Until returns this, and leaves the timeouts as they are.
func wantUntil(t *testing.T, times [16]int, state, clock, want int) {
	t.Helper()
	before := times
	if got := Until(times, state, clock); got != want {
		t.Fatalf("Until(%v, %d, %d) = %d, want %d", times, state, clock, got, want)
	}
	if times != before {
		t.Fatalf("Until(%v, %d, %d) changed them to %v", before, state, clock, times)
	}
}

// bothWays returns sent and replied.
func bothWays() []bool {
	return []bool{false, true}
}

// edges returns the edges of int, and numbers of which some lowest bits are those of a state.
func edges() []int {
	list := []int{math.MinInt, math.MinInt + 1, math.MaxInt - 1, math.MaxInt, math.MinInt32, math.MaxInt32, math.MaxUint32}
	for _, state := range []int{0, 1, 7, 8, 9, 15} {
		for _, i := range []int{4, 5, 7, 8, 15, 16, 31, 32, 33, 62, 63} {
			high := int(uint64(1) << i)
			list = append(list, state+high, state-high)
		}
	}
	return list
}

// someStates returns the states from -2 to 17, and the edges.
func someStates() []int {
	list := edges()
	for state := -2; state <= 17; state++ {
		list = append(list, state)
	}
	return list
}

// someBytes returns flags and kinds: what has a name, single bits, and the edges.
func someBytes() []uint8 {
	return []uint8{0, 1, 2, 4, 8, 16, 18, 17, 20, 3, 6, 7, 9, 24, 32, 63, 64, 128, 255}
}

// others returns the protocols that have no flows.
func others() []uint8 {
	var list []uint8
	for n := range 256 {
		if n != isTCP && n != isUDP && n != isICMP {
			list = append(list, uint8(n))
		}
	}
	return list
}

// places returns p with several addresses and ports, alike ones and the edges among them.
func places(p api.Packet) []api.Packet {
	list := []api.Packet{p}
	for _, addrs := range [][2]uint32{{0, 0}, {1, 2}, {2, 1}, {0x0a000001, 0xc0a80101}, {math.MaxUint32, 0}, {math.MaxUint32, math.MaxUint32}} {
		for _, ports := range [][2]uint16{{0, 0}, {1, 2}, {80, 1025}, {8, 8}, {math.MaxUint16, 0}, {math.MaxUint16, math.MaxUint16}} {
			p.Src, p.Dst, p.SPort, p.DPort = addrs[0], addrs[1], ports[0], ports[1]
			list = append(list, p)
		}
	}
	return list
}

// P17.1: each of the 256 protocols, with several flags and kinds.
func TestOpenProtocols(t *testing.T) {
	for proto := range 256 {
		for _, flags := range someBytes() {
			for _, kind := range someBytes() {
				p := api.Packet{Proto: uint8(proto), Flags: flags, Kind: kind}
				wantOpen(t, p, slowOpen(p))
			}
		}
	}
}

// P17.1: which protocols open a flow, written out, by a packet that looks like an opening and like an echo.
func TestOpenWhichProtocols(t *testing.T) {
	opens := map[uint8]int{1: 8, 6: 1, 17: 8}
	for proto := range 256 {
		p := api.Packet{Proto: uint8(proto), Flags: synFlag, Kind: isEcho}
		state := opens[p.Proto]
		wantOpen(t, p, result{state, state > 0})
	}
}

// P17.1: TCP with each of the 256 values of flags, against chapter 16's Open; the Kind changes nothing.
func TestOpenTCP(t *testing.T) {
	count := 0
	for f := range 256 {
		state, ok := trace.Open(uint8(f))
		for _, kind := range someBytes() {
			wantOpen(t, api.Packet{Proto: isTCP, Flags: uint8(f), Kind: kind}, result{state, ok})
		}
		if ok {
			count++
		}
	}
	if count != 16 {
		t.Errorf("%d openings", count)
	}
	wantOpen(t, api.Packet{Proto: isTCP, Flags: synFlag}, result{isSynSent, true})
	wantOpen(t, api.Packet{Proto: isTCP, Flags: synFlag | ackFlag}, result{})
	wantOpen(t, api.Packet{Proto: isTCP, Flags: ackFlag}, result{})
	wantOpen(t, api.Packet{Proto: isTCP, Flags: rstFlag}, result{})
	wantOpen(t, api.Packet{Proto: isTCP}, result{})
}

// P17.1: ICMP with each of the 256 kinds; the Flags change nothing.
func TestOpenICMP(t *testing.T) {
	for kind := range 256 {
		for _, flags := range someBytes() {
			p := api.Packet{Proto: isICMP, Flags: flags, Kind: uint8(kind)}
			if kind == isEcho {
				wantOpen(t, p, result{isAsked, true})
			} else {
				wantOpen(t, p, result{})
			}
		}
	}
}

// P17.1: UDP with all flags and kinds.
func TestOpenUDP(t *testing.T) {
	for i := range 256 * 256 {
		wantOpen(t, api.Packet{Proto: isUDP, Flags: uint8(i / 256), Kind: uint8(i % 256)}, result{isAsked, true})
	}
}

// P17.1: addresses and ports change nothing, also in packets that are not valid.
func TestOpenPlaces(t *testing.T) {
	invalid := 0
	for proto := range 256 {
		for _, flags := range []uint8{0, synFlag, ackFlag, 255} {
			for _, kind := range []uint8{isReply, isEcho, 255} {
				bare := api.Packet{Proto: uint8(proto), Flags: flags, Kind: kind}
				want := slowOpen(bare)
				for _, p := range places(bare) {
					wantOpen(t, p, want)
					if want.ok && !pack.Good(p) {
						invalid++
					}
				}
			}
		}
	}
	if invalid < 100 {
		t.Errorf("only %d packets that are not valid open a flow", invalid)
	}
}

// P17.2: each of the 256 protocols in each state and direction, with several flags and kinds.
func TestNextProtocols(t *testing.T) {
	few := []uint8{0, 2, 8, 16, 18, 17, 4, 255}
	for _, state := range someStates() {
		for proto := range 256 {
			for _, b := range few {
				for _, reply := range bothWays() {
					for _, p := range []api.Packet{
						{Proto: uint8(proto), Flags: b},
						{Proto: uint8(proto), Kind: b},
						{Proto: uint8(proto), Flags: b, Kind: b},
					} {
						wantNext(t, state, reply, p, slowNext(state, reply, p))
					}
				}
			}
		}
	}
}

// P17.2: TCP with each of the 256 values of flags, against chapter 16's Next; the Kind changes nothing.
func TestNextTCP(t *testing.T) {
	for _, state := range someStates() {
		for _, reply := range bothWays() {
			for f := range 256 {
				next, ok := trace.Next(state, reply, uint8(f))
				for _, kind := range []uint8{isReply, isEcho, 255} {
					wantNext(t, state, reply, api.Packet{Proto: isTCP, Flags: uint8(f), Kind: kind}, result{next, ok})
				}
			}
		}
	}
}

// P17.2: a TCP flow from its opening on, written out.
func TestNextTCPFlow(t *testing.T) {
	state, ok := Open(api.Packet{Proto: isTCP, Flags: synFlag})
	if state != 1 || !ok {
		t.Fatalf("%d, %v", state, ok)
	}
	for _, s := range []struct {
		reply bool
		flags uint8
		next  int
	}{
		{true, synFlag | ackFlag, 2},
		{false, ackFlag, 3},
		{true, ackFlag, 3},
		{true, finFlag | ackFlag, 5},
		{false, finFlag | ackFlag, 6},
		{true, ackFlag, 6},
		{false, rstFlag, 7},
	} {
		wantNext(t, state, s.reply, api.Packet{Proto: isTCP, Flags: s.flags}, result{s.next, true})
		wantNext(t, state, s.reply, api.Packet{Proto: isTCP}, result{})
		state = s.next
	}
}

// P17.2: ICMP with each of the 256 kinds, in each state and direction; the Flags change nothing.
func TestNextICMP(t *testing.T) {
	for _, state := range someStates() {
		for kind := range 256 {
			for _, flags := range []uint8{0, synFlag, ackFlag, synFlag | ackFlag, rstFlag, 255} {
				p := api.Packet{Proto: isICMP, Flags: flags, Kind: uint8(kind)}
				sent, replied := result{}, result{}
				if state == isAsked || state == isAnswered {
					switch kind {
					case isEcho:
						sent = result{state, true}
					case isReply:
						replied = result{isAnswered, true}
					}
				}
				wantNext(t, state, false, p, sent)
				wantNext(t, state, true, p, replied)
			}
		}
	}
}

// P17.2: UDP in each state and direction; Flags and Kind change nothing.
func TestNextUDP(t *testing.T) {
	for _, state := range someStates() {
		for _, flags := range someBytes() {
			for _, kind := range someBytes() {
				p := api.Packet{Proto: isUDP, Flags: flags, Kind: kind}
				sent, replied := result{}, result{}
				if state == isAsked || state == isAnswered {
					sent, replied = result{state, true}, result{isAnswered, true}
				}
				wantNext(t, state, false, p, sent)
				wantNext(t, state, true, p, replied)
			}
		}
	}
	for i := range 256 * 256 {
		p := api.Packet{Proto: isUDP, Flags: uint8(i / 256), Kind: uint8(i % 256)}
		wantNext(t, isAsked, false, p, result{isAsked, true})
		wantNext(t, isAsked, true, p, result{isAnswered, true})
		wantNext(t, isAnswered, false, p, result{isAnswered, true})
		wantNext(t, isAnswered, true, p, result{isAnswered, true})
		wantNext(t, isSynSent, false, p, result{})
	}
}

// P17.2: the next states of UDP and ICMP, written out.
func TestNextTable(t *testing.T) {
	dgram, echo, back := api.Packet{Proto: api.UDP}, api.Packet{Proto: api.ICMP, Kind: api.Echo}, api.Packet{Proto: api.ICMP, Kind: api.EchoReply}
	for _, row := range []struct {
		state int
		reply bool
		p     api.Packet
		next  int
	}{
		{api.Asked, false, dgram, api.Asked},
		{api.Asked, true, dgram, api.Answered},
		{api.Answered, false, dgram, api.Answered},
		{api.Answered, true, dgram, api.Answered},
		{api.Asked, false, echo, api.Asked},
		{api.Asked, true, echo, 0},
		{api.Answered, false, echo, api.Answered},
		{api.Answered, true, echo, 0},
		{api.Asked, false, back, 0},
		{api.Asked, true, back, api.Answered},
		{api.Answered, false, back, 0},
		{api.Answered, true, back, api.Answered},
		{api.SynSent, false, dgram, 0},
		{api.Reset, true, dgram, 0},
		{api.Dead, true, dgram, 0},
		{api.Dead, false, echo, 0},
		{0, false, dgram, 0},
		{0, false, echo, 0},
		{0, true, back, 0},
		{10, false, dgram, 0},
		{10, true, back, 0},
		{-8, false, dgram, 0},
		{24, false, echo, 0},
	} {
		wantNext(t, row.state, row.reply, row.p, result{row.next, row.next > 0})
	}
}

// P17.2: a protocol that has no flows is valid in no state, with 0 beside the false.
func TestNextOthers(t *testing.T) {
	list := others()
	if len(list) != 253 {
		t.Errorf("%d other protocols", len(list))
	}
	for _, proto := range list {
		for _, state := range someStates() {
			for _, b := range []uint8{0, 2, 4, 8, 16, 18} {
				for _, reply := range bothWays() {
					wantNext(t, state, reply, api.Packet{Proto: proto, Flags: b, Kind: b}, result{})
				}
			}
		}
	}
}

// P17.2: UDP and ICMP are valid in Asked and Answered only, and TCP in neither of them.
func TestNextStatesApart(t *testing.T) {
	valid := map[uint8]map[int]int{}
	for _, proto := range []uint8{isTCP, isUDP, isICMP} {
		valid[proto] = map[int]int{}
		for _, state := range someStates() {
			for f := range 256 {
				for _, kind := range []uint8{isReply, isEcho, 255} {
					for _, reply := range bothWays() {
						if _, ok := Next(state, reply, api.Packet{Proto: proto, Flags: uint8(f), Kind: kind}); ok {
							valid[proto][state]++
						}
					}
				}
			}
		}
	}
	for _, proto := range []uint8{isUDP, isICMP} {
		if len(valid[proto]) != 2 || valid[proto][isAsked] == 0 || valid[proto][isAnswered] == 0 {
			t.Errorf("protocol %d is valid in %v", proto, valid[proto])
		}
	}
	if len(valid[isTCP]) != 7 {
		t.Errorf("TCP is valid in %v", valid[isTCP])
	}
	for state := range valid[isTCP] {
		if state < isSynSent || state > isReset {
			t.Errorf("TCP is valid in %d", state)
		}
	}
}

// P17.2: from Answered nothing leads back to Asked.
func TestNextNeverBack(t *testing.T) {
	for proto := range 256 {
		for kind := range 256 {
			for _, flags := range someBytes() {
				for _, reply := range bothWays() {
					p := api.Packet{Proto: uint8(proto), Flags: flags, Kind: uint8(kind)}
					if next, ok := Next(isAnswered, reply, p); ok && next != isAnswered {
						t.Fatalf("Next(Answered, %v, %+v) = %d", reply, p, next)
					}
				}
			}
		}
	}
}

// P17.2: addresses and ports change nothing, also in packets that are not valid.
func TestNextPlaces(t *testing.T) {
	invalid := 0
	for _, state := range []int{-1, 0, 1, 2, 3, 4, 5, 6, 7, 8, 9, 10, 15, 16} {
		for _, proto := range []uint8{0, isICMP, 2, isTCP, isUDP, 47, 255} {
			for _, flags := range []uint8{0, synFlag, ackFlag, synFlag | ackFlag, finFlag | ackFlag, rstFlag, 255} {
				for _, kind := range []uint8{isReply, isEcho, 255} {
					bare := api.Packet{Proto: proto, Flags: flags, Kind: kind}
					for _, reply := range bothWays() {
						want := slowNext(state, reply, bare)
						for _, p := range places(bare) {
							wantNext(t, state, reply, p, want)
							if want.ok && !pack.Good(p) {
								invalid++
							}
						}
					}
				}
			}
		}
	}
	if invalid < 1000 {
		t.Errorf("only %d packets that are not valid lead on", invalid)
	}
}

// P17.2: what Turn returns of a packet that opened a flow of UDP or ICMP is its reply.
func TestNextTurned(t *testing.T) {
	for _, bare := range []api.Packet{{Proto: isUDP}, {Proto: isICMP, Kind: isEcho}} {
		for _, p := range places(bare) {
			back := key.Turn(p)
			wantOpen(t, p, result{isAsked, true})
			wantNext(t, isAsked, true, back, result{isAnswered, true})
			wantNext(t, isAnswered, true, back, result{isAnswered, true})
			wantNext(t, isAnswered, false, key.Turn(back), result{isAnswered, true})
		}
	}
}

// P17.1, P17.2: packets as they are parsed.
func TestParsedPackets(t *testing.T) {
	for _, c := range []struct {
		p    api.Packet
		open result
		next result
	}{
		{api.Packet{Proto: isUDP, Src: 1, Dst: 2, SPort: 1025, DPort: 53}, result{8, true}, result{9, true}},
		{api.Packet{Proto: isICMP, Src: 1, Dst: 2, SPort: 7, DPort: 7, Kind: isEcho}, result{8, true}, result{}},
		{api.Packet{Proto: isICMP, Src: 2, Dst: 1, SPort: 7, DPort: 7, Kind: isReply}, result{}, result{9, true}},
		{api.Packet{Proto: isTCP, Src: 1, Dst: 2, SPort: 1025, DPort: 80, Flags: synFlag}, result{1, true}, result{}},
		{api.Packet{Proto: isTCP, Src: 2, Dst: 1, SPort: 80, DPort: 1025, Flags: synFlag | ackFlag}, result{}, result{}},
	} {
		b, e := pack.Build(c.p, []byte{1, 2, 3})
		if e != api.OK {
			t.Fatalf("%+v: %d", c.p, e)
		}
		p, e := wire.Parse(b)
		if e != api.OK {
			t.Fatalf("%+v: %d", c.p, e)
		}
		wantOpen(t, p, c.open)
		wantNext(t, isAsked, true, p, c.next)
	}
}

// P17.2: the document's example.
func TestExample(t *testing.T) {
	echo := api.Packet{Proto: isICMP, Src: 1, Dst: 2, SPort: 5, DPort: 5, Kind: isEcho}
	back := api.Packet{Proto: isICMP, Src: 2, Dst: 1, SPort: 5, DPort: 5, Kind: isReply}
	state, ok := Open(echo)
	if state != api.Asked || !ok {
		t.Fatalf("%d, %v", state, ok)
	}
	state, ok = Next(state, true, back)
	if state != api.Answered || !ok {
		t.Fatalf("%d, %v", state, ok)
	}
	state, ok = Next(state, false, echo)
	if state != api.Answered || !ok {
		t.Fatalf("%d, %v", state, ok)
	}
}

// P17.2: sequences of datagrams or messages: the state tells whether one was replied, whatever else came.
func TestSequences(t *testing.T) {
	r := rand.New(rand.NewSource(17))
	answered := 0
	for range 3000 {
		p := api.Packet{Proto: isUDP}
		if r.Intn(2) == 0 {
			p = api.Packet{Proto: isICMP, Kind: isEcho}
		}
		state, ok := Open(p)
		if state != isAsked || !ok {
			t.Fatalf("Open(%+v) = %d, %v", p, state, ok)
		}
		replied := false
		for range r.Intn(12) {
			reply := r.Intn(3) == 0
			if p.Proto == isICMP {
				p.Kind = []uint8{isEcho, isReply, uint8(r.Intn(256))}[r.Intn(3)]
			}
			next, ok := Next(state, reply, p)
			if valid := p.Proto == isUDP || reply && p.Kind == isReply || !reply && p.Kind == isEcho; ok != valid {
				t.Fatalf("Next(%d, %v, %+v) = %d, %v", state, reply, p, next, ok)
			}
			if !ok {
				continue
			}
			replied = replied || reply
			state = next
			if want := map[bool]int{false: isAsked, true: isAnswered}[replied]; state != want {
				t.Fatalf("state %d by %v, %+v, want %d", state, reply, p, want)
			}
		}
		if replied {
			answered++
		}
	}
	if answered < 500 || answered > 2900 {
		t.Errorf("%d of 3000 are answered: the arbitrary ones tell little", answered)
	}
}

// own returns timeouts that are different for all states.
func own() [16]int {
	var times [16]int
	for i := range times {
		times[i] = 1000 + 7*i*i
	}
	return times
}

// outOfRange returns numbers that are no states of a list of timeouts.
func outOfRange() []int {
	list := []int{-1, 16, -2, 17, -16, 31, 32, 255, 256, -256}
	for _, n := range edges() {
		if n < 0 || n > 15 {
			list = append(list, n)
		}
	}
	return list
}

// someTimeouts returns timeouts at the limits, and far outside.
func someTimeouts() []int {
	return []int{
		math.MinInt, math.MinInt + 1, math.MinInt + topTime, -1 << 62, -topClock - 1, -topClock, math.MinInt32, -topTime, -2, -1,
		0, 1, 2, 3, 30, topTime / 2, topTime - 2, topTime - 1, topTime, topTime + 1, topTime + 2, 2 * topTime,
		math.MaxInt32, math.MaxUint32, 1 << 32, topClock, topClock + 1, 1 << 62, math.MaxInt - topClock, math.MaxInt - topTime, math.MaxInt - 1, math.MaxInt,
	}
}

// someClocks returns clocks at the limits, and far outside.
func someClocks() []int {
	return []int{
		math.MinInt, math.MinInt + 1, math.MinInt + topTime, -1 << 62, -topClock, math.MinInt32, -topTime, -2, -1,
		0, 1, 2, 100, topTime - 1, topTime, topTime + 1, math.MaxInt32, math.MaxUint32, 1 << 32,
		topClock - topTime - 1, topClock - topTime, topClock - topTime + 1, topClock - 2, topClock - 1, topClock, topClock + 1, topClock + 2,
		1 << 41, 1 << 62, math.MaxInt - topClock, math.MaxInt - topTime, math.MaxInt - 1, math.MaxInt,
	}
}

// P17.3: each state has a timeout of its own.
func TestUntilStates(t *testing.T) {
	want := [16]int{1000, 1007, 1028, 1063, 1112, 1175, 1252, 1343, 1448, 1567, 1700, 1847, 2008, 2183, 2372, 2575}
	for state := range 16 {
		wantUntil(t, own(), state, 0, want[state])
		wantUntil(t, own(), state, 50, 50+want[state])
		var only [16]int
		only[state] = 40
		for other := range 16 {
			if other == state {
				wantUntil(t, only, other, 2, 42)
			} else {
				wantUntil(t, only, other, 2, 3)
			}
		}
	}
}

// P17.3: a state that is not from 0 to 15 has a timeout of 0, which counts as 1; nothing is read out of the list's range.
func TestUntilOutOfRange(t *testing.T) {
	for _, state := range outOfRange() {
		wantUntil(t, own(), state, 0, 1)
		wantUntil(t, own(), state, 5, 6)
		wantUntil(t, own(), state, -5, 1)
		wantUntil(t, own(), state, topClock-1, topClock)
		wantUntil(t, own(), state, topClock, topClock)
		wantUntil(t, own(), state, math.MaxInt, topClock)
		wantUntil(t, own(), state, math.MinInt, 1)
	}
}

// P17.3: timeouts are clamped to 1 to 2^20.
func TestUntilTimeouts(t *testing.T) {
	for _, c := range [][2]int{
		{math.MinInt, 1}, {-topTime, 1}, {-2, 1}, {-1, 1}, {0, 1}, {1, 1}, {2, 2}, {30, 30},
		{topTime - 1, topTime - 1}, {topTime, topTime}, {topTime + 1, topTime}, {2 * topTime, topTime}, {topClock, topTime}, {math.MaxInt, topTime},
	} {
		for state := range 16 {
			times := own()
			times[state] = c[0]
			wantUntil(t, times, state, 0, c[1])
			wantUntil(t, times, state, 1000, 1000+c[1])
			wantUntil(t, times, state, topClock, topClock)
		}
	}
}

// P17.3: clocks are clamped to 0 to 2^40 - 1, and so is the sum.
func TestUntilClocks(t *testing.T) {
	times := [16]int{1: 1, 2: 30, 3: topTime, 4: math.MaxInt}
	for _, c := range []struct{ clock, one, thirty, most int }{
		{math.MinInt, 1, 30, 1048576},
		{-topClock, 1, 30, 1048576},
		{-1, 1, 30, 1048576},
		{0, 1, 30, 1048576},
		{1, 2, 31, 1048577},
		{1099510579198, 1099510579199, 1099510579228, 1099511627774},
		{1099510579199, 1099510579200, 1099510579229, 1099511627775},
		{1099510579200, 1099510579201, 1099510579230, 1099511627775},
		{1099511627744, 1099511627745, 1099511627774, 1099511627775},
		{1099511627745, 1099511627746, 1099511627775, 1099511627775},
		{1099511627746, 1099511627747, 1099511627775, 1099511627775},
		{1099511627774, 1099511627775, 1099511627775, 1099511627775},
		{1099511627775, 1099511627775, 1099511627775, 1099511627775},
		{1099511627776, 1099511627775, 1099511627775, 1099511627775},
		{1 << 62, 1099511627775, 1099511627775, 1099511627775},
		{math.MaxInt, 1099511627775, 1099511627775, 1099511627775},
	} {
		wantUntil(t, times, 1, c.clock, c.one)
		wantUntil(t, times, 2, c.clock, c.thirty)
		wantUntil(t, times, 3, c.clock, c.most)
		wantUntil(t, times, 4, c.clock, c.most)
	}
}

// P17.3: timeouts, clocks and states with each other, against the sum of unbounded integers.
func TestUntilTogether(t *testing.T) {
	states := []int{0, 1, 7, 8, 9, 15, -1, 16, math.MinInt, math.MaxInt}
	for _, timeout := range someTimeouts() {
		for _, clock := range someClocks() {
			for _, state := range states {
				times := own()
				if state >= 0 && state < 16 {
					times[state] = timeout
				}
				wantUntil(t, times, state, clock, slowUntil(times, state, clock))
			}
		}
	}
}

// arbitraryInt returns numbers of all sizes, of both signs.
func arbitraryInt(r *rand.Rand) int {
	return int(r.Uint64()) >> r.Intn(64)
}

// P17.3: arbitrary timeouts, clocks and states, against the sum of unbounded integers.
func TestUntilArbitrary(t *testing.T) {
	r := rand.New(rand.NewSource(173))
	timeouts, clocks := someTimeouts(), someClocks()
	for range 40000 {
		var times [16]int
		for i := range times {
			times[i] = arbitraryInt(r)
			if r.Intn(2) == 0 {
				times[i] = timeouts[r.Intn(len(timeouts))]
			}
		}
		state, clock := r.Intn(20)-2, arbitraryInt(r)
		if r.Intn(8) == 0 {
			state = arbitraryInt(r)
		}
		if r.Intn(2) == 0 {
			clock = clocks[r.Intn(len(clocks))] + r.Intn(2)
		}
		wantUntil(t, times, state, clock, slowUntil(times, state, clock))
	}
}

// P17.3: the time is always later than the clock, unless the clock is at its end, and never more than MaxTime later.
func TestUntilLater(t *testing.T) {
	for _, timeout := range someTimeouts() {
		for _, clock := range someClocks() {
			until := Until([16]int{3: timeout}, 3, clock)
			if until < 1 || until > topClock {
				t.Errorf("timeout %d, clock %d: %d", timeout, clock, until)
			}
			if clock < 0 || clock > topClock {
				continue
			}
			if later := until - clock; later > topTime || later < 0 || later == 0 && clock < topClock {
				t.Errorf("timeout %d, clock %d: %d", timeout, clock, until)
			}
		}
	}
}

// R4: the list of timeouts, where it belongs to a config, is not changed.
func TestUntilList(t *testing.T) {
	c := api.Config{Stripes: 1, Cap: 2, Times: own()}
	before := c
	for _, state := range someStates() {
		for _, clock := range someClocks() {
			Until(c.Times, state, clock)
		}
	}
	if c != before {
		t.Errorf("%v, and before %v", c, before)
	}
}

// call is one of each function.
type call struct {
	state int
	reply bool
	p     api.Packet
	times [16]int
	clock int
}

// answers is what they return.
type answers struct {
	open, next result
	until      int
}

// ask makes the calls.
func (c call) ask() (a answers) {
	a.open.state, a.open.ok = Open(c.p)
	a.next.state, a.next.ok = Next(c.state, c.reply, c.p)
	a.until = Until(c.times, c.state, c.clock)
	return a
}

// R5: nothing is kept: the same calls in another order, with others between them, give the same answers.
func TestNothingKept(t *testing.T) {
	var calls []call
	before := map[call]answers{}
	for state := -2; state <= 17; state++ {
		for _, reply := range bothWays() {
			for _, proto := range []uint8{0, isICMP, 2, isTCP, isUDP, 255} {
				for _, b := range someBytes() {
					for i, clock := range []int{-1, 5, topClock} {
						times := own()
						times[i] = math.MaxInt
						c := call{state, reply, api.Packet{Proto: proto, Flags: b, Kind: b}, times, clock}
						calls = append(calls, c)
						before[c] = c.ask()
					}
				}
			}
		}
	}
	r := rand.New(rand.NewSource(174))
	for range 5 {
		r.Shuffle(len(calls), func(i, j int) { calls[i], calls[j] = calls[j], calls[i] })
		for _, c := range calls {
			if got := c.ask(); got != before[c] {
				t.Fatalf("%v: %v, and before %v", c, got, before[c])
			}
		}
	}
}

// P17.1, P17.2: arbitrary packets in arbitrary states, against the document's words.
func TestArbitrary(t *testing.T) {
	r := rand.New(rand.NewSource(175))
	protos := []uint8{isICMP, isTCP, isUDP}
	bytes := someBytes()
	opened, valid := 0, 0
	for range 200000 {
		p := api.Packet{
			Proto: uint8(r.Intn(256)), Src: r.Uint32(), Dst: r.Uint32(), SPort: uint16(r.Intn(1 << 16)), DPort: uint16(r.Intn(1 << 16)),
			Flags: uint8(r.Intn(256)), Kind: bytes[r.Intn(len(bytes))],
		}
		if r.Intn(4) > 0 {
			p.Proto = protos[r.Intn(len(protos))]
		}
		state, reply := r.Intn(20)-2, r.Intn(2) == 0
		if r.Intn(4) == 0 {
			state = arbitraryInt(r)
		}
		open, next := slowOpen(p), slowNext(state, reply, p)
		wantOpen(t, p, open)
		wantNext(t, state, reply, p, next)
		if open.ok {
			opened++
		}
		if next.ok {
			valid++
		}
	}
	if opened < 10000 || valid < 2000 {
		t.Errorf("%d open and %d are valid: the arbitrary ones tell little", opened, valid)
	}
}
