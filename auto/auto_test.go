package auto

import (
	"math"
	"slices"
	"testing"

	"mantlet/api"
)

// The protocols and kinds of echo messages, written out.
const (
	isICMP  = 1
	isTCP   = 6
	isUDP   = 17
	isEcho  = 8
	isReply = 0
)

// The flags of the segments that the tests send, written out.
const (
	opening = 2      // Syn
	answer  = 2 + 16 // Syn, Ack
	plain   = 16     // Ack
	ending  = 1 + 16 // Fin, Ack
	reset   = 4      // Rst
)

// The verdicts, written out.
const (
	accepted = 1
	denied   = 3
	invalid  = 4
	isFull   = 5
)

// The greatest numbers, written out.
const (
	topClock   = 1099511627775
	topSeq     = 1048575
	topTime    = 1048576
	topVersion = 4095
	topCap     = 4095
)

// end is an endpoint.
type end struct {
	addr uint32
	port uint16
}

// The endpoints that most tests use, in their order.
var (
	low    = end{5, 1025}
	middle = end{7, 7}
	high   = end{9, 80}
)

// send returns a packet without flags and kind.
func send(proto uint8, from, to end) api.Packet {
	return api.Packet{Proto: proto, Src: from.addr, Dst: to.addr, SPort: from.port, DPort: to.port}
}

// udp returns a datagram.
func udp(from, to end) api.Packet {
	return send(isUDP, from, to)
}

// tcp returns a segment.
func tcp(from, to end, flags uint8) api.Packet {
	p := send(isTCP, from, to)
	p.Flags = flags
	return p
}

// ping returns an echo message.
func ping(from, to end, kind uint8) api.Packet {
	p := send(isICMP, from, to)
	p.Kind = kind
	return p
}

// keyOf returns the key of two endpoints, of which a is not the higher one.
func keyOf(proto uint8, a, b end) api.Key {
	return api.Key{Addr: [2]uint32{a.addr, b.addr}, Port: [2]uint16{a.port, b.port}, Proto: proto}
}

// every returns a rule that matches each packet.
func every(accept bool) api.Rule {
	return api.Rule{Accept: accept, SPort: api.Span{High: 65535}, DPort: api.Span{High: 65535}}
}

// only returns a rule that matches each packet of a protocol.
func only(accept bool, proto uint8) api.Rule {
	r := every(accept)
	r.Proto = proto
	return r
}

// open returns rules that accept everything, and shut those that accept nothing.
func open() []api.Rule { return []api.Rule{every(true)} }
func shut() []api.Rule { return []api.Rule{every(false)} }

// own returns timeouts that are different for all states.
func own() [16]int {
	var times [16]int
	for i := range times {
		times[i] = 100 + 7*i*i
	}
	return times
}

// build returns a firewall with so many flows at most, whose timeouts are own's.
func build(t *testing.T, most int, list []api.Rule) *Auto {
	t.Helper()
	a, e := New(api.Config{Stripes: 4, Cap: most, Times: own()}, list)
	if a == nil || e != api.OK {
		t.Fatalf("New: %v, %d", a, e)
	}
	return a
}

// wantAct fails the test unless the verdicts on the packets are this one.
func wantAct(t *testing.T, a *Auto, verdict int, list ...api.Packet) {
	t.Helper()
	for i, p := range list {
		if got := a.Act(p); got != verdict {
			t.Fatalf("Act(%+v) = %d, want %d (packet %d)", p, got, verdict, i)
		}
	}
}

// wantGate fails the test unless the gate is this one.
func wantGate(t *testing.T, a *Auto, version, count, clock int) {
	t.Helper()
	if got, want := a.Gate(), (api.Gate{Version: version, Count: count, Clock: clock}); got != want {
		t.Fatalf("gate %+v, want %+v", got, want)
	}
}

// wantFlow fails the test unless the flow with this key is this one.
func wantFlow(t *testing.T, a *Auto, k api.Key, state, seq, until int) {
	t.Helper()
	want := api.Flow{State: state, Seq: seq, Until: until}
	if got, ok := a.Look(k); got != want || !ok {
		t.Fatalf("flow %+v, %v, want %+v", got, ok, want)
	}
}

// wantKeys fails the test unless these are all flows, in this order.
func wantKeys(t *testing.T, a *Auto, want ...api.Key) {
	t.Helper()
	if got := a.Keys(); !slices.Equal(got, want) {
		t.Fatalf("keys %v, want %v", got, want)
	}
	if got := a.Gate().Count; got != len(want) {
		t.Fatalf("%d flows in the gate, want %d", got, len(want))
	}
}

// wantNone fails the test if there is a flow with this key.
func wantNone(t *testing.T, a *Auto, k api.Key) {
	t.Helper()
	if got, ok := a.Look(k); got != (api.Flow{}) || ok {
		t.Fatalf("flow %+v, %v, want none", got, ok)
	}
	if slices.Contains(a.Keys(), k) {
		t.Fatalf("the keys contain %v", k)
	}
}

// shot is everything that can be asked of a firewall.
type shot struct {
	gate  api.Gate
	keys  []api.Key
	flows []api.Flow
	stats [8]uint64
}

// take asks for everything.
func take(a *Auto) shot {
	s := shot{gate: a.Gate(), keys: a.Keys()}
	for _, k := range s.keys {
		f, _ := a.Look(k)
		s.flows = append(s.flows, f)
	}
	for i := range s.stats {
		s.stats[i] = a.Stat(i)
	}
	return s
}

// equal reports whether nothing differs.
func (s shot) equal(o shot) bool {
	return s.gate == o.gate && slices.Equal(s.keys, o.keys) && slices.Equal(s.flows, o.flows) && s.stats == o.stats
}

// wantShot fails the test unless the firewall is as it was.
func wantShot(t *testing.T, a *Auto, before shot) {
	t.Helper()
	if got := take(a); !got.equal(before) {
		t.Fatalf("%+v, and before %+v", got, before)
	}
}

// edges returns the edges of int, and numbers whose lowest bits are those of small ones.
func edges() []int {
	list := []int{math.MinInt, math.MinInt + 1, math.MinInt32, math.MaxInt32, math.MaxUint32, math.MaxInt - 1, math.MaxInt}
	for _, i := range []int{8, 13, 16, 31, 32, 40, 62} {
		list = append(list, 1<<i, 1<<i+1, 1<<i+4, -1<<i, 1-1<<i, 4-1<<i)
	}
	return list
}

// limits returns the numbers at which a config becomes valid or not, and the edges.
func limits() []int {
	return append(edges(), -4096, -4, -2, -1, 0, 1, 2, 3, 4, 5, 4094, 4095, 4096, 4097, 8192)
}

// wrong returns rules that are not valid, each for another reason.
func wrong() []api.Rule {
	list := make([]api.Rule, 9)
	for i := range list {
		list[i] = every(true)
	}
	list[0].Proto = 2
	list[1].Proto = 255
	list[2].Src = api.Net{Bits: 33}
	list[3].Src = api.Net{Addr: 1, Bits: 31}
	list[4].Dst = api.Net{Bits: -1}
	list[5].Dst = api.Net{Addr: 1}
	list[6].SPort = api.Span{Low: 2, High: 1}
	list[7].DPort = api.Span{Low: 65535, High: 65534}
	list[8].Accept, list[8].Proto = false, 7
	return list
}

// repeat returns so many equal rules.
func repeat(r api.Rule, n int) []api.Rule {
	return slices.Repeat([]api.Rule{r}, n)
}

// goodLists returns lists of rules that may be used.
func goodLists() [][]api.Rule {
	return [][]api.Rule{
		nil, {}, {{}}, open(), shut(), {every(false), every(true)},
		{only(true, isTCP), only(false, isUDP), only(true, isICMP)},
		repeat(every(true), 63), repeat(every(true), 64), repeat(only(false, isUDP), 64),
	}
}

// badList is a list of rules that may not be used.
type badList struct {
	list []api.Rule
	e    api.Errno
}

// badLists returns lists with one wrong rule at each of several places, and lists that are too long.
func badLists() []badList {
	var lists []badList
	for _, r := range wrong() {
		lists = append(lists, badList{[]api.Rule{r}, api.ErrArg})
		for _, n := range []int{2, 63, 64} {
			for _, i := range []int{0, n / 2, n - 1} {
				list := repeat(every(true), n)
				list[i] = r
				lists = append(lists, badList{list, api.ErrArg})
			}
		}
		lists = append(lists, badList{repeat(r, 64), api.ErrArg})
		for _, n := range []int{65, 66, 128, 1000} {
			lists = append(lists, badList{repeat(r, n), api.ErrMany})
			list := repeat(every(true), n)
			list[0], list[n-1] = r, r
			lists = append(lists, badList{list, api.ErrMany})
		}
	}
	for _, n := range []int{65, 66, 128, 320, 4096, 65536, 65537} {
		lists = append(lists, badList{repeat(every(true), n), api.ErrMany}, badList{make([]api.Rule, n), api.ErrMany})
	}
	return lists
}

// wantCheck fails the test unless Check and New return this error, and New a firewall only without one.
func wantCheck(t *testing.T, c api.Config, list []api.Rule, want api.Errno) {
	t.Helper()
	if e := Check(c, list); e != want {
		t.Fatalf("Check(%+v, %d rules) = %d, want %d", c, len(list), e, want)
	}
	a, e := New(c, list)
	if e != want || (a == nil) != (want != api.OK) {
		t.Fatalf("New(%+v, %d rules) = %v, %d, want %d", c, len(list), a, e, want)
	}
}

// P18.1: each Stripes from -1 to 8193, and the edges: the powers of two from 1 to 4096 are written out.
func TestCheckStripes(t *testing.T) {
	powers := []int{1, 2, 4, 8, 16, 32, 64, 128, 256, 512, 1024, 2048, 4096}
	list := limits()
	for n := -1; n <= 8193; n++ {
		list = append(list, n)
	}
	for i := range 63 {
		list = append(list, 1<<i, 1<<i-1, -1<<i)
	}
	for _, n := range list {
		want := api.ErrArg
		if slices.Contains(powers, n) {
			want = api.OK
		}
		wantCheck(t, api.Config{Stripes: n, Cap: 1}, nil, want)
		wantCheck(t, api.Config{Stripes: n, Cap: 4095}, open(), want)
	}
}

// P18.1: each Cap from -1 to 4097, and the edges.
func TestCheckCap(t *testing.T) {
	list := limits()
	for n := -1; n <= 4097; n++ {
		list = append(list, n)
	}
	for _, n := range list {
		want := api.ErrArg
		if n > 0 && n < 4096 {
			want = api.OK
		}
		wantCheck(t, api.Config{Stripes: 1, Cap: n}, nil, want)
		wantCheck(t, api.Config{Stripes: 4096, Cap: n}, open(), want)
	}
}

// P18.1: the limits of Stripes and Cap with each other, and with rules of all kinds, against the document's words.
func TestCheckTogether(t *testing.T) {
	var lists [][]api.Rule
	lists = append(lists, goodLists()...)
	for _, b := range badLists() {
		if len(b.list) < 70 {
			lists = append(lists, b.list)
		}
	}
	for _, stripes := range limits() {
		for _, most := range limits() {
			c := api.Config{Stripes: stripes, Cap: most}
			wantCheck(t, c, nil, slowCheck(c, nil))
			wantCheck(t, c, open(), slowCheck(c, open()))
			wantCheck(t, c, wrong(), slowCheck(c, wrong()))
			wantCheck(t, c, repeat(every(true), 65), slowCheck(c, repeat(every(true), 65)))
		}
	}
	for _, stripes := range []int{0, 1, 3, 4096, 8192} {
		for _, most := range []int{0, 1, 4095, 4096} {
			for _, list := range lists {
				c := api.Config{Stripes: stripes, Cap: most}
				wantCheck(t, c, list, slowCheck(c, list))
			}
		}
	}
}

// P18.1: rules that may be used, and such as may not.
func TestCheckRules(t *testing.T) {
	c := api.Config{Stripes: 2, Cap: 3}
	for _, list := range goodLists() {
		wantCheck(t, c, list, api.OK)
	}
	for _, b := range badLists() {
		wantCheck(t, c, b.list, b.e)
	}
}

// P18.1, R2: which error comes first, written out.
func TestCheckOrder(t *testing.T) {
	bad := wrong()[0]
	mixed := repeat(every(true), 65)
	mixed[64] = bad
	for i, x := range []struct {
		stripes, most int
		list          []api.Rule
		want          api.Errno
	}{
		{3, 1, repeat(every(true), 65), api.ErrArg},
		{1, 0, repeat(every(true), 65), api.ErrArg},
		{0, 4096, repeat(bad, 65), api.ErrArg},
		{1, 1, repeat(bad, 65), api.ErrMany},
		{1, 1, mixed, api.ErrMany},
		{1, 1, mixed[1:], api.ErrArg},
		{1, 1, mixed[:64], api.OK},
		{8192, 1, nil, api.ErrArg},
	} {
		if e := Check(api.Config{Stripes: x.stripes, Cap: x.most}, x.list); e != x.want {
			t.Errorf("%d: %d, want %d", i, e, x.want)
		}
		wantCheck(t, api.Config{Stripes: x.stripes, Cap: x.most}, x.list, x.want)
	}
}

// P18.1: timeouts of all sizes are valid.
func TestCheckTimes(t *testing.T) {
	for _, n := range limits() {
		c := api.Config{Stripes: 1, Cap: 1}
		for i := range c.Times {
			c.Times[i] = n
		}
		wantCheck(t, c, open(), api.OK)
	}
}

// P18.1: how a firewall begins.
func TestNew(t *testing.T) {
	for _, list := range goodLists() {
		a := build(t, 3, list)
		wantGate(t, a, 0, 0, 0)
		wantKeys(t, a)
		for v := -1; v <= 7; v++ {
			if n := a.Stat(v); n != 0 {
				t.Errorf("Stat(%d) = %d", v, n)
			}
		}
		wantNone(t, a, api.Key{})
	}
}

// P18.1: the rules of version 0 are those of New.
func TestNewRules(t *testing.T) {
	for _, x := range []struct {
		list           []api.Rule
		tcp, udp, ping int
	}{
		{nil, denied, denied, denied},
		{open(), accepted, accepted, accepted},
		{shut(), denied, denied, denied},
		{[]api.Rule{{}}, denied, denied, denied},
		{[]api.Rule{every(false), every(true)}, denied, denied, denied},
		{[]api.Rule{only(false, isUDP), every(true)}, accepted, denied, accepted},
		{[]api.Rule{only(true, isICMP), every(false)}, denied, denied, accepted},
		{[]api.Rule{only(true, isTCP)}, accepted, denied, denied},
		{append(repeat(only(false, isTCP), 63), every(true)), denied, accepted, accepted},
	} {
		a := build(t, 3, x.list)
		wantAct(t, a, x.tcp, tcp(low, high, opening))
		wantAct(t, a, x.udp, udp(low, high))
		wantAct(t, a, x.ping, ping(low, high, isEcho))
	}
}

// P18.1: the version increases with each Swap, up to 4095; then nothing changes any more, and the other errors come first.
func TestSwapVersions(t *testing.T) {
	a := build(t, 3, open())
	wantAct(t, a, accepted, udp(low, high))
	for i := 1; i <= topVersion; i++ {
		// The last version accepts TCP only.
		list := shut()
		if i%2 == 1 {
			list = []api.Rule{only(true, isTCP)}
		}
		if n, e := a.Swap(list); n != i || e != api.OK {
			t.Fatalf("Swap %d: %d, %d", i, n, e)
		}
		wantGate(t, a, i, 1, 0)
	}
	a.Tick(2)
	before := take(a)
	for _, x := range []struct {
		list []api.Rule
		want api.Errno
	}{
		{nil, api.ErrOver}, {open(), api.ErrOver}, {repeat(every(true), 64), api.ErrOver},
		{wrong(), api.ErrArg}, {repeat(every(true), 65), api.ErrMany}, {repeat(wrong()[0], 65), api.ErrMany},
	} {
		for range 2 {
			if n, e := a.Swap(x.list); n != 0 || e != x.want {
				t.Fatalf("Swap of %d rules: %d, %d, want %d", len(x.list), n, e, x.want)
			}
			wantShot(t, a, before)
		}
	}
	wantAct(t, a, denied, udp(low, middle))
	wantAct(t, a, accepted, tcp(low, middle, opening), udp(high, low))
	wantGate(t, a, topVersion, 2, 2)
}

// P18.1: a Swap that is refused changes nothing: version, rules, flows.
func TestSwapRefused(t *testing.T) {
	for i, b := range badLists() {
		a := build(t, 9, shut())
		if n, e := a.Swap([]api.Rule{only(true, isUDP)}); n != 1 || e != api.OK {
			t.Fatal(n, e)
		}
		wantAct(t, a, accepted, udp(low, high))
		a.Tick(3)
		a.Count(2)
		before := take(a)
		if n, e := a.Swap(b.list); n != 0 || e != b.e {
			t.Fatalf("list %d: %d, %d, want %d", i, n, e, b.e)
		}
		wantShot(t, a, before)
		wantAct(t, a, denied, tcp(low, high, opening))
		wantAct(t, a, accepted, udp(low, middle), udp(high, low))
		wantFlow(t, a, keyOf(isUDP, low, high), 9, 2, 3+own()[9])
		if n, e := a.Swap(nil); n != 2 || e != api.OK {
			t.Fatal(n, e)
		}
	}
}

// P18.1: each good list replaces the rules, and changes no flow, clock or counter.
func TestSwapRules(t *testing.T) {
	a := build(t, 9, open())
	wantAct(t, a, accepted, udp(low, high), tcp(high, middle, opening))
	a.Tick(4)
	a.Count(5)
	before := take(a)
	for i, list := range goodLists() {
		if n, e := a.Swap(list); n != i+1 || e != api.OK {
			t.Fatalf("list %d: %d, %d", i, n, e)
		}
		before.gate.Version = i + 1
		wantShot(t, a, before)
	}
	for _, x := range []struct {
		list     []api.Rule
		tcp, udp int
	}{
		{shut(), denied, denied},
		{[]api.Rule{only(true, isUDP)}, denied, accepted},
		{[]api.Rule{only(true, isTCP)}, accepted, denied},
		{nil, denied, denied},
		{open(), accepted, accepted},
		{[]api.Rule{only(false, isUDP), only(true, isUDP), only(true, isTCP)}, accepted, denied},
	} {
		if _, e := a.Swap(x.list); e != api.OK {
			t.Fatal(e)
		}
		wantAct(t, a, x.tcp, tcp(low, middle, opening))
		wantAct(t, a, x.udp, udp(low, middle))
		a.Drop(keyOf(isTCP, low, middle))
		a.Drop(keyOf(isUDP, low, middle))
	}
}

// R4: a list of rules that was passed in may be changed afterwards.
func TestListChangedAfterwards(t *testing.T) {
	list := []api.Rule{only(false, isTCP), only(true, isUDP)}
	a := build(t, 9, list)
	list[0], list[1] = every(true), wrong()[0]
	wantAct(t, a, denied, tcp(low, high, opening), ping(low, high, isEcho))
	wantAct(t, a, accepted, udp(low, high))

	list = []api.Rule{only(true, isTCP), only(false, isUDP)}
	if _, e := a.Swap(list); e != api.OK {
		t.Fatal(e)
	}
	list[0], list[1] = every(false), every(true)
	wantAct(t, a, accepted, tcp(low, high, opening))
	wantAct(t, a, denied, udp(low, middle), ping(low, high, isEcho))
}

// R4: a list of rules is not changed, and neither is what is behind it.
func TestListNotChanged(t *testing.T) {
	full := slices.Concat([]api.Rule{only(false, isTCP), every(true)}, wrong(), repeat(every(false), 60))
	before := slices.Clone(full)
	for _, n := range []int{0, 1, 2, 3, 11, 64, 65, 71} {
		list := full[:n]
		Check(api.Config{Stripes: 1, Cap: 1}, list)
		a, _ := New(api.Config{Stripes: 1, Cap: 1}, list)
		a.Swap(list)
		a.Act(udp(low, high))
		a.Act(tcp(low, high, opening))
		a.Swap(nil)
		a.Swap(open())
		if !slices.Equal(full, before) {
			t.Fatalf("%d rules were changed", n)
		}
	}
}

// R4: a list that two firewalls were made of stays each one's own.
func TestListShared(t *testing.T) {
	list := open()
	a, b := build(t, 2, list), build(t, 2, list)
	list[0].Accept = false
	c := build(t, 2, list)
	wantAct(t, a, accepted, udp(low, high))
	wantAct(t, b, accepted, udp(low, high))
	wantAct(t, c, denied, udp(low, high))
}
