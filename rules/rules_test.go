package rules

import (
	"fmt"
	"math"
	"math/big"
	"math/rand"
	"reflect"
	"regexp"
	"strings"
	"testing"

	"mantlet/api"
)

// all is the port range of all ports.
var all = api.Span{Low: 0, High: 65535}

// pair is a valid rule and its line.
type pair struct {
	rule api.Rule
	line string
}

// same reports whether two lists have the same rules; nil and empty ones are equal.
func same(a, b []api.Rule) bool {
	return len(a) == 0 && len(b) == 0 || reflect.DeepEqual(a, b)
}

// wantRules fails the test unless s compiles to these rules.
func wantRules(t *testing.T, s string, want ...api.Rule) {
	t.Helper()
	list, line, e := Compile(s)
	if !same(list, want) || line != 0 || e != api.OK {
		t.Errorf("Compile(%.200q) = %v, %d, %d, want %v", s, list, line, e, want)
	}
}

// wantError fails the test unless s has this error in this line, and no rules.
func wantError(t *testing.T, s string, n int, want api.Errno) {
	t.Helper()
	list, line, e := Compile(s)
	if len(list) != 0 || line != n || e != want {
		t.Errorf("Compile(%.200q) of %d bytes = %v, %d, %d, want line %d, error %d", s, len(s), list, line, e, n, want)
	}
}

// wantText fails the test unless the rules print to s.
func wantText(t *testing.T, s string, list ...api.Rule) {
	t.Helper()
	if got, e := Print(list); got != s || e != api.OK {
		t.Errorf("Print(%v) = %q, %d, want %q", list, got, e, s)
	}
}

// wantNoText fails the test unless the rules do not print, with this error.
func wantNoText(t *testing.T, want api.Errno, list ...api.Rule) {
	t.Helper()
	if got, e := Print(list); got != "" || e != want {
		t.Errorf("Print(%.300v) = %q, %d, want error %d", list, got, e, want)
	}
}

// wantGood fails the test unless Good says so of r, accepting and dropping.
func wantGood(t *testing.T, r api.Rule, want bool) {
	t.Helper()
	for _, accept := range []bool{false, true} {
		r.Accept = accept
		if Good(r) != want {
			t.Errorf("Good(%v) = %v", r, !want)
		}
		if want {
			wantText(t, slowLine(r)+"\n", r)
		} else {
			wantNoText(t, api.ErrArg, r)
		}
	}
}

// wantPair fails the test unless the rule prints to the line and the line compiles to the rule.
func wantPair(t *testing.T, p pair) {
	t.Helper()
	if !Good(p.rule) {
		t.Errorf("Good(%v) = false", p.rule)
	}
	wantText(t, p.line+"\n", p.rule)
	wantRules(t, p.line, p.rule)
	wantRules(t, p.line+"\n", p.rule)
}

// wantWrong fails the test unless the line is none of a rule, wherever it is.
func wantWrong(t *testing.T, line string) {
	t.Helper()
	const right = "accept udp 10.0.0.0/8 1-2 any 53\n"
	wantError(t, line, 1, api.ErrText)
	wantError(t, line+"\n", 1, api.ErrText)
	wantError(t, right+line, 2, api.ErrText)
	wantError(t, right+line+"\n"+right, 2, api.ErrText)
	wantError(t, "\n#\n"+line+" # a\n"+right+"\n"+line, 3, api.ErrText)
}

// slowGood goes by the document's definitions, bit by bit.
func slowGood(r api.Rule) bool {
	for _, n := range []api.Net{r.Src, r.Dst} {
		if n.Bits < 0 || n.Bits > 32 {
			return false
		}
		for i := n.Bits; i < 32; i++ {
			if n.Addr&(1<<31>>i) != 0 {
				return false
			}
		}
	}
	proto := r.Proto == 0 || r.Proto == 1 || r.Proto == 6 || r.Proto == 17
	return proto && r.SPort.Low <= r.SPort.High && r.DPort.Low <= r.DPort.High
}

// slowNet returns the text of a valid network.
func slowNet(n api.Net) string {
	if n.Bits == 0 {
		return "any"
	}
	return fmt.Sprintf("%d.%d.%d.%d/%d", n.Addr>>24, n.Addr>>16&255, n.Addr>>8&255, n.Addr&255, n.Bits)
}

// slowSpan returns the text of a port range.
func slowSpan(s api.Span) string {
	switch {
	case s == all:
		return "any"
	case s.Low == s.High:
		return fmt.Sprint(s.Low)
	}
	return fmt.Sprintf("%d-%d", s.Low, s.High)
}

// slowLine returns the line of a valid rule.
func slowLine(r api.Rule) string {
	verdict := "drop"
	if r.Accept {
		verdict = "accept"
	}
	proto := [18]string{0: "any", 1: "icmp", 6: "tcp", 17: "udp"}[r.Proto]
	return fmt.Sprintf("%s %s %s %s %s %s", verdict, proto, slowNet(r.Src), slowSpan(r.SPort), slowNet(r.Dst), slowSpan(r.DPort))
}

const (
	numberForm = `(0|[1-9][0-9]*)`
	netForm    = `(any|` + numberForm + `\.` + numberForm + `\.` + numberForm + `\.` + numberForm + `/` + numberForm + `)`
	spanForm   = `(any|` + numberForm + `(?:-` + numberForm + `)?)`
)

// lineForm is the form of a rule's line whose words are parted by single spaces.
var lineForm = regexp.MustCompile(`^(accept|drop) (any|icmp|tcp|udp) ` + netForm + ` ` + spanForm + ` ` + netForm + ` ` + spanForm + `$`)

// limited returns the numbers of texts, or false if one of them is above limit. An empty text is none.
func limited(limit int64, texts ...string) ([]int, bool) {
	var list []int
	for _, s := range texts {
		n, ok := new(big.Int).SetString(s, 10)
		if !ok || n.Cmp(big.NewInt(limit)) > 0 {
			return nil, false
		}
		list = append(list, int(n.Int64()))
	}
	return list, true
}

// slowRule returns the valid rule of a line whose words are parted by single spaces, or false.
func slowRule(line string) (api.Rule, bool) {
	m := lineForm.FindStringSubmatch(line)
	if m == nil {
		return api.Rule{}, false
	}
	r := api.Rule{Accept: m[1] == "accept", Proto: map[string]uint8{"any": 0, "icmp": 1, "tcp": 6, "udp": 17}[m[2]]}
	for _, part := range []struct {
		net  *api.Net
		m    []string
		span *api.Span
	}{{&r.Src, m[3:12], &r.SPort}, {&r.Dst, m[12:21], &r.DPort}} {
		if part.m[0] != "any" {
			v, ok := limited(255, part.m[1:6]...)
			if !ok || v[4] == 0 {
				return api.Rule{}, false
			}
			*part.net = api.Net{Addr: uint32(v[0]<<24 + v[1]<<16 + v[2]<<8 + v[3]), Bits: v[4]}
		}
		*part.span = all
		if part.m[6] != "any" {
			high := part.m[8]
			if high == "" {
				high = part.m[7]
			}
			v, ok := limited(65535, part.m[7], high)
			// An end that is written must be another one than the beginning, and all ports are any.
			if !ok || v[0] > v[1] || part.m[8] != "" && v[0] == v[1] || v[0] == 0 && v[1] == 65535 {
				return api.Rule{}, false
			}
			*part.span = api.Span{Low: uint16(v[0]), High: uint16(v[1])}
		}
	}
	return r, slowGood(r)
}

// slowCompile goes by the document's definitions, line by line.
func slowCompile(s string) ([]api.Rule, int, api.Errno) {
	if len(s) > 4096 {
		return nil, 0, api.ErrOver
	}
	for i, c := range []byte(s) {
		if c != 10 && (c < 32 || c > 126) {
			return nil, strings.Count(s[:i], "\n") + 1, api.ErrText
		}
	}
	var list []api.Rule
	for i, line := range strings.Split(s, "\n") {
		line = regexp.MustCompile(`#.*`).ReplaceAllString(line, "")
		line = strings.Trim(regexp.MustCompile(` +`).ReplaceAllString(line, " "), " ")
		if line == "" {
			continue
		}
		if len(list) == 64 {
			return nil, i + 1, api.ErrMany
		}
		r, ok := slowRule(line)
		if !ok {
			return nil, i + 1, api.ErrText
		}
		list = append(list, r)
	}
	return list, 0, api.OK
}

// wantSame fails the test unless s compiles to the rules, or has the error, that the document says.
func wantSame(t *testing.T, s string) {
	t.Helper()
	list, line, e := Compile(s)
	wantList, wantLine, wantE := slowCompile(s)
	if !same(list, wantList) || line != wantLine || e != wantE {
		t.Errorf("Compile(%.200q) = %v, %d, %d, want %v, %d, %d", s, list, line, e, wantList, wantLine, wantE)
	}
}

// open returns the rule that matches all packets of a protocol.
func open(accept bool, proto uint8) api.Rule {
	return api.Rule{Accept: accept, Proto: proto, SPort: all, DPort: all}
}

// verdictsAndProtocols returns each verdict with each protocol.
func verdictsAndProtocols() []pair {
	return []pair{
		{open(true, 0), "accept any any any any any"},
		{open(true, 1), "accept icmp any any any any"},
		{open(true, 6), "accept tcp any any any any"},
		{open(true, 17), "accept udp any any any any"},
		{open(false, 0), "drop any any any any any"},
		{open(false, 1), "drop icmp any any any any"},
		{open(false, 6), "drop tcp any any any any"},
		{open(false, 17), "drop udp any any any any"},
	}
}

// spans returns port ranges by their texts.
func spans() map[string]api.Span {
	return map[string]api.Span{
		"any":         {Low: 0, High: 65535},
		"0-65534":     {Low: 0, High: 65534},
		"1-65535":     {Low: 1, High: 65535},
		"1-65534":     {Low: 1, High: 65534},
		"0":           {Low: 0, High: 0},
		"1":           {Low: 1, High: 1},
		"7":           {Low: 7, High: 7},
		"10":          {Low: 10, High: 10},
		"80":          {Low: 80, High: 80},
		"255":         {Low: 255, High: 255},
		"256":         {Low: 256, High: 256},
		"32767":       {Low: 32767, High: 32767},
		"32768":       {Low: 32768, High: 32768},
		"65534":       {Low: 65534, High: 65534},
		"65535":       {Low: 65535, High: 65535},
		"0-1":         {Low: 0, High: 1},
		"0-7":         {Low: 0, High: 7},
		"1-2":         {Low: 1, High: 2},
		"7-8":         {Low: 7, High: 8},
		"9-10":        {Low: 9, High: 10},
		"9-12":        {Low: 9, High: 12},
		"80-90":       {Low: 80, High: 90},
		"100-1000":    {Low: 100, High: 1000},
		"255-256":     {Low: 255, High: 256},
		"32767-32768": {Low: 32767, High: 32768},
		"65534-65535": {Low: 65534, High: 65535},
		"1024-65535":  {Low: 1024, High: 65535},
		"0-32768":     {Low: 0, High: 32768},
	}
}

// nets returns networks by their texts.
func nets() map[string]api.Net {
	list := map[string]api.Net{
		"any":                {},
		"128.0.0.0/1":        {Addr: 0x80000000, Bits: 1},
		"10.0.0.0/8":         {Addr: 0x0a000000, Bits: 8},
		"10.0.0.0/9":         {Addr: 0x0a000000, Bits: 9},
		"10.1.0.0/16":        {Addr: 0x0a010000, Bits: 16},
		"192.168.128.0/17":   {Addr: 0xc0a88000, Bits: 17},
		"1.2.3.0/24":         {Addr: 0x01020300, Bits: 24},
		"1.2.3.4/30":         {Addr: 0x01020304, Bits: 30},
		"1.2.3.4/32":         {Addr: 0x01020304, Bits: 32},
		"255.255.255.254/31": {Addr: 0xfffffffe, Bits: 31},
		"255.255.255.255/32": {Addr: 0xffffffff, Bits: 32},
		"0.0.0.1/32":         {Addr: 1, Bits: 32},
	}
	for bits := 1; bits <= 32; bits++ {
		list[fmt.Sprintf("0.0.0.0/%d", bits)] = api.Net{Bits: bits}
		n := api.Net{Addr: math.MaxUint32 << (32 - bits), Bits: bits}
		list[slowNet(n)] = n
	}
	return list
}

// P12.1: of the 256 protocols four are valid.
func TestGoodOfEachProto(t *testing.T) {
	for proto := range 256 {
		r := open(false, uint8(proto))
		valid := proto == 0 || proto == 1 || proto == 6 || proto == 17
		wantGood(t, r, valid)
		r.Src, r.Dst = api.Net{Addr: 0x0a000000, Bits: 8}, api.Net{Addr: 0x01020304, Bits: 32}
		r.SPort, r.DPort = api.Span{Low: 1, High: 2}, api.Span{Low: 3, High: 3}
		wantGood(t, r, valid)
	}
	wantGood(t, api.Rule{}, true)
}

// P12.1: networks of each number of bits, with each address bit alone and those of all networks.
func TestGoodOfNetworks(t *testing.T) {
	sizes := []int{math.MinInt, math.MinInt + 32, -1 << 32, -64, -33, -32, 64, 96, 256, 1 << 32, 1<<32 + 8, math.MaxInt - 1, math.MaxInt}
	for bits := -2; bits <= 35; bits++ {
		sizes = append(sizes, bits)
	}
	for _, bits := range sizes {
		nets := map[api.Net]bool{{Bits: bits}: bits >= 0 && bits <= 32, {Addr: math.MaxUint32, Bits: bits}: bits == 32}
		for i := range 32 {
			inside := bits >= 0 && bits <= 32 && i >= 32-bits
			nets[api.Net{Addr: 1 << i, Bits: bits}] = inside
			nets[api.Net{Addr: math.MaxUint32 << i, Bits: bits}] = inside
		}
		for n, valid := range nets {
			r := open(false, 6)
			r.Src = n
			wantGood(t, r, valid)
			r.Dst = n
			wantGood(t, r, valid)
			r.Src = api.Net{}
			wantGood(t, r, valid)
		}
	}
}

// P12.1: port ranges whose Low is less than, equal to and greater than the High.
func TestGoodOfPortRanges(t *testing.T) {
	ports := []uint16{0, 1, 2, 7, 8, 9, 10, 79, 80, 81, 127, 128, 255, 256, 257, 9999, 10000, 32766, 32767, 32768, 32769, 65280, 65533, 65534, 65535}
	for _, low := range ports {
		for _, high := range ports {
			r := open(false, 17)
			r.SPort = api.Span{Low: low, High: high}
			wantGood(t, r, low <= high)
			r.DPort = r.SPort
			wantGood(t, r, low <= high)
			r.SPort = all
			wantGood(t, r, low <= high)
		}
	}
	for p := range 65535 {
		r := open(true, 6)
		r.DPort = api.Span{Low: uint16(p) + 1, High: uint16(p)}
		if Good(r) {
			t.Errorf("Good(%v)", r)
		}
		r.SPort, r.DPort = r.DPort, all
		if Good(r) {
			t.Errorf("Good(%v)", r)
		}
	}
}

// P12.1: each of the five parts wrong alone, and each set of them.
func TestGoodOfPartsThatAreWrong(t *testing.T) {
	breaks := []func(*api.Rule){
		func(r *api.Rule) { r.Proto = 2 },
		func(r *api.Rule) { r.Src = api.Net{Addr: 0x0a000001, Bits: 31} },
		func(r *api.Rule) { r.Dst = api.Net{Addr: 0, Bits: 33} },
		func(r *api.Rule) { r.SPort = api.Span{Low: 2, High: 1} },
		func(r *api.Rule) { r.DPort = api.Span{Low: 65535, High: 0} },
	}
	for set := range 1 << len(breaks) {
		for _, r := range []api.Rule{{}, open(false, 0), open(false, 6), {Proto: 1, Src: api.Net{Addr: 1, Bits: 32}, SPort: api.Span{Low: 3, High: 3}}} {
			for i, f := range breaks {
				if set>>i&1 == 1 {
					f(&r)
				}
			}
			wantGood(t, r, set == 0)
		}
	}
}

// P12.1: arbitrary rules against the document's definitions.
func TestGoodOfArbitraryRules(t *testing.T) {
	r := rand.New(rand.NewSource(121))
	for range 20000 {
		rule := arbitrary(r)
		if r.Intn(3) == 0 {
			rule.Src.Addr ^= 1 << r.Intn(32)
		}
		if r.Intn(3) == 0 {
			rule.Dst.Bits = r.Intn(40) - 3
		}
		if r.Intn(3) == 0 {
			rule.SPort.Low = uint16(r.Intn(65536))
		}
		if r.Intn(3) == 0 {
			rule.DPort.High = uint16(r.Intn(65536))
		}
		if r.Intn(5) == 0 {
			rule.Proto ^= 1 << r.Intn(8)
		}
		wantGood(t, rule, slowGood(rule))
	}
}

// arbitrary returns a valid rule.
func arbitrary(r *rand.Rand) api.Rule {
	net := func() api.Net {
		bits := r.Intn(33)
		return api.Net{Addr: uint32(uint64(r.Uint32()) >> (32 - bits) << (32 - bits)), Bits: bits}
	}
	span := func() api.Span {
		low, high := uint16(r.Intn(65536)>>r.Intn(16)), uint16(r.Intn(65536)>>r.Intn(16))
		switch r.Intn(4) {
		case 0:
			return all
		case 1:
			return api.Span{Low: low, High: low}
		}
		return api.Span{Low: min(low, high), High: max(low, high)}
	}
	proto := []uint8{0, 1, 6, 17}[r.Intn(4)]
	return api.Rule{Accept: r.Intn(2) == 0, Proto: proto, Src: net(), Dst: net(), SPort: span(), DPort: span()}
}

// P12.1: no rules have an empty text; several have their lines in order.
func TestPrintOfRules(t *testing.T) {
	wantText(t, "")
	wantText(t, "", []api.Rule{}...)
	web := api.Rule{Accept: true, Proto: 6, SPort: all, Dst: api.Net{Addr: 0x0a000000, Bits: 8}, DPort: api.Span{Low: 80, High: 90}}
	wantText(t, "accept tcp any any 10.0.0.0/8 80-90\n", web)
	wantText(t, "drop any any 0 any 0\n", api.Rule{})
	wantText(t, "drop any any any any any\n", open(false, 0))
	wantText(t, "drop any any any any any\naccept tcp any any 10.0.0.0/8 80-90\n", open(false, 0), web)
	wantText(t, "accept tcp any any 10.0.0.0/8 80-90\ndrop any any any any any\naccept tcp any any 10.0.0.0/8 80-90\n", web, open(false, 0), web)
	wantText(t, "drop udp 1.2.3.4/32 5 6.7.8.0/24 9-10\n", api.Rule{Proto: 17, Src: api.Net{Addr: 0x01020304, Bits: 32}, SPort: api.Span{Low: 5, High: 5}, Dst: api.Net{Addr: 0x06070800, Bits: 24}, DPort: api.Span{Low: 9, High: 10}})
}

// P12.1: up to 64 rules have a text; 65 and more are ErrMany, also where one of them is not valid.
func TestPrintOfManyRules(t *testing.T) {
	var list []api.Rule
	want := ""
	for n := range 65 {
		wantText(t, want, list...)
		r := api.Rule{Accept: n%2 == 0, Proto: 17, SPort: all, DPort: api.Span{Low: uint16(n), High: uint16(n + 1)}}
		list = append(list, r)
		want += slowLine(r) + "\n"
	}
	wantNoText(t, api.ErrMany, list...)
	for _, n := range []int{65, 66, 100, 128, 256, 65600} {
		list := make([]api.Rule, n)
		wantNoText(t, api.ErrMany, list...)
		for _, i := range []int{0, 1, 32, 63, 64, n - 1} {
			list[i].Proto = 2
			wantNoText(t, api.ErrMany, list...)
			list[i].Proto = 0
		}
		for i := range list {
			list[i].Src.Bits = 33
		}
		wantNoText(t, api.ErrMany, list...)
	}
}

// P12.1 and R3: one rule that is not valid, in each place, is ErrArg, and there is no text.
func TestPrintOfRulesThatAreNotValid(t *testing.T) {
	for _, bad := range []api.Rule{
		{Proto: 2},
		{Proto: 255},
		{Src: api.Net{Bits: -1}},
		{Src: api.Net{Addr: 1, Bits: 31}},
		{Dst: api.Net{Bits: 33}},
		{Dst: api.Net{Addr: 1}},
		{SPort: api.Span{Low: 1}},
		{DPort: api.Span{Low: 9, High: 8}},
	} {
		for _, n := range []int{1, 2, 3, 10, 64} {
			for place := range n {
				list := make([]api.Rule, n)
				list[place] = bad
				wantNoText(t, api.ErrArg, list...)
				list[n-1-place] = bad
				wantNoText(t, api.ErrArg, list...)
			}
		}
	}
}

// P12.1 and P12.2: the line of each verdict with each protocol.
func TestLinesOfVerdictsAndProtocols(t *testing.T) {
	for _, p := range verdictsAndProtocols() {
		wantPair(t, p)
	}
}

// P12.1 and P12.2: the line of each port range, in each of the two places, with each protocol and verdict.
func TestLinesOfPortRanges(t *testing.T) {
	for s, span := range spans() {
		for _, p := range verdictsAndProtocols() {
			front := strings.TrimSuffix(p.line, " any any any any")
			p.rule.DPort = span
			wantPair(t, pair{p.rule, front + " any any any " + s})
			p.rule.SPort, p.rule.DPort = span, all
			wantPair(t, pair{p.rule, front + " any " + s + " any any"})
		}
		for other, otherSpan := range spans() {
			r := api.Rule{Proto: 17, SPort: span, DPort: otherSpan}
			wantPair(t, pair{r, "drop udp any " + s + " any " + other})
		}
	}
}

// P12.1 and P12.2: the line of each network, in each of the two places.
func TestLinesOfNetworks(t *testing.T) {
	for s, n := range nets() {
		r := open(true, 6)
		r.Src = n
		wantPair(t, pair{r, "accept tcp " + s + " any any any"})
		r.Src, r.Dst = api.Net{}, n
		wantPair(t, pair{r, "accept tcp any any " + s + " any"})
		for other, otherNet := range nets() {
			r := api.Rule{Proto: 1, Src: n, Dst: otherNet, SPort: api.Span{Low: 5, High: 6}, DPort: api.Span{Low: 7, High: 7}}
			wantPair(t, pair{r, "drop icmp " + s + " 5-6 " + other + " 7"})
		}
	}
}

// P12.1 and P12.2: each port alone, with the next one, to the last one and from the first one.
func TestLinesOfEachPort(t *testing.T) {
	for p := range 65536 {
		port := uint16(p)
		for _, span := range []api.Span{{Low: port, High: port}, {Low: port, High: max(port, port+1)}, {Low: port, High: 65535}, {Low: 0, High: port}} {
			r := api.Rule{SPort: all, DPort: span}
			s := "drop any any any any " + slowSpan(span) + "\n"
			if got, e := Print([]api.Rule{r}); got != s || e != api.OK {
				t.Fatalf("Print(%v) = %q, %d", r, got, e)
			}
			if list, n, e := Compile(s); len(list) != 1 || list[0] != r || n != 0 || e != api.OK {
				t.Fatalf("Compile(%q) = %v, %d, %d", s, list, n, e)
			}
		}
	}
}

// P12.2: the example of the chapter.
func TestCompileOfTheExample(t *testing.T) {
	wantPair(t, pair{
		api.Rule{Accept: true, Proto: 6, SPort: all, Dst: api.Net{Addr: 0x0a000000, Bits: 8}, DPort: api.Span{Low: 80, High: 90}},
		"accept tcp any any 10.0.0.0/8 80-90",
	})
}

// wrongWords returns texts that are no word of a line at all.
func wrongWords() []string {
	return []string{"a", "Any", "ANY", "aNy", "an", "ny", "anyy", "aany", "any,", "*", "all", "none", "-", "--", "-1", "+1", "1-", "0-", "any-any", "any-1", "1-any", "any/0", "any/8", "/", "/8", "//", "0x50", "1e2", "1.0", "1,2", "1:2", "1_0", "_", "\"any\"", "'any'", "any.", ".any", "nil", "true", "1.2.3.4", "1.2.3.4/", "10.0.0.0", "$", "~", "!any", "\\n"}
}

// wrongVerdicts returns texts that are no verdict.
func wrongVerdicts() []string {
	return []string{"accep", "ccept", "acept", "acceptt", "aaccept", "accepts", "Accept", "ACCEPT", "accepT", "accept.", "pass", "allow", "dro", "rop", "dop", "dropp", "ddrop", "drops", "Drop", "DROP", "droP", "deny", "reject", "any", "icmp", "tcp", "udp", "0", "1", "3", "80", "10.0.0.0/8", "acceptdrop", "accept,", "-accept"}
}

// wrongProtocols returns texts that are no protocol.
func wrongProtocols() []string {
	return []string{"icm", "cmp", "imp", "icmpp", "iicmp", "ICMP", "Icmp", "icmP", "icmp6", "tc", "cp", "tp", "tcpp", "ttcp", "TCP", "Tcp", "tcP", "tcp4", "ud", "dp", "up", "udpp", "uudp", "UDP", "Udp", "udP", "gre", "ip", "esp", "sctp", "0", "1", "6", "17", "accept", "drop", "10.0.0.0/8", "80", "tcp/udp", "tcp,udp", "-tcp"}
}

// wrongNets returns texts that are no network.
func wrongNets() []string {
	return []string{"0", "1", "8", "80", "80-90", "accept", "tcp", "0.0.0.0/0", "10.0.0.0/0", "1.2.3.4/0", "0.0.0.0/00", "10.0.0.0/08", "10.0.0.0/ 8", "10.0.0.0/+8", "10.0.0.0/-8", "10.0.0.0/33", "1.2.3.4/33", "1.2.3.4/132", "0.0.0.0/256", "0.0.0.0/264", "0.0.0.0/4294967304", "0.0.0.0/18446744073709551624", "10.0.0.1/8", "10.1.0.0/15", "10.0.0.1/31", "255.255.255.255/31", "128.0.0.0/0", "192.0.0.0/1", "10.0.0.0/8/8", "10.0.0.0/8.", "10.0.0.0/", "10.0.0.0//8", "10.0.0/8", "10/8", "10.0.0.0.0/8", ".10.0.0.0/8", "10..0.0/8", "256.0.0.0/8", "10.256.0.0/16", "266.0.0.0/8", "4294967306.0.0.0/8", "010.0.0.0/8", "10.00.0.0/8", "10.0.0.00/8", "+10.0.0.0/8", "-10.0.0.0/8", "10.0.0.-0/8", "0xa.0.0.0/8", "a.0.0.0/8", "10,0,0,0/8", "10.0.0.0\\8", "10.0.0.0-8", "10.0.0.0:80", "!10.0.0.0/8", "10.0.0.0/8,", "::/0"}
}

// wrongSpans returns texts that are no port range.
func wrongSpans() []string {
	return []string{
		"accept", "tcp", "http", "10.0.0.0/8", "80/tcp", "80,90", "80:90", "80..90", "80-90-100", "80-90-", "-80-90", "80--90", "80-+90", "80- 90", "80~90", "80-90,",
		"00", "01", "07", "007", "080", "0-07", "00-7", "07-8", "7-08", "007-008", "0-00", "00-0", "0-065534", "065535", "1-065535", "000000", "0000080",
		"+0", "-0", "+7", "-7", "+7-8", "-7-8", "7-+8", "7--8", "+", "+-", "-+", "0-+1", "-0-1", "7+", "7-8+", "7-8-",
		"8-7", "9-7", "10-9", "100-99", "1-0", "7-0", "65535-0", "65535-65534", "65535-1", "32768-32767", "256-255", "1000-100", "90-80",
		"0-0", "1-1", "7-7", "80-80", "65534-65534", "65535-65535", "0-65535",
		"-8", "7-", "-0", "0-", "-65535", "65535-", "-65535-", "any-", "-any",
		"65536", "65537", "65543", "70000", "99999", "100000", "131072", "131079", "655350", "655360", "4294967295", "4294967296", "4294967303", "4611686018427387904", "4611686018427387905", "9223372036854775807", "9223372036854775808", "18446744073709551615", "18446744073709551616", "18446744073709551623", "340282366920938463463374607431768211463",
		"0-65536", "1-65536", "7-65536", "0-65537", "7-65544", "0-131071", "7-131080", "65536-65537", "65536-7", "65543-8", "65535-65536", "65536-65536", "131072-131073", "65536-131071", "4294967303-8", "7-4294967304", "18446744073709551623-8", "7-18446744073709551624", "7-18446744073709551623", "7-340282366920938463463374607431768211464",
		"0x7", "7e1", "7.0", "7.", ".7", "7_0", "seven", "7a", "a7", "7-a", "a-7", "7-8a", "7-0x8", "7%", "7,", "7;", "$7",
	}
}

// P12.2: each word of a line wrong alone.
func TestCompileOfWrongWords(t *testing.T) {
	lists := [][]string{wrongVerdicts(), wrongProtocols(), wrongNets(), wrongSpans(), wrongNets(), wrongSpans()}
	for _, right := range []string{"accept any any any any any", "drop any any any any any", "accept tcp 10.0.0.0/8 80-90 1.2.3.4/32 7", "drop icmp any 0 0.0.0.0/32 65535", "drop udp 128.0.0.0/1 1-65535 any 0-65534"} {
		if _, _, e := Compile(right); e != api.OK {
			t.Errorf("Compile(%q): error %d", right, e)
		}
		for place, list := range lists {
			for _, wrong := range append(wrongWords(), list...) {
				words := strings.Split(right, " ")
				words[place] = wrong
				wantWrong(t, strings.Join(words, " "))
			}
		}
	}
}

// P12.2: right words in places of other words.
func TestCompileOfWordsInOtherPlaces(t *testing.T) {
	words := []string{"accept", "tcp", "10.0.0.0/8", "80-90", "1.2.3.4/32", "7"}
	for i := range words {
		for j := range words {
			moved := append([]string(nil), words...)
			moved[i], moved[j] = moved[j], moved[i]
			s := strings.Join(moved, " ")
			wantSame(t, s)
			// Only the two networks, and the two port ranges, may change places.
			if stays := i == j || i >= 2 && j >= 2 && (i-j)%2 == 0; !stays {
				wantWrong(t, s)
			}
			copied := append([]string(nil), words...)
			copied[i] = copied[j]
			wantSame(t, strings.Join(copied, " "))
		}
	}
}

// P12.2: lines with one byte less, one more or another one.
func TestCompileOfLinesWithOneOtherByte(t *testing.T) {
	for _, right := range []string{"accept tcp any any 10.0.0.0/8 80-90", "drop icmp 1.2.3.4/32 7 any 65535", "drop udp 128.0.0.0/1 1-65535 0.0.0.0/9 0-65534", "accept any any any any any\n"} {
		wantSame(t, right)
		for i := range len(right) + 1 {
			if i < len(right) {
				wantSame(t, right[:i]+right[i+1:])
			}
			for c := range 256 {
				b := string([]byte{byte(c)})
				wantSame(t, right[:i]+b+right[i:])
				if i < len(right) {
					wantSame(t, right[:i]+b+right[i+1:])
				}
			}
		}
	}
}

// P12.2: port ranges of up to 5 of the bytes that make a difference, in each of the two places.
func TestCompileOfShortPortRanges(t *testing.T) {
	var tryAll func(s string, n int)
	tryAll = func(s string, n int) {
		if s != "" {
			line := "accept udp any " + s + " any 7"
			want, ok := slowRule(line)
			for range 2 {
				list, l, e := Compile(line)
				if ok && (len(list) != 1 || list[0] != want || l != 0 || e != api.OK) || !ok && (len(list) != 0 || l != 1 || e != api.ErrText) {
					t.Fatalf("Compile(%q) = %v, %d, %d", line, list, l, e)
				}
				line = "accept udp any 7 any " + s
				want.SPort, want.DPort = want.DPort, want.SPort
			}
		}
		if n > 0 {
			for _, c := range []string{"0", "1", "2", "9", "-", "+", "a"} {
				tryAll(s+c, n-1)
			}
		}
	}
	tryAll("", 5)
}

// P12.2: numbers beyond the greatest port are no ports, also where they would wrap around to one.
func TestCompileOfPortsThatAreTooGreat(t *testing.T) {
	for n := 65536; n <= 66600; n++ {
		for _, s := range []string{fmt.Sprint(n), fmt.Sprintf("7-%d", n), fmt.Sprintf("%d-%d", n, n+1), fmt.Sprintf("%d-65535", n)} {
			wantError(t, "drop tcp any "+s+" any any", 1, api.ErrText)
			wantError(t, "drop tcp any any any "+s, 1, api.ErrText)
		}
	}
	for shift := uint(16); shift < 140; shift++ {
		power := new(big.Int).Lsh(big.NewInt(1), shift)
		for d := int64(0); d < 12; d++ {
			s := new(big.Int).Add(power, big.NewInt(d)).String()
			for _, s := range []string{s, "5-" + s, s + "-" + s, s + "-9"} {
				wantError(t, "drop tcp any "+s+" any any", 1, api.ErrText)
				wantError(t, "drop tcp any any any "+s, 1, api.ErrText)
			}
		}
	}
}

// P12.2: each number of words but six.
func TestCompileOfOtherNumbersOfWords(t *testing.T) {
	words := strings.Split("accept tcp any any any any", " ")
	for n := 1; n <= 5; n++ {
		wantWrong(t, strings.Join(words[:n], " "))
		wantWrong(t, strings.Join(words[6-n:], " "))
	}
	for n := 7; n <= 40; n++ {
		wantWrong(t, strings.Join(words, " ")+strings.Repeat(" any", n-6))
	}
	for _, right := range []string{"accept tcp any any any any", "drop any any any any any", "accept udp 10.0.0.0/8 80-90 1.2.3.4/32 7"} {
		words := strings.Split(right, " ")
		for i := range words {
			wantWrong(t, strings.Join(append(append([]string(nil), words[:i]...), words[i+1:]...), " "))
		}
		for _, more := range []string{"any", "accept", "drop", "tcp", "7", "80-90", "10.0.0.0/8", "x"} {
			wantWrong(t, right+" "+more)
			wantWrong(t, more+" "+right)
			wantWrong(t, right+" "+right)
		}
	}
	wantError(t, "a"+strings.Repeat(" a", 2047), 1, api.ErrText)
	wantWrong(t, "accept tcp any any\nany any")
	wantWrong(t, "accepttcpanyanyanyany")
	wantWrong(t, "accept,tcp,any,any,any,any")
}

// P12.2: spaces, comments and empty lines make no difference.
func TestCompileSpacesAndComments(t *testing.T) {
	one, two := open(true, 6), api.Rule{Src: api.Net{Addr: 0x01020304, Bits: 32}, SPort: api.Span{Low: 7, High: 7}, DPort: all}
	const first, second = "accept tcp any any any any", "drop any 1.2.3.4/32 7 any any"
	for _, form := range []string{"%s\n%s", "%s\n%s\n", "%s\n\n%s", "\n%s\n%s\n\n", "%s # a\n%s#b", "%s#\n%s #\n", "#a\n%s\n # b c\n%s", "  %s\n %s  ", "%s \n  \n%s   \n ", "# accept\n%s##\n#%[1]s\n%s\n#"} {
		wantRules(t, fmt.Sprintf(form, first, second), one, two)
		wantRules(t, fmt.Sprintf(form, second, first), two, one)
		wide := strings.ReplaceAll(first, " ", "   ")
		wantRules(t, fmt.Sprintf(form, wide, second), one, two)
		wantRules(t, fmt.Sprintf(form, first, first), one, one)
	}
	for n := 1; n < 700; n++ {
		wantRules(t, strings.ReplaceAll(first, " ", strings.Repeat(" ", n)), one)
	}
	for _, s := range []string{"", "\n", " ", "#", "\n\n\n", "  \n # a\n#" + first, "#" + first, strings.Repeat("\n", 4096), strings.Repeat("#", 4096), strings.Repeat(" ", 4096)} {
		wantRules(t, s)
	}
	for i := range len(first) {
		wantSame(t, first[:i]+"#"+first[i:])
		wantSame(t, first[:i]+" #"+first[i:])
		wantSame(t, first[:i]+"\n"+first[i:])
	}
}

// P12.2: the line that is told counts lines without words.
func TestCompileNumbersOfLines(t *testing.T) {
	const right, wrong = "accept tcp any any any any\n", "pass tcp any any any any"
	for _, empty := range []string{"\n", " \n", "#\n", " # pass\n"} {
		for n := range 60 {
			front := strings.Repeat(empty, n)
			wantError(t, front+wrong, n+1, api.ErrText)
			wantError(t, front+right+front+wrong+"\n"+right, 2*n+2, api.ErrText)
			wantError(t, right+front+wrong+front+wrong, n+2, api.ErrText)
			wantRules(t, front+right+front, open(true, 6))
		}
	}
	wantError(t, strings.Repeat("\n", 4095)+"a", 4096, api.ErrText)
	wantError(t, strings.Repeat("\n", 4095)+"\t", 4096, api.ErrText)
	wantError(t, wrong+"\n"+strings.Repeat("x\n", 100), 1, api.ErrText)
	for n := range 64 {
		wantError(t, strings.Repeat(right, n)+wrong, n+1, api.ErrText)
		wantError(t, strings.Repeat(right, n)+"x\ny\n"+right, n+1, api.ErrText)
	}
}

// P12.2: a byte that may not be there is the error, with its line, before whatever is wrong with the words.
func TestCompileOfInvalidBytes(t *testing.T) {
	const right, wrong = "accept tcp any any any any", "accept tcp any any any"
	for c := range 256 {
		if c == 10 || c >= 32 && c <= 126 {
			continue
		}
		b := string([]byte{byte(c)})
		wantError(t, b, 1, api.ErrText)
		wantError(t, right+b, 1, api.ErrText)
		wantError(t, b+right, 1, api.ErrText)
		wantError(t, strings.Replace(right, " ", b, 1), 1, api.ErrText)
		wantError(t, right+"\n"+right+" #"+b+"\n", 2, api.ErrText)
		wantError(t, right+"\n\n"+b, 3, api.ErrText)
		wantError(t, wrong+"\n\n\n"+b, 4, api.ErrText)
		wantError(t, wrong+"\n"+right+"\n#"+b+"\n"+wrong+b, 3, api.ErrText)
		wantError(t, strings.Repeat("a a\n", 99)+b, 100, api.ErrText)
		wantError(t, strings.Repeat(right+"\n", 69)+b, 70, api.ErrText)
	}
	wantError(t, right+"\r\n"+right+"\r\n", 1, api.ErrText)
	wantError(t, "accept\ttcp any any any any", 1, api.ErrText)
	wantError(t, "drop\u00a0any any any any any", 1, api.ErrText)
}

// P12.2: a text of more than 4096 bytes is the first error of all, and has no line.
func TestCompileOver(t *testing.T) {
	const right = "accept tcp any any any any\n"
	for _, s := range []string{right, "x\n", right + "x", strings.Repeat(right, 64), strings.Repeat(right, 65), "\t", "\xff\n" + right, "#", ""} {
		for _, fill := range []string{" ", "\n", "#", "x", "\t", "x\n"} {
			room := strings.Repeat(fill, 4097)
			fits, over := (s + room)[:4096], (s + room)[:4097]
			wantSame(t, fits)
			wantError(t, over, 0, api.ErrOver)
			wantError(t, room+s, 0, api.ErrOver)
		}
	}
	full := strings.Repeat(right, 64)
	wantRules(t, full+strings.Repeat("#", 4096-len(full)), repeat(open(true, 6), 64)...)
	wantRules(t, strings.Repeat("\n", 4096-len(full))+full, repeat(open(true, 6), 64)...)
	wantError(t, full+strings.Repeat("#", 4097-len(full)), 0, api.ErrOver)
	wantError(t, strings.Repeat("x", 1<<20), 0, api.ErrOver)
}

// repeat returns n times the same rule.
func repeat(r api.Rule, n int) []api.Rule {
	var list []api.Rule
	for range n {
		list = append(list, r)
	}
	return list
}

// P12.2 and R2: the 65th line with words is one too many, right or wrong, unless a line ahead of it is wrong.
func TestCompileOfManyRules(t *testing.T) {
	const right, wrong = "drop udp any 7 any any\n", "drop udp any 7 any\n"
	r := api.Rule{Proto: 17, SPort: api.Span{Low: 7, High: 7}, DPort: all}
	for n := range 65 {
		wantRules(t, strings.Repeat(right, n), repeat(r, n)...)
		wantRules(t, strings.TrimSuffix(strings.Repeat(right, n), "\n"), repeat(r, n)...)
	}
	for n := 65; n <= 150; n++ {
		wantError(t, strings.Repeat(right, n), 65, api.ErrMany)
		wantError(t, strings.TrimSuffix(strings.Repeat(right, n), "\n"), 65, api.ErrMany)
	}
	full := strings.Repeat(right, 64)
	wantRules(t, full+"# a\n \n\n", repeat(r, 64)...)
	wantRules(t, "#\n\n"+strings.Repeat(right+"\n", 64), repeat(r, 64)...)
	wantError(t, full+wrong, 65, api.ErrMany)
	wantError(t, full+"x", 65, api.ErrMany)
	wantError(t, full+"\n\n# a\n"+right, 68, api.ErrMany)
	wantError(t, full+"\n\n# a\n"+wrong, 68, api.ErrMany)
	wantError(t, strings.Repeat(right+"\n", 65), 129, api.ErrMany)
	wantError(t, strings.Repeat("#\n"+right, 65), 130, api.ErrMany)
	wantError(t, full+right+wrong, 65, api.ErrMany)
	wantError(t, full+wrong+wrong, 65, api.ErrMany)
	wantError(t, full+wrong+right, 65, api.ErrMany)
	wantError(t, full+right+right+wrong+"\t", 68, api.ErrText)
	for n := range 64 {
		some := strings.Repeat(right, n)
		rest := strings.Repeat(right, 63-n)
		wantError(t, some+wrong+rest, n+1, api.ErrText)
		wantError(t, some+wrong+rest+right, n+1, api.ErrText)
		wantError(t, some+wrong+rest+wrong+right, n+1, api.ErrText)
		wantError(t, "\n"+some+"\n"+wrong+rest+right+right, n+3, api.ErrText)
	}
	wantError(t, strings.Repeat(wrong, 65), 1, api.ErrText)
}

// P12.1 and P12.2: rules that are printed compile to themselves, and print to the same text again.
func TestPrintedRulesCompile(t *testing.T) {
	r := rand.New(rand.NewSource(12))
	for range 2000 {
		list := make([]api.Rule, r.Intn(50))
		want := ""
		for i := range list {
			list[i] = arbitrary(r)
			want += slowLine(list[i]) + "\n"
		}
		wantText(t, want, list...)
		if len(want) > 4096 {
			wantError(t, want, 0, api.ErrOver)
		} else {
			wantRules(t, want, list...)
		}
	}
}

// P12.1 and P12.2: all rules that combine the edges of their parts.
func TestLinesOfAllEdges(t *testing.T) {
	nets := []api.Net{{}, {Addr: 0x80000000, Bits: 1}, {Bits: 32}, {Addr: 0xffffffff, Bits: 32}}
	spans := []api.Span{all, {Low: 0, High: 65534}, {Low: 1, High: 65535}, {Low: 65535, High: 65535}, {}}
	for _, p := range verdictsAndProtocols() {
		for _, p.rule.Src = range nets {
			for _, p.rule.Dst = range nets {
				for _, p.rule.SPort = range spans {
					for _, p.rule.DPort = range spans {
						wantPair(t, pair{p.rule, slowLine(p.rule)})
					}
				}
			}
		}
	}
}

// P12.1: the longest text that Print makes; as it has more than 4096 bytes, Compile does not take it.
func TestPrintHasNoLimitOfBytes(t *testing.T) {
	n := api.Net{Addr: 0xfffffffe, Bits: 31}
	longest := api.Rule{Accept: true, Proto: 1, Src: n, SPort: api.Span{Low: 10000, High: 65535}, Dst: n, DPort: api.Span{Low: 12345, High: 54321}}
	const line = "accept icmp 255.255.255.254/31 10000-65535 255.255.255.254/31 12345-54321\n"
	s := strings.Repeat(line, 64)
	wantText(t, s, repeat(longest, 64)...)
	wantError(t, s, 0, api.ErrOver)
	wantText(t, strings.Repeat(line, 55), repeat(longest, 55)...)
	wantRules(t, strings.Repeat(line, 55), repeat(longest, 55)...)
	wantNoText(t, api.ErrMany, repeat(longest, 65)...)
}

// P12.2: texts that compile print to a text that compiles to the same; arbitrary ones go by the document.
func TestCompiledRulesPrint(t *testing.T) {
	r := rand.New(rand.NewSource(122))
	words := [][]string{{"accept", "drop"}, {"any", "icmp", "tcp", "udp"}, {"any", "10.0.0.0/8", "1.2.3.4/32"}, {"any", "7", "80-90", "0-65534"}}
	wrong := []string{"Drop", "6", "10.1.0.0/8", "0-65535"}
	word := func(i int) string {
		if r.Intn(300) == 0 {
			return wrong[i]
		}
		return words[i][r.Intn(len(words[i]))]
	}
	for range 3000 {
		var b strings.Builder
		for range r.Intn(70) {
			for _, i := range []int{0, 1, 2, 3, 2, 3} {
				b.WriteString(word(i) + strings.Repeat(" ", 1+r.Intn(2)))
			}
			b.WriteString([]string{"\n", "\n", "\n", "# a\n", "\n\n", "\n \n"}[r.Intn(6)])
		}
		s := b.String()
		wantSame(t, s)
		list, _, e := Compile(s)
		if e != api.OK {
			continue
		}
		printed, e := Print(list)
		if e != api.OK {
			t.Errorf("Print(%v): error %d", list, e)
		}
		wantRules(t, printed, list...)
	}
}

// R1: arbitrary bytes never make Compile panic, and go by the document.
func TestCompileOfArbitraryBytes(t *testing.T) {
	r := rand.New(rand.NewSource(1))
	pieces := []string{"accept ", "drop ", "tcp ", "any ", "any", "10.0.0.0/8 ", "7 ", "1-2 ", "-", "/", ".", "0", "65535", "65536", "#", "\n", "\n", " "}
	for range 20000 {
		var b strings.Builder
		for range r.Intn(20) {
			b.WriteString(pieces[r.Intn(len(pieces))])
			if r.Intn(60) == 0 {
				b.WriteByte(byte(r.Intn(256)))
			}
		}
		wantSame(t, b.String())
	}
}

// R4: neither the lists nor their rules share memory, not even behind their ends.
func TestCompileSharesNothing(t *testing.T) {
	const s = "accept tcp any any 10.0.0.0/8 80-90\ndrop any any any any any\naccept icmp any 7 any any"
	want, _, _ := slowCompile(s)
	first, _, _ := Compile(s)
	second, _, _ := Compile(s)
	for i := range first[:cap(first)] {
		first[:cap(first)][i] = api.Rule{Proto: 99, Src: api.Net{Addr: 9, Bits: 9}}
	}
	if !same(second, want) {
		t.Error(second)
	}
	for i := range second {
		second[i].SPort.Low++
		second[i].Dst.Addr++
		for j := range second {
			if j > i && second[j] != want[j] {
				t.Errorf("rule %d changed with rule %d: %v", j, i, second[j])
			}
		}
	}
	wantRules(t, s, want...)
	wantText(t, s+"\n", want...)
}

// R4: Print changes neither the rules nor what is behind them.
func TestPrintChangesNothing(t *testing.T) {
	room := []api.Rule{open(true, 6), {Accept: true}, {Proto: 77, Src: api.Net{Addr: 1, Bits: 2}}, open(false, 0)}
	want := append([]api.Rule(nil), room...)
	for n := range len(room) + 1 {
		Print(room[:n])
		if !reflect.DeepEqual(room, want) {
			t.Fatalf("Print of %d rules changed them: %v", n, room)
		}
	}
	s, _ := Print(room[:2])
	room[0], room[1] = api.Rule{}, api.Rule{}
	if s != "accept tcp any any any any\naccept any any 0 any 0\n" {
		t.Errorf("the text changed with the rules: %q", s)
	}
}

// R5: what a call returns does not depend on the calls before it, nor on the order of a map.
func TestNothingIsKept(t *testing.T) {
	texts := []string{"", "accept tcp any any any any", "x", "\t", strings.Repeat("\n", 4097), strings.Repeat("drop any any any any any\n", 65), "drop icmp 10.0.0.0/8 7 any 1-2\nx", "drop udp any any any any #"}
	lists := [][]api.Rule{nil, {open(true, 0)}, {{Proto: 2}}, repeat(open(false, 17), 65), {open(false, 1), open(true, 6), open(true, 17)}, {open(true, 6), {SPort: api.Span{Low: 1}}}}
	type answer struct {
		s string
		e api.Errno
	}
	answers := make([]answer, len(lists))
	for round := range 20 {
		for _, first := range texts {
			for i, list := range lists {
				Compile(first)
				s, e := Print(list)
				if round == 0 && first == "" {
					answers[i] = answer{s, e}
				}
				if (answer{s, e}) != answers[i] {
					t.Errorf("Print(%.200v) = %q, %d, then %v", list, s, e, answers[i])
				}
			}
			for _, second := range texts {
				wantSame(t, second)
			}
		}
	}
	for range 300 {
		for _, p := range verdictsAndProtocols() {
			wantPair(t, p)
			p.rule.Proto += 2
			wantGood(t, p.rule, false)
		}
	}
}
