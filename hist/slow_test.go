package hist

import (
	"slices"

	"mantlet/api"
	"mantlet/auto"
	"mantlet/key"
	"mantlet/rules"
	"mantlet/wire"
)

// slow is a second implementation, by the document's words: it keeps the points that were valid, and looks through them for all that it wants to know of a thread and of its op.
type slow struct {
	wall    *auto.Auto
	threads [][]api.Op
	points  []api.Point
	clocks  []int // behind each point
}

// newSlow returns one without points.
func newSlow(c api.Config, list []api.Rule, threads [][]api.Op) *slow {
	a, _ := auto.New(c, list)
	return &slow{wall: a, threads: threads}
}

// add processes a point, and reports whether it is valid. Behind one that is not, the firewall may be another one.
func (s *slow) add(p api.Point) bool {
	if !s.valid(p) {
		return false
	}
	s.points = append(s.points, p)
	s.clocks = append(s.clocks, s.wall.Gate().Clock)
	return true
}

// first returns the index of the first point that is not valid, or their number.
func (s *slow) first(points []api.Point) int {
	for i, p := range points {
		if !s.add(p) {
			return i
		}
	}
	return len(points)
}

// of returns the points of an op, by their indexes.
func (s *slow) of(thread, op, kind int) []int {
	var list []int
	for i, p := range s.points {
		if p.Thread == thread && p.Op == op && p.Kind == kind {
			list = append(list, i)
		}
	}
	return list
}

// current returns the number of the op that the thread is in or that is its next one, and whether the thread is in it.
func (s *slow) current(thread int) (int, bool) {
	calls, returns := 0, 0
	for _, p := range s.points {
		if p.Thread == thread && p.Kind == isCall {
			calls++
		}
		if p.Thread == thread && p.Kind == isReturn {
			returns++
		}
	}
	return returns, calls > returns
}

// valid reports whether a point is valid, and lets the firewall do what it states.
func (s *slow) valid(p api.Point) bool {
	if !slices.Contains(numbers(len(s.threads)), p.Thread) || !slices.Contains(numbers(len(s.threads[p.Thread])), p.Op) {
		return false
	}
	op, in := s.current(p.Thread)
	if p.Op != op || in == (p.Kind == isCall) {
		return false
	}
	x := s.threads[p.Thread][p.Op]
	switch p.Kind {
	case isCall:
		return p.Key == api.Key{} && p.Verdict == 0 && p.N == 0
	case isReturn:
		return p.Key == api.Key{} && p.Verdict == s.verdict(p) && p.N == s.number(p, x) && s.complete(p, x)
	case isDelete:
		return p.Verdict == 0 && s.deletes(p, x)
	}
	// Any other point is there once.
	if len(s.of(p.Thread, p.Op, p.Kind)) > 0 {
		return false
	}
	switch [2]int{x.Kind, p.Kind} {
	case [2]int{isPacket, isAct}:
		return p.N == 0 && s.acts(p, x)
	case [2]int{isPacket, isCount}:
		s.wall.Count(p.Verdict)
		return p.Key == api.Key{} && p.N == 0 && p.Verdict != 0 && p.Verdict == s.verdict(p)
	case [2]int{isTick, isTicked}:
		s.wall.Tick(p.N)
		return p.Key == api.Key{} && p.Verdict == 0 && p.N == x.N
	case [2]int{isSwap, isSwaped}:
		list, _, e := rules.Compile(x.S)
		if e != api.OK {
			return false
		}
		n, e := s.wall.Swap(list)
		return p.Key == api.Key{} && p.Verdict == 0 && p.N == n && e == api.OK
	case [2]int{isStat, isRead}:
		return p.Key == api.Key{} && x.N >= 1 && x.N <= 5 && p.Verdict == x.N && uint64(p.N) == s.wall.Stat(x.N)
	}
	return false
}

// numbers returns the numbers of n things.
func numbers(n int) []int {
	var list []int
	for i := range n {
		list = append(list, i)
	}
	return list
}

// verdict returns that of the op's PtAct, or 0.
func (s *slow) verdict(p api.Point) int {
	for _, i := range s.of(p.Thread, p.Op, isAct) {
		return s.points[i].Verdict
	}
	return 0
}

// number returns the N of the op's return.
func (s *slow) number(p api.Point, x api.Op) int {
	switch x.Kind {
	case isTick:
		for _, i := range s.of(p.Thread, p.Op, isTicked) {
			return s.clocks[i]
		}
	case isSwap:
		for _, i := range s.of(p.Thread, p.Op, isSwaped) {
			return s.points[i].N
		}
	case isStat:
		for _, i := range s.of(p.Thread, p.Op, isRead) {
			return s.points[i].N
		}
	case isCollect, isFlush:
		return len(s.of(p.Thread, p.Op, isDelete))
	}
	return 0
}

// complete reports whether the points are there that a return requires.
func (s *slow) complete(p api.Point, x api.Op) bool {
	required := map[int]int{isPacket: isCount, isTick: isTicked, isStat: isRead, isSwap: isSwaped}
	if x.Kind == isStat && (x.N < 1 || x.N > 5) {
		return true
	}
	if _, _, e := rules.Compile(x.S); x.Kind == isSwap && (e != api.OK || s.wall.Gate().Version == topVersion) {
		return true
	}
	kind, ok := required[x.Kind]
	return !ok || len(s.of(p.Thread, p.Op, kind)) > 0
}

// deletes reports whether a point that removes a flow is valid, except for its Verdict.
func (s *slow) deletes(p api.Point, x api.Op) bool {
	switch x.Kind {
	case isPacket:
		_, e := wire.Parse(x.B)
		return e == api.OK && s.verdict(p) == 0 && p.Key == keyOf(x) && p.N == 0 && s.wall.Delete(p.Key)
	case isCollect:
		return p.N == 0 && s.wall.Delete(p.Key)
	case isFlush:
		return p.N == 1 && s.wall.Drop(p.Key)
	}
	return false
}

// acts reports whether a packet is judged so.
func (s *slow) acts(p api.Point, x api.Op) bool {
	packet, e := wire.Parse(x.B)
	if e != api.OK {
		return p.Key == api.Key{} && p.Verdict == malformed
	}
	f, there := s.wall.Look(keyOf(x))
	over := there && (f.State == 0 || f.State == 15 || f.Until <= s.wall.Gate().Clock || f.Seq == 1<<20-1)
	return !over && p.Key == keyOf(x) && p.Verdict == s.wall.Act(packet)
}

// keyOf returns the key of a packet, or the zero key of what is none.
func keyOf(x api.Op) api.Key {
	p, e := wire.Parse(x.B)
	if e != api.OK {
		return api.Key{}
	}
	k, _ := key.Of(p)
	return k
}
