package race

import (
	"math/big"

	"mantlet/api"
)

// slow is a second implementation, by the words of the chapter: for each access, it keeps which ones happen before it.
type slow struct {
	log    []api.Access
	before []*big.Int // the set of these accesses' indices
}

// newSlow returns one of a log.
func newSlow(log []api.Access) *slow {
	s := &slow{}
	for _, x := range log {
		s.add(x)
	}
	return s
}

// add appends an access. What happens before it directly precedes it, or happens before one that does.
func (s *slow) add(x api.Access) {
	set := new(big.Int)
	for i, y := range s.log {
		if precedes(y, x) {
			set.Or(set, s.before[i])
			set.SetBit(set, i, 1)
		}
	}
	s.log = append(s.log, x)
	s.before = append(s.before, set)
}

// drop drops the last access.
func (s *slow) drop() {
	s.log = s.log[:len(s.log)-1]
	s.before = s.before[:len(s.before)-1]
}

// precedes reports whether y, which is later in the log, is directly preceded by x.
func precedes(x, y api.Access) bool {
	return x.Thread == y.Thread ||
		x.Place == y.Place && x.Kind == isUnlock && y.Kind == isLock ||
		x.Place == y.Place && x.Kind == isStore && (y.Kind == isStore || y.Kind == isLoad)
}

// conflict reports whether the accesses race unless one happens before the other.
func conflict(x, y api.Access) bool {
	plain := (x.Kind == isRead || x.Kind == isWrite) && (y.Kind == isRead || y.Kind == isWrite)
	return x.Place == y.Place && x.Thread != y.Thread && plain && (x.Kind == isWrite || y.Kind == isWrite)
}

// happens reports whether access a happens before access b.
func (s *slow) happens(a, b int) bool {
	return a >= 0 && a < b && b < len(s.log) && s.before[b].Bit(a) == 1
}

// races reports whether access b races with an earlier one.
func (s *slow) races(b int) bool {
	for a := range b {
		if conflict(s.log[a], s.log[b]) && !s.happens(a, b) {
			return true
		}
	}
	return false
}

// ordered counts the pairs of accesses that would race if none happened before another one.
func (s *slow) ordered() int {
	n := 0
	for b, y := range s.log {
		for a, x := range s.log[:b] {
			if conflict(x, y) && s.happens(a, b) {
				n++
			}
		}
	}
	return n
}

// find is Find.
func (s *slow) find() (int, api.Errno) {
	for _, x := range s.log {
		if x.Thread < 0 || x.Thread > 63 {
			return 0, api.ErrMany
		}
	}
	for i := range s.log {
		if s.races(i) {
			return i, api.ErrRace
		}
	}
	return -1, api.OK
}
