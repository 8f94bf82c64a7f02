package race

import "mantlet/api"

// set is a set of threads or places. It is a map, not an array, as threads may have any numbers here.
type set map[int]struct{}

// reach is what was done by some accesses: their threads, and the places where they released something.
type reach struct {
	threads  set
	unlocked set
	stored   set
}

// Before reports whether access a of the log happens before access b.
func Before(log []api.Access, a, b int) bool {
	if a < 0 || a >= b || b >= len(log) {
		return false
	}
	r := reach{threads: set{}, unlocked: set{}, stored: set{}}
	r.add(log[a])
	for _, x := range log[a+1 : b] {
		if r.precedes(x) {
			r.add(x)
		}
	}
	return r.precedes(log[b])
}

// precedes reports whether one of these accesses directly precedes x, which is later than all of them.
func (r reach) precedes(x api.Access) bool {
	switch {
	case r.threads.has(x.Thread):
		return true
	case x.Kind == api.MemLock:
		return r.unlocked.has(x.Place)
	case x.Kind == api.MemLoad || x.Kind == api.MemStore:
		return r.stored.has(x.Place)
	}
	return false
}

// add adds an access.
func (r reach) add(x api.Access) {
	r.threads.add(x.Thread)
	switch x.Kind {
	case api.MemUnlock:
		r.unlocked.add(x.Place)
	case api.MemStore:
		r.stored.add(x.Place)
	}
}

func (s set) add(n int) { s[n] = struct{}{} }

func (s set) has(n int) bool {
	_, ok := s[n]
	return ok
}
