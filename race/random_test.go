package race

import (
	"math/rand"
	"testing"

	"mantlet/api"
)

// wantSameFind fails the test unless Find tells the same as the second implementation.
func wantSameFind(t *testing.T, s *slow) (int, api.Errno) {
	n, e := s.find()
	if got, err := Find(s.log); got != n || err != e {
		t.Fatalf("Find = %d, %d, want %d, %d, of %v", got, err, n, e, short(s.log))
	}
	return n, e
}

// wantSamePairs fails the test unless Before does so. It counts the pairs of accesses of two threads of which the first one happens before the other one, and does not.
func wantSamePairs(t *testing.T, s *slow) (before, not int) {
	for b, y := range s.log {
		for a, x := range s.log[:b] {
			want := s.happens(a, b)
			if got := Before(s.log, a, b); got != want {
				t.Fatalf("Before(%d, %d) = %v, of %v", a, b, got, short(s.log))
			}
			switch {
			case x.Thread == y.Thread:
			case want:
				before++
			default:
				not++
			}
		}
	}
	return before, not
}

// small tries each log that goes on from the second implementation's with so many accesses. New threads and places have the next number, as others are no different.
func small(t *testing.T, s *slow, more, threads, places int) int {
	tried := 1
	wantSameFind(t, s)
	wantSamePairs(t, s)
	if more == 0 {
		return tried
	}
	for thread := range threads + 1 {
		for place := range places + 1 {
			for kind := isLock; kind <= isWrite; kind++ {
				s.add(api.Access{Thread: thread, Kind: kind, Place: place})
				tried += small(t, s, more-1, max(threads, thread+1), max(places, place+1))
				s.drop()
			}
		}
	}
	return tried
}

// P24.1: each log of at most 4 accesses of the known kinds, apart from what the threads and places are called.
func TestSmall(t *testing.T) {
	if n := small(t, newSlow(nil), 4, 0, 0); n != 1+6+36*4+216*25+1296*225 {
		t.Errorf("%d logs", n)
	}
}

// source makes arbitrary accesses.
type source struct {
	*rand.Rand
	threads []int
	places  []int
	kinds   []int
}

// newSource returns the source with this number. It has few threads and places, so that the accesses meet, and more of some kinds than of others. If odd, the threads may have any numbers.
func newSource(seed int, odd bool) source {
	r := source{Rand: rand.New(rand.NewSource(int64(seed)))}
	for range 2 + r.Intn(7) {
		thread := r.Intn(64)
		if odd && r.Intn(3) == 0 {
			thread = edges()[r.Intn(len(edges()))]
		}
		r.threads = append(r.threads, thread)
	}
	for range 1 + r.Intn(6) {
		place := r.Intn(9) - 1
		if r.Intn(8) == 0 {
			place = edges()[r.Intn(len(edges()))]
		}
		r.places = append(r.places, place)
	}
	for kind := isLock; kind <= isWrite; kind++ {
		for range r.Intn(6) {
			r.kinds = append(r.kinds, kind)
		}
	}
	r.kinds = append(r.kinds, isWrite, isRead, r.Intn(10)-1)
	return r
}

// one returns one of a list.
func one[T any](r source, list []T) T {
	return list[r.Intn(len(list))]
}

// access returns an access.
func (r source) access() api.Access {
	return api.Access{Thread: one(r, r.threads), Kind: one(r, r.kinds), Place: one(r, r.places)}
}

// log returns a log in which few accesses race: of those that race, only one in so many is taken.
func (r source) log(number, few int) *slow {
	s := newSlow(nil)
	for range number {
		s.add(r.access())
		if s.races(len(s.log)-1) && r.Intn(few) > 0 {
			s.drop()
		}
	}
	return s
}

// P24.1: arbitrary logs, with few and with many races.
func TestArbitrary(t *testing.T) {
	none, late, ordered, before, not := 0, 0, 0, 0, 0
	for seed := range 3000 {
		r := newSource(seed, false)
		s := r.log(r.Intn(200), []int{3, 30, 300, 1 << 30}[seed%4])
		n, e := wantSameFind(t, s)
		switch {
		case e == api.OK && s.ordered() > 20:
			none++
		case n > 30:
			late++
		}
		ordered += s.ordered()
		if len(s.log) < 90 {
			is, isNot := wantSamePairs(t, s)
			before, not = before+is, not+isNot
		}
	}
	if none < 300 || late < 250 || ordered < 50000 || before < 300000 || not < 500000 {
		t.Errorf("%d logs without races, %d with late ones, %d ordered pairs, %d before others and %d not: this tells little", none, late, ordered, before, not)
	}
}

// P24.1 (R1): arbitrary logs whose threads may have any numbers.
func TestArbitraryThreads(t *testing.T) {
	many, before, not := 0, 0, 0
	for seed := range 1000 {
		s := newSource(seed, true).log(60, 20)
		if _, e := wantSameFind(t, s); e == api.ErrMany {
			many++
		}
		is, isNot := wantSamePairs(t, s)
		before, not = before+is, not+isNot
	}
	if many < 500 || many > 950 || before < 200000 || not < 200000 {
		t.Errorf("%d logs with other threads, %d pairs before others and %d not: this tells little", many, before, not)
	}
}
