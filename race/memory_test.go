package race

import (
	"slices"
	"testing"

	"mantlet/api"
)

// someLog returns a log, and the index of its first access that races.
func someLog() ([]api.Access, int) {
	return []api.Access{
		write(0, 2), unlock(0, 1), write(3, 8), store(3, 0), lock(1, 1), read(1, 2), load(4, 0), write(4, 8), unlock(1, 1),
		lock(2, 1), write(2, 2), store(4, 0), store(2, 0), read(2, 8), unlock(3, 1), {Thread: 5}, read(0, 2), write(2, 2),
	}, 16
}

// R4: the log is not changed, nor what is behind it.
func TestLogStays(t *testing.T) {
	list, n := someLog()
	log := append(make([]api.Access, 0, 2*len(list)), list...)
	copy(log[len(list):cap(log)], list)
	before := slices.Clone(log[:cap(log)])
	wantFind(t, log, n, api.ErrRace)
	wantFind(t, log[:n], -1, api.OK)
	for a := range log {
		for b := range log {
			Before(log, a, b)
		}
	}
	log[3].Thread, before[3].Thread = 64, 64
	wantFind(t, log, 0, api.ErrMany)
	if !slices.Equal(log[:cap(log)], before) {
		t.Errorf("the log was changed: %v, want %v", log[:cap(log)], before)
	}
}

// R5: the same call returns the same, whatever is called in between, and a log may be changed between two calls.
func TestSameAgain(t *testing.T) {
	log, n := someLog()
	pairs := func() []bool {
		var list []bool
		for a := range log {
			for b := range log {
				list = append(list, Before(log, a, b))
			}
		}
		return list
	}
	want := pairs()
	for i := range log {
		wantFind(t, log, n, api.ErrRace)
		if i <= n {
			wantFind(t, log[:i], -1, api.OK)
		}
		old := log[i]
		log[i] = write(9, 2)
		newer := newSlow(log)
		first, e := newer.find()
		wantFind(t, log, first, e)
		log[i] = old
		if !slices.Equal(pairs(), want) {
			t.Fatal("other pairs")
		}
	}
	wantFind(t, log, n, api.ErrRace)
}
