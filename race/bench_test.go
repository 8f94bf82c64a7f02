package race

import (
	"math"
	"slices"
	"testing"

	"mantlet/api"
)

// The kinds of accesses, written out.
const (
	isLock   = 1
	isUnlock = 2
	isLoad   = 3
	isStore  = 4
	isRead   = 5
	isWrite  = 6
)

// lock, unlock, load, store, read and write return accesses.
func lock(thread, place int) api.Access {
	return api.Access{Thread: thread, Kind: isLock, Place: place}
}
func unlock(thread, place int) api.Access {
	return api.Access{Thread: thread, Kind: isUnlock, Place: place}
}
func load(thread, place int) api.Access {
	return api.Access{Thread: thread, Kind: isLoad, Place: place}
}
func store(thread, place int) api.Access {
	return api.Access{Thread: thread, Kind: isStore, Place: place}
}
func read(thread, place int) api.Access {
	return api.Access{Thread: thread, Kind: isRead, Place: place}
}
func write(thread, place int) api.Access {
	return api.Access{Thread: thread, Kind: isWrite, Place: place}
}

// edges returns the edges of int, and numbers that would be small if bits of them were lost.
func edges() []int {
	list := []int{math.MinInt, math.MinInt + 1, math.MinInt32, math.MaxInt32, math.MaxUint32, math.MaxInt - 1, math.MaxInt}
	for _, i := range []int{7, 8, 16, 31, 32, 33, 62} {
		for v := range 3 {
			list = append(list, 1<<i+v, -1<<i+v)
		}
	}
	return list
}

// kinds returns all kinds of accesses, and unknown ones.
func kinds() []int {
	return append(edges(), -2, -1, 0, isLock, isUnlock, isLoad, isStore, isRead, isWrite, 7, 8, 9)
}

// wantFind fails the test unless Find returns these.
func wantFind(t *testing.T, log []api.Access, n int, e api.Errno) {
	t.Helper()
	if got, err := Find(log); got != n || err != e {
		t.Fatalf("Find = %d, %d, want %d, %d, of %v", got, err, n, e, short(log))
	}
}

// wantRace fails the test unless the last access of the log is the first one that races with an earlier one.
func wantRace(t *testing.T, log ...api.Access) {
	t.Helper()
	wantFind(t, log, len(log)-1, api.ErrRace)
}

// wantNone fails the test unless no accesses race.
func wantNone(t *testing.T, log ...api.Access) {
	t.Helper()
	wantFind(t, log, -1, api.OK)
}

// wantBefore fails the test unless Before returns this.
func wantBefore(t *testing.T, log []api.Access, a, b int, want bool) {
	t.Helper()
	if got := Before(log, a, b); got != want {
		t.Fatalf("Before(%d, %d) = %v, of %v", a, b, got, short(log))
	}
}

// wantPairs fails the test unless exactly these accesses happen before others, also among indices outside.
func wantPairs(t *testing.T, log []api.Access, pairs ...[2]int) {
	t.Helper()
	for a := -2; a < len(log)+3; a++ {
		for b := -2; b < len(log)+3; b++ {
			wantBefore(t, log, a, b, slices.Contains(pairs, [2]int{a, b}))
		}
	}
}

// short returns the log, or nothing if it is too long to be told.
func short(log []api.Access) []api.Access {
	if len(log) > 100 {
		return nil
	}
	return log
}

// chain returns a log of one access by each of these threads to place 0, from write to write, where each thread releases what the next one acquires.
func chain(threads []int, release, acquire func(thread, place int) api.Access) []api.Access {
	log := []api.Access{write(threads[0], 0)}
	for i, t := range threads[1:] {
		log = append(log, release(threads[i], 3*i+1), acquire(t, 3*i+1))
	}
	return append(log, write(threads[len(threads)-1], 0))
}
