package race

import (
	"math"
	"slices"
	"testing"

	"mantlet/api"
)

// The chapter's example.
func TestExample(t *testing.T) {
	wantRace(t, write(0, 2), write(1, 2))
	wantNone(t, write(0, 2), unlock(0, 1), lock(1, 1), write(1, 2))
	wantRace(t, unlock(0, 1), write(0, 2), lock(1, 1), write(1, 2))
	wantRace(t, write(0, 2), unlock(0, 1), lock(1, 4), write(1, 2))
	wantFind(t, []api.Access{write(0, 2), unlock(0, 1), write(1, 2), lock(1, 1)}, 2, api.ErrRace)
}

// P24.1: without accesses, or with one, or by one thread only, there is no race.
func TestNoRace(t *testing.T) {
	wantNone(t)
	wantNone(t, []api.Access{}...)
	wantNone(t, make([]api.Access, 0, 5)...)
	for _, thread := range []int{0, 1, 31, 32, 62, 63} {
		var log []api.Access
		for _, kind := range slices.Concat(kinds(), kinds()) {
			x := api.Access{Thread: thread, Kind: kind, Place: 2}
			wantNone(t, x)
			log = append(log, x)
		}
		wantNone(t, log...)
	}
}

// P24.1: threads that are not from 0 to 63, wherever, of whatever kind, and whatever else races.
func TestErrMany(t *testing.T) {
	for _, log := range [][]api.Access{
		{write(0, 2)},
		{write(0, 2), write(1, 2), write(2, 2)},
		{write(0, 2), unlock(0, 1), lock(1, 1), write(1, 2), {}},
	} {
		for i := range log {
			for _, thread := range append(edges(), -64, -63, -2, -1, 64, 65, 66, 127, 128) {
				for _, kind := range []int{-1, 0, isLock, isUnlock, isLoad, isStore, isRead, isWrite, 7} {
					bad := slices.Clone(log)
					bad[i] = api.Access{Thread: thread, Kind: kind, Place: log[i].Place}
					wantFind(t, bad, 0, api.ErrMany)
					wantFind(t, append(bad, bad[i]), 0, api.ErrMany)
				}
			}
		}
	}
}

// P24.1: all threads from 0 to 63 are different ones.
func TestThreads(t *testing.T) {
	for a := range 64 {
		for b := range 64 {
			log := []api.Access{write(a, 2), write(b, 2)}
			if a == b {
				wantNone(t, log...)
				continue
			}
			wantRace(t, log...)
			wantRace(t, read(a, 2), write(b, 2))
			wantRace(t, write(a, 2), read(b, 2))
			wantNone(t, write(a, 2), store(a, 0), load(b, 0), write(b, 2))
			wantRace(t, write(a, 2), store(a, 0), load((b+1)%64, 3), write(b, 2))
		}
	}
}

// P24.1: which kinds race: each one with each other one.
func TestKinds(t *testing.T) {
	for _, first := range kinds() {
		for _, second := range kinds() {
			x, y := api.Access{Thread: 5, Kind: first, Place: 2}, api.Access{Thread: 3, Kind: second, Place: 2}
			plain := (first == isRead || first == isWrite) && (second == isRead || second == isWrite)
			if plain && (first == isWrite || second == isWrite) {
				wantRace(t, x, y)
			} else {
				wantNone(t, x, y)
			}
		}
	}
}

// P24.1: accesses of different places do not race and order nothing, however similar the places are.
func TestPlaces(t *testing.T) {
	places := append(edges(), -3, -2, -1, 0, 1, 2, 3, 4, 5)
	for _, p := range places {
		wantRace(t, write(0, p), write(1, p))
		wantRace(t, write(0, p), read(1, p))
		wantRace(t, read(0, p), write(1, p))
		wantNone(t, write(0, p), store(0, p), load(1, p), write(1, p))
		wantNone(t, write(0, p), unlock(0, p), lock(1, p), write(1, p))
		for _, q := range places {
			if p == q {
				continue
			}
			wantNone(t, write(0, p), write(1, q))
			wantNone(t, read(0, p), write(0, q), read(1, p), read(2, p))
			wantRace(t, write(0, p), store(0, p), load(1, q), write(1, p))
			wantRace(t, write(0, p), unlock(0, p), lock(1, q), write(1, p))
		}
	}
}

// orders reports whether an access of the first kind comes ahead of one of the second kind by another thread, if the place is the same.
func orders(first, second int) bool {
	return first == isUnlock && second == isLock || first == isStore && (second == isStore || second == isLoad)
}

// P24.1: what orders two writes: each kind ahead of each kind, of one place or of two.
func TestWhatOrders(t *testing.T) {
	for _, first := range kinds() {
		for _, second := range kinds() {
			for _, places := range [][2]int{{0, 0}, {1, 1}, {5, 5}, {-1, -1}, {math.MaxInt, math.MaxInt}, {0, 1}, {1, 0}, {3, 0}, {1, 1 + 1<<32}, {math.MinInt, 0}} {
				x := api.Access{Thread: 5, Kind: first, Place: places[0]}
				y := api.Access{Thread: 3, Kind: second, Place: places[1]}
				switch same := places[0] == places[1]; {
				case same && conflict(x, y):
					wantFind(t, []api.Access{write(5, 2), x, y, write(3, 2)}, 2, api.ErrRace)
				case same && orders(first, second):
					wantNone(t, write(5, 2), x, y, write(3, 2))
				default:
					wantRace(t, write(5, 2), x, y, write(3, 2))
				}
			}
		}
	}
}

// P24.1: an order needs the release behind the first access and the acquisition behind the release and ahead of the second access.
func TestWhereItOrders(t *testing.T) {
	for _, x := range []struct {
		release, acquire func(thread, place int) api.Access
	}{{unlock, lock}, {store, load}, {store, store}} {
		wantNone(t, write(0, 2), x.release(0, 1), x.acquire(1, 1), write(1, 2))
		wantNone(t, write(0, 2), read(0, 5), x.release(0, 1), x.release(0, 4), read(0, 5), x.acquire(1, 1), read(1, 5), read(1, 2), write(1, 2))
		wantRace(t, x.release(0, 1), write(0, 2), x.acquire(1, 1), write(1, 2))
		wantRace(t, x.release(0, 1), x.acquire(1, 1), write(0, 2), write(1, 2))
		wantRace(t, write(0, 2), x.acquire(1, 1), x.release(0, 1), write(1, 2))
		wantRace(t, write(0, 2), x.release(0, 1), x.acquire(2, 1), write(1, 2))
		wantRace(t, write(0, 2), x.release(3, 1), x.acquire(1, 1), write(1, 2))
		wantFind(t, []api.Access{write(0, 2), x.release(0, 1), write(1, 2), x.acquire(1, 1)}, 2, api.ErrRace)
	}
}

// P24.1: a MemLock comes behind all earlier MemUnlocks, but these do not come one behind the other.
func TestUnlocksAddUp(t *testing.T) {
	var log, after []api.Access
	for thread := range 63 {
		log = append(log, write(thread, 10+thread), unlock(thread, 1))
		after = append(after, write(63, 10+thread))
	}
	wantNone(t, slices.Concat(log, []api.Access{lock(63, 1)}, after)...)
	for thread := range 63 {
		less := slices.Concat(log[:2*thread+1], log[2*thread+2:], []api.Access{lock(63, 1)}, after[:thread+1])
		wantRace(t, less...)
		if thread > 0 {
			wantRace(t, append(slices.Clip(log[:2*thread]), unlock(thread, 1), write(thread, 10+thread-1))...)
		}
	}
	wantNone(t, write(0, 2), unlock(0, 1), lock(1, 1), unlock(2, 1), lock(3, 1), write(3, 2))
	wantNone(t, write(0, 2), unlock(0, 1), write(0, 5), unlock(0, 1), unlock(1, 1), unlock(2, 1), lock(3, 1), write(3, 2), write(3, 5))
	wantRace(t, write(0, 2), unlock(0, 1), write(0, 5), unlock(1, 1), unlock(2, 1), lock(3, 1), write(3, 2), write(3, 5))
}

// P24.1: each MemStore comes behind the earlier ones, but not behind what their threads do later.
func TestStoresAddUp(t *testing.T) {
	var log []api.Access
	for thread := range 63 {
		log = append(log, write(thread, 10+thread), store(thread, 0))
		after := slices.Clone(log)
		for other := range thread {
			after = append(after, write(thread, 10+other))
		}
		wantNone(t, after...)
		wantNone(t, append(slices.Clip(log), load(63, 0), write(63, 10), write(63, 10+thread))...)
		wantRace(t, append(slices.Clip(log), write(63, 10))...)
		wantRace(t, append(slices.Clip(log), write(thread, 10), load(63, 0), write(63, 10))...)
		if thread > 0 {
			wantRace(t, append(slices.Clip(log[:2*thread]), write(thread, 10))...)
		}
	}
}

// P24.1: who acquires passes on nothing, unless it releases, and then all that it knows.
func TestPassingOn(t *testing.T) {
	wantNone(t, write(0, 2), store(0, 0), load(1, 0), load(2, 0), write(2, 2))
	wantRace(t, write(1, 5), store(0, 0), load(1, 0), load(2, 0), write(2, 5))
	wantNone(t, write(0, 2), unlock(0, 1), lock(1, 1), lock(2, 1), write(2, 2))
	wantRace(t, write(1, 5), unlock(0, 1), lock(1, 1), lock(2, 1), write(2, 5))
	wantNone(t, write(0, 2), unlock(0, 1), lock(1, 1), unlock(1, 4), lock(2, 4), write(2, 2))
	wantNone(t, write(0, 2), unlock(0, 1), lock(1, 1), store(1, 0), load(2, 0), write(2, 2))
	wantNone(t, write(0, 2), store(0, 0), load(1, 0), unlock(1, 1), lock(2, 1), write(2, 2))
	wantNone(t, write(0, 2), store(0, 0), store(1, 0), unlock(1, 1), lock(2, 1), write(2, 2))
	wantRace(t, write(0, 2), store(0, 0), unlock(1, 1), load(1, 0), lock(2, 1), write(2, 2))
	wantRace(t, write(0, 2), unlock(0, 1), store(1, 0), lock(1, 1), load(2, 0), write(2, 2))
}

// P24.1: what is known stays known, and what comes behind a release is not known.
func TestKnown(t *testing.T) {
	wantRace(t, write(0, 2), store(0, 0), write(0, 2), load(1, 0), read(1, 2))
	wantRace(t, write(0, 2), store(0, 0), read(0, 2), load(1, 0), write(1, 2))
	wantNone(t, write(0, 2), store(0, 0), read(0, 2), load(1, 0), read(1, 2))
	wantRace(t, write(0, 2), store(0, 0), write(0, 5), store(0, 3), load(1, 0), read(1, 5))
	wantNone(t, write(0, 2), store(0, 0), write(0, 5), store(0, 3), load(1, 3), read(1, 2), read(1, 5))
	wantNone(t, write(0, 2), store(0, 0), write(0, 5), store(0, 3), load(1, 3), load(1, 0), read(1, 2), read(1, 5))
	wantNone(t, write(0, 2), unlock(0, 1), write(0, 5), unlock(0, 4), lock(1, 4), lock(1, 1), read(1, 2), read(1, 5))
	wantNone(t, write(0, 2), store(0, 0), load(1, 0), load(1, 6), lock(1, 1), store(1, 9), unlock(1, 4), read(1, 8), write(1, 2))
	wantNone(t, write(0, 2), store(0, 0), load(1, 0), write(1, 2), write(1, 2), read(1, 2), write(1, 2))
	wantRace(t, write(0, 2), store(0, 0), load(1, 0), write(1, 2), write(0, 2))
	wantRace(t, write(0, 2), store(0, 0), load(1, 0), read(1, 2), write(0, 2))
	wantNone(t, write(0, 2), store(0, 0), load(1, 0), read(1, 2), store(1, 3), read(0, 2), load(0, 3), write(0, 2))
}

// P24.1: an access must come behind those of all other threads, not only behind the last one.
func TestAllOthers(t *testing.T) {
	for missing := range 64 {
		var log []api.Access
		for thread := range 63 {
			log = append(log, read(thread, 2), read(thread, 5))
			if thread != missing {
				log = append(log, unlock(thread, 1))
			}
		}
		log = append(log, lock(63, 1), read(63, 2), write(63, 2))
		if missing == 63 {
			wantNone(t, log...)
		} else {
			wantRace(t, log...)
		}
	}
	wantRace(t, read(0, 2), write(0, 5), read(1, 2), store(1, 0), load(2, 0), write(2, 2))
	wantRace(t, read(1, 2), store(1, 0), read(0, 2), load(2, 0), write(2, 2))
	wantNone(t, write(0, 2), store(0, 0), load(1, 0), write(1, 2), store(1, 3), load(2, 3), write(2, 2))
	wantRace(t, write(0, 2), store(0, 0), load(1, 0), write(1, 2), store(1, 3), load(2, 0), write(2, 2))
	wantRace(t, write(0, 2), store(0, 0), load(1, 0), write(1, 2), store(1, 3), load(2, 0), read(2, 2))
	wantRace(t, write(0, 2), store(0, 0), load(1, 0), read(1, 2), store(1, 3), load(2, 0), write(2, 2))
	wantNone(t, write(0, 2), store(0, 0), load(1, 0), read(1, 2), store(1, 3), load(2, 0), read(2, 2))
}

// someThreads returns all threads, in some order.
func someThreads(step int) []int {
	var list []int
	for i := range 64 {
		list = append(list, (i*step+5)%64)
	}
	return list
}

// P24.1: happens before is transitive, through all threads and all kinds; it ends where anything is missing.
func TestChain(t *testing.T) {
	for _, step := range []int{1, 63, 11, 37} {
		for _, log := range [][]api.Access{
			chain(someThreads(step), unlock, lock),
			chain(someThreads(step), store, load),
			chain(someThreads(step), store, store),
		} {
			wantNone(t, log...)
			wantBefore(t, log, 0, len(log)-1, true)
			for i := range log {
				less := slices.Delete(slices.Clone(log), i, i+1)
				if i == 0 || i == len(log)-1 {
					wantNone(t, less...)
					continue
				}
				wantRace(t, less...)
				wantBefore(t, less, 0, len(less)-1, false)
			}
		}
	}
}

// P24.1: the smallest index, whatever else races and whatever comes behind it.
func TestSmallest(t *testing.T) {
	log := []api.Access{
		write(0, 2), read(0, 5), read(1, 5), write(2, 8), store(0, 0), load(1, 0), read(1, 2),
		write(3, 5), // races with both reads
		write(3, 2), read(3, 8), write(0, 5), write(1, 2), write(2, 2),
	}
	for n := range log {
		if n <= 7 {
			wantNone(t, log[:n]...)
		}
		if n >= 7 {
			wantFind(t, log[:n+1], 7, api.ErrRace)
			wantFind(t, append(slices.Clip(log[:n+1]), log...), 7, api.ErrRace)
		}
	}
	wantFind(t, []api.Access{write(0, 2), write(1, 5), write(0, 5), write(1, 2)}, 2, api.ErrRace)
	wantFind(t, []api.Access{write(0, 2), write(1, 5), write(1, 2), write(0, 5)}, 2, api.ErrRace)
	wantFind(t, []api.Access{write(0, 2), write(0, 2), write(0, 2), read(1, 2), write(1, 2)}, 3, api.ErrRace)
}

// longLog returns a log in which all threads write to a place by turns, each one with the mutex, between many accesses of other places.
func longLog(turns int) []api.Access {
	var log []api.Access
	for i := range turns {
		thread := i * 37 % 64
		log = append(log, lock(thread, 1), write(thread, 2), load(thread, 3*i), unlock(thread, 1), store(thread, 3*i), read(thread, 3*i+5))
	}
	return log
}

// P24.1: a long log.
func TestLong(t *testing.T) {
	const turns = 20000
	log := longLog(turns)
	wantNone(t, log...)
	wantBefore(t, log, 1, len(log)-5, true)
	wantBefore(t, log, 1, len(log)-1, true)
	wantBefore(t, log, 5, len(log)-7, true)
	wantRace(t, append(slices.Clip(log), read(6, 2))...)
	wantNone(t, append(slices.Clip(log), store(6, 3*turns-3), read(6, 2), write(6, 2))...)
	log[6*turns-6].Place = 4 // another mutex
	wantFind(t, log, 6*turns-5, api.ErrRace)
	wantBefore(t, log, 6*turns-9, 6*turns-5, false)
	wantBefore(t, log, 1, 6*turns-5, true) // as its thread has had the mutex before
}
