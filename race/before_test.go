package race

import (
	"math"
	"slices"
	"testing"

	"mantlet/api"
)

// P24.1: the indices must be those of accesses, and the first one below the second one.
func TestIndices(t *testing.T) {
	wantPairs(t, nil)
	wantPairs(t, []api.Access{})
	wantPairs(t, make([]api.Access, 0, 9))
	wantPairs(t, []api.Access{store(0, 0)})
	wantPairs(t, append(make([]api.Access, 0, 9), store(0, 0)))
	wantPairs(t, []api.Access{store(0, 0), store(0, 0)}, [2]int{0, 1})
	log := slices.Repeat([]api.Access{store(0, 0)}, 5)
	for _, n := range append(edges(), -5, -4, -3, -2, -1, 5, 6, 7, 8, 9, 10, 64, 128) {
		for i := -2; i < 8; i++ {
			wantBefore(t, log, n, i, false)
			wantBefore(t, log, i, n, false)
			wantBefore(t, log, n, n+i, false)
		}
		wantBefore(t, nil, n, n, false)
		wantBefore(t, nil, n, 0, false)
		wantBefore(t, nil, 0, n, false)
	}
	for a := range 5 {
		for b := range 5 {
			wantBefore(t, log, a, b, a < b)
		}
	}
}

// P24.1: each kind ahead of each kind, of one thread and of two, of one place and of two.
func TestDirectly(t *testing.T) {
	for _, first := range kinds() {
		for _, second := range kinds() {
			for _, place := range []int{0, 1, 2, -1, math.MinInt, math.MaxInt} {
				for _, other := range []int{place, place + 1, place - 1, place + 3, place ^ 1<<32, place ^ math.MinInt, 7} {
					x := api.Access{Thread: 5, Kind: first, Place: place}
					y := api.Access{Thread: 3, Kind: second, Place: other}
					z := api.Access{Thread: 5, Kind: second, Place: other}
					wantBefore(t, []api.Access{x, y}, 0, 1, place == other && orders(first, second))
					wantBefore(t, []api.Access{x, z}, 0, 1, true)
					wantBefore(t, []api.Access{x, y}, 1, 0, false)
					wantBefore(t, []api.Access{x, z}, 1, 0, false)
				}
			}
		}
	}
}

// P24.1 (R1): threads of any numbers, each of which is another one.
func TestAnyThreads(t *testing.T) {
	threads := append(edges(), -128, -65, -64, -63, -2, -1, 0, 1, 2, 31, 32, 62, 63, 64, 65, 66, 127)
	for i, a := range threads {
		for j, b := range threads {
			if slices.Index(threads, a) != i || slices.Index(threads, b) != j {
				continue
			}
			wantBefore(t, []api.Access{write(a, 2), write(b, 2)}, 0, 1, i == j)
			wantBefore(t, []api.Access{write(a, 2), store(a, 0), load(b, 0), write(b, 2)}, 0, 3, true)
			wantBefore(t, []api.Access{write(a, 2), unlock(a, 0), lock(b, 0), write(b, 2)}, 0, 3, true)
			wantBefore(t, []api.Access{write(a, 2), load(a, 0), store(b, 0), write(b, 2)}, 0, 3, i == j)
		}
	}
}

// P24.1 (R1): also through more threads than there are in a world.
func TestManyThreads(t *testing.T) {
	var threads []int
	for i := range 1000 {
		threads = append(threads, (i*7%1000)-500)
	}
	log := chain(threads, unlock, lock)
	wantFind(t, log, 0, api.ErrMany)
	for i := range log {
		wantBefore(t, log, 0, i, i > 0)
		wantBefore(t, log, i, len(log)-1, i < len(log)-1)
		less := slices.Delete(slices.Clone(log), i, i+1)
		wantBefore(t, less, 0, len(less)-1, i == 0 || i == len(log)-1)
	}
}

// P24.1: all pairs of a log, and of the same accesses in another order.
func TestPairs(t *testing.T) {
	wantPairs(t, []api.Access{write(0, 2), unlock(0, 1), lock(1, 1), write(1, 2)},
		[2]int{0, 1}, [2]int{0, 2}, [2]int{0, 3}, [2]int{1, 2}, [2]int{1, 3}, [2]int{2, 3})
	wantPairs(t, []api.Access{unlock(0, 1), write(0, 2), write(1, 2), lock(1, 1)}, [2]int{0, 1}, [2]int{0, 3}, [2]int{2, 3})
	wantPairs(t, []api.Access{lock(1, 1), write(1, 2), write(0, 2), unlock(0, 1)}, [2]int{0, 1}, [2]int{2, 3})
	wantPairs(t, []api.Access{unlock(0, 1), unlock(1, 1), lock(2, 1), lock(3, 1)}, [2]int{0, 2}, [2]int{0, 3}, [2]int{1, 2}, [2]int{1, 3})
	wantPairs(t, []api.Access{store(0, 1), store(1, 1), load(2, 1), load(3, 1)},
		[2]int{0, 1}, [2]int{0, 2}, [2]int{0, 3}, [2]int{1, 2}, [2]int{1, 3})
	wantPairs(t, []api.Access{load(0, 1), store(1, 1), unlock(2, 1), load(3, 1), lock(4, 1), store(5, 1)},
		[2]int{1, 3}, [2]int{1, 5}, [2]int{2, 4})
	wantPairs(t, []api.Access{store(0, 0), load(1, 0), read(0, 2), store(1, 3), {Thread: 2, Kind: 9, Place: 3}, load(2, 3), read(1, 2), {Thread: 2}},
		[2]int{0, 1}, [2]int{0, 2}, [2]int{0, 3}, [2]int{0, 5}, [2]int{0, 6}, [2]int{0, 7},
		[2]int{1, 3}, [2]int{1, 5}, [2]int{1, 6}, [2]int{1, 7}, [2]int{3, 5}, [2]int{3, 6}, [2]int{3, 7},
		[2]int{4, 5}, [2]int{4, 7}, [2]int{5, 7})
}

// P24.1: accesses behind b, and ahead of a, make no difference.
func TestBetween(t *testing.T) {
	others := []api.Access{write(0, 2), store(0, 0), unlock(0, 1), load(1, 0), lock(1, 1), write(1, 2), unlock(1, 1), store(1, 0), lock(0, 1), load(0, 0)}
	for _, log := range [][]api.Access{
		{write(0, 2), write(1, 2)},
		{write(0, 2), store(1, 0), load(1, 0), write(1, 2)},
		{write(0, 2), unlock(0, 1), lock(2, 1), write(1, 2)},
		{write(0, 2), store(0, 0), load(1, 3), write(1, 2)},
		{write(0, 2), store(0, 0), load(1, 0), write(1, 2)},
	} {
		long := slices.Concat(others, log, others)
		for a := range log {
			for b := range log {
				wantBefore(t, long, len(others)+a, len(others)+b, Before(log, a, b))
			}
		}
	}
}
