package table

import (
	"math"
	"testing"

	"mantlet/api"
	"mantlet/mem"
)

// wantMisuse fails the test unless every method refuses the thread the flow's stripe, and does nothing else.
func wantMisuse(t *testing.T, x *Table, m *mem.Mem, thread int, k api.Key, stripe int) {
	t.Helper()
	n, all := len(m.Log()), x.All()
	wantNone(t, x, thread, k, api.ErrMisuse)
	wantPut(t, x, thread, k, 1234567, true, api.ErrMisuse)
	wantRemove(t, x, thread, k, api.ErrMisuse)
	wantNoKeys(t, x, thread, stripe, api.ErrMisuse)
	wantSince(t, m, n)
	wantAll(t, x, all...)
}

// P20.1: no thread may access a stripe whose mutex is free, whether the flow is there or not.
func TestMisuseFree(t *testing.T) {
	for _, stripes := range []int{1, 2, 64, 4096} {
		m := mem.New(3, stripes)
		x := New(m, stripes)
		k := someKey(5)
		s := stripeNumber(k, stripes)
		for _, thread := range someThreads() {
			wantMisuse(t, x, m, thread, k, s)
		}
		lock(t, m, 1, s)
		wantPut(t, x, 1, k, 6, false, api.OK)
		unlock(t, m, 1, s)
		for _, thread := range someThreads() {
			wantMisuse(t, x, m, thread, k, s)
		}
		lock(t, m, 1, s)
		wantFind(t, x, 1, k, 6, false)
	}
}

// P20.1: a stripe whose mutex another thread holds.
func TestMisuseHeld(t *testing.T) {
	for _, holder := range someThreads() {
		if holder < 0 {
			continue
		}
		m := mem.New(0, 4)
		x := New(m, 4)
		k := someKey(5)
		s := stripeNumber(k, 4)
		lock(t, m, holder, s)
		for _, thread := range append(someThreads(), -holder, -holder-1, ^holder, holder^1<<32, holder^math.MinInt) {
			if thread != holder {
				wantMisuse(t, x, m, thread, k, s)
			}
		}
		wantPut(t, x, holder, k, 6, false, api.OK)
		for _, thread := range someThreads() {
			if thread != holder {
				wantMisuse(t, x, m, thread, k, s)
			}
		}
		wantFind(t, x, holder, k, 6, false)
		unlock(t, m, holder, s)
		wantMisuse(t, x, m, holder, k, s)
	}
}

// P20.1: the mutex of each other stripe does not help, nor one that is no stripe's.
func TestMisuseOther(t *testing.T) {
	for _, stripes := range []int{2, 4, 32} {
		for s := range stripes {
			m := mem.New(0, stripes+2)
			x := New(m, stripes)
			k := keysIn(stripes, s, 1)[0]
			for n := range stripes + 2 {
				if n != s {
					lock(t, m, 3, n)
				}
			}
			wantMisuse(t, x, m, 3, k, s)
			lock(t, m, 4, s)
			wantMisuse(t, x, m, 3, k, s)
			for n := range stripes {
				if n != s {
					wantMisuse(t, x, m, 4, keysIn(stripes, n, 1)[0], n)
				}
			}
			wantPut(t, x, 4, k, s, true, api.OK)
			wantMisuse(t, x, m, 3, k, s)
			wantFind(t, x, 4, k, s, true)
		}
	}
}

// P20.1: stripes for which the memory has no mutexes are there, but no thread holds one.
func TestMisuseNoMutex(t *testing.T) {
	for _, locks := range []int{-1, 0, 1, 3, 63, 64} {
		m := mem.New(0, locks)
		x := New(m, 64)
		lockAll(t, m, max(locks, 0), 2)
		var want []api.Key
		for s := range 64 {
			k := keysIn(64, s, 1)[0]
			if s >= locks {
				for _, thread := range someThreads() {
					wantMisuse(t, x, m, thread, k, s)
				}
				continue
			}
			wantPut(t, x, 2, k, s, false, api.OK)
			wantKeys(t, x, 2, s, k)
			want = append(want, k)
		}
		wantNoKeys(t, x, 2, 64, api.ErrArg)
		wantAll(t, x, ordered(want...)...)
	}
}

// P20.2: Keys of a stripe that is not there is ErrArg, whichever mutexes the thread holds, and does nothing else.
func TestNoStripe(t *testing.T) {
	for _, stripes := range []int{1, 2, 4, 4096} {
		m := mem.New(0, 8192)
		x := New(m, stripes)
		for _, held := range []bool{false, true} {
			if held {
				lockAll(t, m, 8192, 1)
				wantPut(t, x, 1, someKey(1), 6, false, api.OK)
			}
			n := len(m.Log())
			for _, s := range append(edges(), -stripes-1, -stripes, -stripes+1, -2, -1, stripes, stripes+1, 2*stripes, 4096, 8191, 8192) {
				if s >= 0 && s < stripes {
					continue
				}
				for _, thread := range []int{math.MinInt, -1, 0, 1, 2, math.MaxInt} {
					wantNoKeys(t, x, thread, s, api.ErrArg)
				}
			}
			wantSince(t, m, n)
		}
		wantAll(t, x, someKey(1))
	}
}

// P20.1: two tables on one memory have the mutexes and locations in common, and no flows.
func TestTwoTables(t *testing.T) {
	m := mem.New(0, 4)
	a, b := New(m, 2), New(m, 4)
	k := keysIn(4, 3, 1)[0]
	lock(t, m, 1, 3)
	wantMisuse(t, a, m, 1, k, 1)
	wantPut(t, b, 1, k, 6, true, api.OK)
	wantAll(t, a)
	lock(t, m, 1, 1)
	n := len(m.Log())
	wantNone(t, a, 1, k, api.OK)
	wantPut(t, a, 1, k, 7, false, api.OK)
	wantFind(t, b, 1, k, 6, true)
	wantRemove(t, b, 1, k, api.OK)
	wantFind(t, a, 1, k, 7, false)
	wantAll(t, a, k)
	wantAll(t, b)
	wantSince(t, m, n,
		access(1, isRead, 5), access(1, isWrite, 5), access(1, isRead, 11), access(1, isWrite, 11), access(1, isRead, 5))
}

// P20.1: a mutex of one memory is none of another memory's table.
func TestTwoMemories(t *testing.T) {
	m, other := mem.New(0, 1), mem.New(0, 1)
	x, y := New(m, 1), New(other, 1)
	k := someKey(3)
	lock(t, other, 1, 0)
	wantMisuse(t, x, m, 1, k, 0)
	wantPut(t, y, 1, k, 6, true, api.OK)
	wantAll(t, x)
	lock(t, m, 1, 0)
	wantNone(t, x, 1, k, api.OK)
	wantAll(t, y, k)
	wantSince(t, m, 0, access(1, isLock, 1), access(1, isRead, 2))
	wantSince(t, other, 0, access(1, isLock, 1), access(1, isWrite, 2))
}
