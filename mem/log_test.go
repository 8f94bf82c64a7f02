package mem

import (
	"math"
	"slices"
	"testing"

	"mantlet/api"
)

// P19.2: the log behind each kind of call, with thread, kind and place.
func TestLogEach(t *testing.T) {
	m := New(3, 3)
	m.More(9)
	var want []api.Access
	for i, x := range []struct {
		do   func()
		logs []api.Access
	}{
		{func() { m.Load(11, 0) }, []api.Access{access(11, isLoad, 0)}},
		{func() { m.Load(12, 3) }, []api.Access{access(12, isLoad, 9)}},
		{func() { m.Load(13, 4) }, nil},
		{func() { m.Load(13, -1) }, nil},
		{func() { m.Swap(14, 2, 0, 5) }, []api.Access{access(14, isStore, 6)}},
		{func() { m.Swap(15, 2, 0, 5) }, []api.Access{access(15, isLoad, 6)}},
		{func() { m.Swap(16, 3, 9, 9) }, []api.Access{access(16, isStore, 9)}},
		{func() { m.Swap(17, 4, 0, 0) }, nil},
		{func() { m.Swap(17, -1, 0, 0) }, nil},
		{func() { m.Lock(18, 2) }, []api.Access{access(18, isLock, 7)}},
		{func() { m.Lock(18, 2) }, nil},
		{func() { m.Lock(19, 2) }, nil},
		{func() { m.Lock(19, 3) }, nil},
		{func() { m.Lock(-1, 1) }, nil},
		{func() { m.Unlock(19, 2) }, nil},
		{func() { m.Unlock(18, 3) }, nil},
		{func() { m.Unlock(18, 1) }, nil},
		{func() { m.Unlock(-1, 1) }, nil},
		{func() { m.Unlock(18, 2) }, []api.Access{access(18, isUnlock, 7)}},
		{func() { m.Unlock(18, 2) }, nil},
		{func() { m.Lock(20, 0) }, []api.Access{access(20, isLock, 1)}},
		{func() { m.Read(21, 0) }, []api.Access{access(21, isRead, 2)}},
		{func() { m.Write(22, 7) }, []api.Access{access(22, isWrite, 23)}},
		{func() { m.Read(23, -1) }, nil},
		{func() { m.Write(23, -1) }, nil},
		{func() { m.More(1) }, nil},
		{func() { m.Look(0) }, nil},
		{func() { m.Holder(0) }, nil},
		{func() { m.Words() }, nil},
		{func() { m.Log() }, nil},
		{func() { m.Load(24, 4) }, []api.Access{access(24, isLoad, 12)}},
	} {
		x.do()
		want = append(want, x.logs...)
		if got := m.Log(); !slices.Equal(got, want) {
			t.Fatalf("behind call %d: %v, want %v", i, got, want)
		}
	}
}

// P19.2: words, mutexes and plain locations of the same number have different places.
func TestLogPlaces(t *testing.T) {
	m := New(8192, 8192)
	var want []api.Access
	for n := range 8192 {
		m.Load(n, n)
		m.Swap(n+1, n, 0, 1)
		m.Swap(n+2, n, 0, 1)
		m.Lock(n+3, n)
		m.Unlock(n+3, n)
		m.Read(n+4, n)
		m.Write(n+5, n)
		want = append(want,
			access(n, isLoad, 3*n), access(n+1, isStore, 3*n), access(n+2, isLoad, 3*n), access(n+3, isLock, 3*n+1),
			access(n+3, isUnlock, 3*n+1), access(n+4, isRead, 3*n+2), access(n+5, isWrite, 3*n+2))
	}
	wantLog(t, m, want...)
}

// P19.2: Read and Write of all plain locations, at their edges.
func TestPlainPlaces(t *testing.T) {
	for _, x := range []struct {
		place int
		want  int // below 0: none
	}{
		{0, 2}, {1, 5}, {2, 8}, {4096, 12290}, {8191, 24575}, {8192, 24578}, {8193, 24581}, {math.MaxInt32, 6442450943},
		{math.MaxUint32, 12884901887}, {1 << 32, 12884901890}, {topPlace / 3, 1099511627777},
		{topPlace - 1, 3298534883327}, {topPlace, 3298534883330}, {topPlace + 1, -1}, {topPlace + 2, -1}, {2 * topPlace, -1},
		{-1, -1}, {-2, -1}, {-3, -1}, {-topPlace, -1}, {-topPlace - 1, -1}, {1 << 41, -1}, {1 << 62, -1}, {-1 << 62, -1},
		{math.MaxInt32 * topPlace / 1024, -1}, {math.MinInt, -1}, {math.MinInt + 1, -1}, {math.MaxInt - 1, -1}, {math.MaxInt, -1},
	} {
		for _, size := range [][2]int{{0, 0}, {2, 2}} {
			m := New(size[0], size[1])
			m.Read(3, x.place)
			m.Write(4, x.place)
			m.Read(3, x.place)
			if x.want < 0 {
				wantLog(t, m)
				continue
			}
			wantLog(t, m, access(3, isRead, x.want), access(4, isWrite, x.want), access(3, isRead, x.want))
			wantWords(t, m, make([]uint64, size[0])...)
			wantHolders(t, m, free(size[1])...)
		}
	}
	for _, place := range edges() {
		m := New(1, 1)
		m.Read(0, place)
		m.Write(0, place)
		if place < 0 || place > topPlace {
			wantLog(t, m)
		} else {
			wantLog(t, m, access(0, isRead, 3*place+2), access(0, isWrite, 3*place+2))
		}
	}
}

// P19.2: Read and Write ask for no mutex, and the holder of one is not told apart.
func TestPlainWithoutMutex(t *testing.T) {
	m := New(0, 1)
	wantLock(t, m, 1, 0, true)
	m.Write(2, 0)
	m.Read(1, 0)
	wantHolders(t, m, 1)
	wantLog(t, m, access(1, isLock, 1), access(2, isWrite, 2), access(1, isRead, 2))
}

// fill makes one access of each kind.
func fill(m *Mem) {
	m.Load(1, 0)
	m.Swap(2, 0, m.Look(0), 5)
	m.Lock(3, 0)
	m.Unlock(3, 0)
	m.Read(4, 1)
	m.Write(5, 1)
}

// filled returns what fill logs.
func filled() []api.Access {
	return []api.Access{
		access(1, isLoad, 0), access(2, isStore, 0), access(3, isLock, 1), access(3, isUnlock, 1), access(4, isRead, 5), access(5, isWrite, 5),
	}
}

// P19.2, R4: Log is a new list each time: what is written into it or behind it changes nothing.
func TestLogIsNew(t *testing.T) {
	m := New(1, 1)
	for round := 1; round <= 20; round++ {
		fill(m)
		want := slices.Repeat(filled(), round)
		one, two := m.Log(), m.Log()
		for i := range one {
			one[i] = access(-9, -9, -9)
		}
		one = one[:cap(one)]
		for i := range one {
			one[i] = access(-8, -8, -8)
		}
		if !slices.Equal(two, want) {
			t.Fatalf("round %d: the other list is %v", round, two)
		}
		wantLog(t, m, want...)
		_ = append(two[:1], access(-7, -7, -7))
		wantLog(t, m, want...)
	}
}

// P19.2, R4: a list that Log returned earlier stays as it was, with its spare capacity.
func TestLogStays(t *testing.T) {
	m := New(1, 1)
	var lists [][]api.Access
	for range 100 {
		lists = append(lists, m.Log())
		fill(m)
	}
	for i, list := range lists {
		if !slices.Equal(list, slices.Repeat(filled(), i)) {
			t.Fatalf("list %d became %v", i, list)
		}
		mark := access(i, i, i)
		list = append(list, mark)
		fill(m)
		m.Log()
		if list[len(list)-1] != mark {
			t.Fatalf("what was appended to list %d became %v", i, list[len(list)-1])
		}
	}
	wantLog(t, m, slices.Repeat(filled(), 200)...)
}

// P19.2: the log of a new memory is empty, and remains so where nothing is done.
func TestLogEmpty(t *testing.T) {
	for _, m := range []*Mem{New(0, 0), New(3, 3), New(-1, 8193)} {
		wantLog(t, m)
		m.More(3)
		wantLog(t, m)
	}
}

// R4, R5: two memories share nothing.
func TestTwo(t *testing.T) {
	a, b := New(2, 2), New(2, 2)
	wantSwap(t, a, 1, 0, 0, 5, true)
	wantLock(t, a, 1, 0, true)
	a.Write(1, 0)
	wantWords(t, b, 0, 0)
	wantHolders(t, b, -1, -1)
	wantLog(t, b)
	wantSwap(t, b, 2, 0, 0, 6, true)
	wantLock(t, b, 2, 0, true)
	wantUnlock(t, a, 2, 0, api.ErrMisuse)
	wantUnlock(t, b, 1, 0, api.ErrMisuse)
	b.More(7)
	a.More(8)
	a.More(9)
	b.Read(2, 5)
	wantUnlock(t, a, 1, 0, api.OK)
	wantWords(t, a, 5, 0, 8, 9)
	wantWords(t, b, 6, 0, 7)
	wantHolders(t, a, -1, -1)
	wantHolders(t, b, 2, -1)
	wantLog(t, a, access(1, isStore, 0), access(1, isLock, 1), access(1, isWrite, 2), access(1, isUnlock, 1))
	wantLog(t, b, access(2, isStore, 0), access(2, isLock, 1), access(2, isRead, 17))
	wantWords(t, New(2, 2), 0, 0)
	wantLog(t, New(2, 2))
}
