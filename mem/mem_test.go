package mem

import (
	"math"
	"slices"
	"testing"

	"mantlet/api"
)

// The kinds of accesses, written out.
const (
	isLock   = 1
	isUnlock = 2
	isLoad   = 3
	isStore  = 4
	isRead   = 5
	isWrite  = 6
)

// topPlace is the greatest plain location, written out.
const topPlace = 1099511627776

// topWord is the greatest value of a word.
const topWord = math.MaxUint64

// edges returns the edges of int, and numbers that would be small if bits of them were lost or they were multiplied by 3.
func edges() []int {
	list := []int{math.MinInt, math.MinInt + 1, math.MinInt32, math.MaxInt32, math.MaxUint32, math.MaxInt - 1, math.MaxInt}
	for _, i := range []int{8, 14, 16, 31, 32, 40, 62} {
		list = append(list, 1<<i, 1<<i+1, -1<<i, 1-1<<i)
	}
	return append(list, math.MaxInt/3, math.MaxInt/3+1, math.MaxUint64/3, math.MaxUint64/3+1, math.MinInt/3, -math.MaxUint64/3)
}

// someThreads returns threads of all kinds.
func someThreads() []int {
	return append(edges(), -64, -3, -2, -1, 0, 1, 2, 63, 64, 65)
}

// someValues returns values of words of all kinds.
func someValues() []uint64 {
	return []uint64{0, 1, 2, 3, math.MaxUint32, 1 << 32, 1<<32 + 1, 1<<63 - 1, 1 << 63, topWord - 1, topWord}
}

// outside returns numbers of words or mutexes that are not there where n of them are.
func outside(n int) []int {
	list := []int{n, n + 1, 2*n + 1, -n, -n - 1, -1, -2, -3, 8192, 8193, 1 << 20}
	for _, i := range edges() {
		if i < 0 || i >= n {
			list = append(list, i)
		}
	}
	return slices.DeleteFunc(list, func(i int) bool { return i >= 0 && i < n })
}

// access returns one.
func access(thread, kind, place int) api.Access {
	return api.Access{Thread: thread, Kind: kind, Place: place}
}

// wantWords fails the test unless these are all words.
func wantWords(t *testing.T, m *Mem, want ...uint64) {
	t.Helper()
	if n := m.Words(); n != len(want) {
		t.Fatalf("%d words, want %d", n, len(want))
	}
	for i, w := range want {
		if got := m.Look(i); got != w {
			t.Fatalf("word %d is %d, want %d", i, got, w)
		}
	}
	for _, i := range outside(len(want)) {
		if got := m.Look(i); got != 0 {
			t.Fatalf("word %d of %d is %d", i, len(want), got)
		}
	}
}

// wantHolders fails the test unless these threads hold the mutexes; -1 stands for a free one.
func wantHolders(t *testing.T, m *Mem, want ...int) {
	t.Helper()
	for i, thread := range want {
		if got := m.Holder(i); got != thread {
			t.Fatalf("thread %d holds mutex %d, want %d", got, i, thread)
		}
	}
	for _, i := range outside(len(want)) {
		if got := m.Holder(i); got != -1 {
			t.Fatalf("thread %d holds mutex %d of %d", got, i, len(want))
		}
	}
}

// wantLog fails the test unless these are all accesses.
func wantLog(t *testing.T, m *Mem, want ...api.Access) {
	t.Helper()
	if got := m.Log(); !slices.Equal(got, want) {
		t.Fatalf("log %v, want %v", got, want)
	}
}

// wantUnlock fails the test unless Unlock answers so.
func wantUnlock(t *testing.T, m *Mem, thread, lock int, want api.Errno) {
	t.Helper()
	if got := m.Unlock(thread, lock); got != want {
		t.Fatalf("Unlock(%d, %d) = %d, want %d", thread, lock, got, want)
	}
}

// wantLock fails the test unless Lock answers so.
func wantLock(t *testing.T, m *Mem, thread, lock int, want bool) {
	t.Helper()
	if got := m.Lock(thread, lock); got != want {
		t.Fatalf("Lock(%d, %d) = %v", thread, lock, got)
	}
}

// wantSwap fails the test unless Swap answers so.
func wantSwap(t *testing.T, m *Mem, thread, word int, old, now uint64, want bool) {
	t.Helper()
	if got := m.Swap(thread, word, old, now); got != want {
		t.Fatalf("Swap(%d, %d, %d, %d) = %v", thread, word, old, now, got)
	}
}

// wantLoad fails the test unless Load answers so.
func wantLoad(t *testing.T, m *Mem, thread, word int, want uint64) {
	t.Helper()
	if got := m.Load(thread, word); got != want {
		t.Fatalf("Load(%d, %d) = %d, want %d", thread, word, got, want)
	}
}

// free returns so many -1.
func free(n int) []int {
	return slices.Repeat([]int{-1}, n)
}

// sizes returns what New may be asked for, and how many there are then.
func sizes() map[int]int {
	list := map[int]int{-1: 0, 0: 0, 1: 1, 2: 2, 3: 3, 100: 100, 4096: 4096, 8191: 8191, 8192: 8192, 8193: 8192, 8194: 8192, 16384: 8192, 16385: 8192}
	for _, n := range edges() {
		switch {
		case n < 0:
			list[n] = 0
		case n > 8192:
			list[n] = 8192
		}
	}
	return list
}

// P19.1: New for all sizes with each other: words that are 0, mutexes that are free, and none behind them.
func TestNew(t *testing.T) {
	for words, wantW := range sizes() {
		for locks, wantL := range sizes() {
			m := New(words, locks)
			wantWords(t, m, make([]uint64, wantW)...)
			wantHolders(t, m, free(wantL)...)
			wantLog(t, m)
			if wantW > 0 {
				wantSwap(t, m, 1, wantW-1, 0, 7, true)
				wantSwap(t, m, 1, wantW-1, 0, 7, false)
			}
			wantSwap(t, m, 1, wantW, 0, 7, false)
			wantSwap(t, m, 1, -1, 0, 7, false)
			if wantL > 0 {
				wantLock(t, m, 2, wantL-1, true)
				wantLock(t, m, 2, wantL-1, false)
			}
			wantLock(t, m, 2, wantL, false)
			wantLock(t, m, 2, -1, false)
		}
	}
}

// P19.1: each word and each mutex of the greatest memory is its own.
func TestNewGreatest(t *testing.T) {
	m := New(8192, 8192)
	values, holders := make([]uint64, 8192), free(8192)
	for i := range 8192 {
		wantLoad(t, m, 0, i, 0)
		wantSwap(t, m, 0, i, 0, uint64(i)*3+1, true)
		wantLock(t, m, 8191-i, i, true)
		values[i], holders[i] = uint64(i)*3+1, 8191-i
	}
	wantWords(t, m, values...)
	wantHolders(t, m, holders...)
	for i := 8191; i >= 0; i -= 2 {
		wantSwap(t, m, 0, i, uint64(i)*3+1, 2, true)
		wantUnlock(t, m, 8191-i, i, api.OK)
		values[i], holders[i] = 2, -1
	}
	wantWords(t, m, values...)
	wantHolders(t, m, holders...)
}

// P19.1: More appends a word, whatever its value and however many there are.
func TestMore(t *testing.T) {
	for _, size := range [][2]int{{0, 0}, {-1, -1}, {1, 0}, {0, 1}, {2, 3}, {8191, 8191}, {8192, 8192}, {math.MaxInt, math.MaxInt}} {
		m := New(size[0], size[1])
		values := make([]uint64, min(max(size[0], 0), 8192))
		for _, v := range append(someValues(), someValues()...) {
			n := len(values)
			if got := m.More(v); got != n {
				t.Fatalf("More(%d) = %d, want %d", v, got, n)
			}
			values = append(values, v)
			wantWords(t, m, values...)
		}
		wantHolders(t, m, free(min(max(size[1], 0), 8192))...)
		wantLog(t, m)
		for i := len(values) - 22; i < len(values); i++ {
			wantLoad(t, m, 1, i, values[i])
		}
	}
}

// P19.1: a word that More appended is one like any other.
func TestMoreChanges(t *testing.T) {
	m := New(0, 0)
	wantLoad(t, m, 1, 0, 0)
	wantSwap(t, m, 1, 0, 0, 1, false)
	for i := range 20000 {
		if got := m.More(uint64(i)); got != i {
			t.Fatalf("More = %d, want %d", got, i)
		}
	}
	values := make([]uint64, 20000)
	var log []api.Access
	for i := range values {
		values[i] = uint64(20000 - i)
		wantSwap(t, m, i, i, uint64(i), values[i], true)
		log = append(log, access(i, isStore, 3*i))
	}
	wantWords(t, m, values...)
	wantLog(t, m, log...)
	wantSwap(t, m, 1, 20000, 0, 0, false)
}

// P19.1: Load and Look of words that are there and of such that are not.
func TestLoad(t *testing.T) {
	for _, n := range []int{0, 1, 2, 8191, 8192} {
		m := New(n, 1)
		values := make([]uint64, n)
		for i := range n {
			values[i] = topWord - uint64(i)
			wantSwap(t, m, 0, i, 0, values[i], true)
		}
		for i, v := range values {
			wantLoad(t, m, 5, i, v)
			wantLoad(t, m, -5, i, v)
		}
		before := m.Log()
		for _, i := range outside(n) {
			wantLoad(t, m, 1, i, 0)
		}
		wantWords(t, m, values...)
		wantLog(t, m, before...)
	}
}

// P19.2: Look leaves the log as it is, also between other calls.
func TestLookLogsNothing(t *testing.T) {
	m := New(2, 0)
	wantSwap(t, m, 4, 1, 0, 9, true)
	for _, i := range append(outside(2), 0, 1, 1, 0) {
		want := uint64(0)
		if i == 1 {
			want = 9
		}
		if got := m.Look(i); got != want {
			t.Fatalf("Look(%d) = %d, want %d", i, got, want)
		}
	}
	wantLog(t, m, access(4, isStore, 3))
	wantLoad(t, m, 4, 1, 9)
	m.Look(1)
	wantLog(t, m, access(4, isStore, 3), access(4, isLoad, 3))
}

// P19.1: Swap for all values with each other: what the word is, what is asked for, and what it becomes.
func TestSwap(t *testing.T) {
	for _, is := range someValues() {
		for _, old := range someValues() {
			for _, now := range someValues() {
				m := New(1, 1)
				m.More(is)
				m.More(is)
				if is != old {
					wantSwap(t, m, 1, 1, old, now, false)
					wantWords(t, m, 0, is, is)
					wantLog(t, m, access(1, isLoad, 3))
					continue
				}
				wantSwap(t, m, 1, 1, old, now, true)
				wantWords(t, m, 0, now, is)
				wantLog(t, m, access(1, isStore, 3))
				wantHolders(t, m, -1)
			}
		}
	}
}

// P19.1: Swap of a word that is not there, whatever the values.
func TestSwapNone(t *testing.T) {
	for _, n := range []int{0, 1, 2, 8191, 8192} {
		m := New(n, 1)
		for _, i := range outside(n) {
			for _, old := range []uint64{0, 1, topWord} {
				wantSwap(t, m, 1, i, old, 0, false)
				wantSwap(t, m, 0, i, old, old, false)
				wantSwap(t, m, -1, i, old, 5, false)
			}
		}
		wantWords(t, m, make([]uint64, n)...)
		wantLog(t, m)
	}
}

// P19.1: Swap where the new value is the old one is successful, as often as it is called.
func TestSwapToItself(t *testing.T) {
	for _, v := range someValues() {
		m := New(0, 0)
		m.More(v)
		wantSwap(t, m, 1, 0, v, v, true)
		wantSwap(t, m, 2, 0, v, v, true)
		wantSwap(t, m, 3, 0, v+1, v+1, false)
		wantWords(t, m, v)
		wantLog(t, m, access(1, isStore, 0), access(2, isStore, 0), access(3, isLoad, 0))
	}
}

// The chapter's example.
func TestExample(t *testing.T) {
	m := New(1, 0)
	wantSwap(t, m, 7, 0, 0, 5, true)
	wantSwap(t, m, 7, 0, 0, 5, false)
	wantWords(t, m, 5)
	wantLog(t, m, access(7, isStore, 0), access(7, isLoad, 0))
}

// Beyond the document: a memory that New did not make has nothing.
func TestZero(t *testing.T) {
	m := new(Mem)
	wantWords(t, m)
	wantHolders(t, m)
	wantLock(t, m, 0, 0, false)
	wantUnlock(t, m, 0, 0, api.ErrNone)
	if n := m.More(3); n != 0 {
		t.Fatalf("More = %d", n)
	}
	wantWords(t, m, 3)
}
