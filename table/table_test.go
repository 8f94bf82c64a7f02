package table

import (
	"hash/fnv"
	"math"
	"slices"
	"testing"

	"mantlet/api"
	"mantlet/mem"
)

// The kinds of accesses, written out.
const (
	isLock   = 1
	isUnlock = 2
	isRead   = 5
	isWrite  = 6
)

// edges returns the edges of int, and numbers that would be small if bits of them were lost.
func edges() []int {
	list := []int{math.MinInt, math.MinInt + 1, math.MinInt32, math.MaxInt32, math.MaxUint32, math.MaxInt - 1, math.MaxInt}
	for _, i := range []int{8, 14, 16, 31, 32, 40, 62} {
		list = append(list, 1<<i, 1<<i+1, -1<<i, 1-1<<i)
	}
	return list
}

// someThreads returns threads of all kinds.
func someThreads() []int {
	return append(edges(), -64, -3, -2, -1, 0, 1, 2, 63, 64, 65)
}

// someSizes returns all numbers of stripes that there may be.
func someSizes() []int {
	return []int{1, 2, 4, 8, 16, 32, 64, 128, 256, 512, 1024, 2048, 4096}
}

// bytesOf returns the bytes of a key that its hash goes by.
func bytesOf(k api.Key) []byte {
	list := []byte{k.Proto}
	for i := range 2 {
		a, p := k.Addr[i], k.Port[i]
		list = append(list, byte(a>>24), byte(a>>16), byte(a>>8), byte(a), byte(p>>8), byte(p))
	}
	return list
}

// stripeNumber returns the stripe of a key, by the library's hash.
func stripeNumber(k api.Key, stripes int) int {
	h := fnv.New32a()
	h.Write(bytesOf(k))
	return int(h.Sum32()) % stripes
}

// compare orders keys: their bytes are in the order of the fields, most significant first.
func compare(a, b api.Key) int {
	return slices.Compare(bytesOf(a), bytesOf(b))
}

// ordered returns the keys in order.
func ordered(keys ...api.Key) []api.Key {
	list := slices.Clone(keys)
	slices.SortFunc(list, compare)
	return list
}

// someKey returns the key with this number: the numbers are in the order of the keys of one protocol.
func someKey(i int) api.Key {
	return api.Key{Addr: [2]uint32{0x0a000000 + uint32(i), 0xc0a80001}, Port: [2]uint16{1025, 80}, Proto: 6}
}

// keysIn returns keys of one of so many stripes.
func keysIn(stripes, n, count int) []api.Key {
	var list []api.Key
	for i := 0; len(list) < count; i++ {
		if k := someKey(i); stripeNumber(k, stripes) == n {
			list = append(list, k)
		}
	}
	return list
}

// oddKeys returns keys of all kinds, most of them of no packet: ends not in order, equal ends, any protocol.
func oddKeys() []api.Key {
	list := []api.Key{{}, someKey(0)}
	for _, proto := range []uint8{0, 1, 6, 17, 255} {
		for _, addr := range [][2]uint32{{0, 0}, {0, math.MaxUint32}, {math.MaxUint32, 0}, {256, 1}, {1, 256}, {1 << 31, 1<<31 - 1}} {
			for _, port := range [][2]uint16{{0, 1}, {1, 0}, {65535, 65535}, {256, 255}, {255, 256}} {
				list = append(list, api.Key{Addr: addr, Port: port, Proto: proto})
			}
		}
	}
	return list
}

// access returns one.
func access(thread, kind, place int) api.Access {
	return api.Access{Thread: thread, Kind: kind, Place: place}
}

// locked returns a table whose mutexes are all held by the thread, and its memory.
func locked(t *testing.T, stripes, thread int) (*Table, *mem.Mem) {
	t.Helper()
	m := mem.New(0, stripes)
	x := New(m, stripes)
	if x == nil {
		t.Fatalf("New(m, %d) = nil", stripes)
	}
	lockAll(t, m, stripes, thread)
	return x, m
}

// lockAll locks the mutexes for the thread.
func lockAll(t *testing.T, m *mem.Mem, locks, thread int) {
	t.Helper()
	for n := range locks {
		lock(t, m, thread, n)
	}
}

// lock locks a mutex for the thread.
func lock(t *testing.T, m *mem.Mem, thread, n int) {
	t.Helper()
	if !m.Lock(thread, n) {
		t.Fatalf("thread %d can't lock mutex %d", thread, n)
	}
}

// unlock unlocks a mutex that the thread holds.
func unlock(t *testing.T, m *mem.Mem, thread, n int) {
	t.Helper()
	if e := m.Unlock(thread, n); e != api.OK {
		t.Fatalf("thread %d can't unlock mutex %d: %d", thread, n, e)
	}
}

// wantFind fails the test unless Find returns this flow.
func wantFind(t *testing.T, x *Table, thread int, k api.Key, word int, turned bool) {
	t.Helper()
	if w, d, ok, e := x.Find(thread, k); w != word || d != turned || !ok || e != api.OK {
		t.Fatalf("Find(%d, %v) = %d, %v, %v, %d, want %d, %v", thread, k, w, d, ok, e, word, turned)
	}
}

// wantNone fails the test unless Find returns no flow, and this error.
func wantNone(t *testing.T, x *Table, thread int, k api.Key, want api.Errno) {
	t.Helper()
	if w, d, ok, e := x.Find(thread, k); w != 0 || d || ok || e != want {
		t.Fatalf("Find(%d, %v) = %d, %v, %v, %d, want none, %d", thread, k, w, d, ok, e, want)
	}
}

// wantPut fails the test unless Put returns so.
func wantPut(t *testing.T, x *Table, thread int, k api.Key, word int, turned bool, want api.Errno) {
	t.Helper()
	if e := x.Put(thread, k, word, turned); e != want {
		t.Fatalf("Put(%d, %v, %d, %v) = %d, want %d", thread, k, word, turned, e, want)
	}
}

// wantRemove fails the test unless Remove returns so.
func wantRemove(t *testing.T, x *Table, thread int, k api.Key, want api.Errno) {
	t.Helper()
	if e := x.Remove(thread, k); e != want {
		t.Fatalf("Remove(%d, %v) = %d, want %d", thread, k, e, want)
	}
}

// wantKeys fails the test unless Keys returns these keys.
func wantKeys(t *testing.T, x *Table, thread, stripe int, want ...api.Key) {
	t.Helper()
	if list, e := x.Keys(thread, stripe); !slices.Equal(list, want) || e != api.OK {
		t.Fatalf("Keys(%d, %d) = %v, %d, want %v", thread, stripe, list, e, want)
	}
}

// wantNoKeys fails the test unless Keys returns this error.
func wantNoKeys(t *testing.T, x *Table, thread, stripe int, want api.Errno) {
	t.Helper()
	if list, e := x.Keys(thread, stripe); len(list) != 0 || e != want {
		t.Fatalf("Keys(%d, %d) = %v, %d, want none, %d", thread, stripe, list, e, want)
	}
}

// wantAll fails the test unless All returns these keys.
func wantAll(t *testing.T, x *Table, want ...api.Key) {
	t.Helper()
	if list := x.All(); !slices.Equal(list, want) {
		t.Fatalf("All() = %v, want %v", list, want)
	}
}

// wantSince fails the test unless these are all accesses behind the first n.
func wantSince(t *testing.T, m *mem.Mem, n int, want ...api.Access) {
	t.Helper()
	if got := m.Log()[n:]; !slices.Equal(got, want) {
		t.Fatalf("accesses %v, want %v", got, want)
	}
}

// P20.1: New for all numbers of stripes near those that there may be, and at the edges of int.
func TestNew(t *testing.T) {
	list := append(edges(), 1<<13, 1<<20, 1<<61, -1<<63)
	for n := -8300; n <= 8300; n++ {
		list = append(list, n)
	}
	m := mem.New(1, 2)
	for _, n := range list {
		x := New(m, n)
		if want := slices.Contains(someSizes(), n); want != (x != nil) {
			t.Fatalf("New(m, %d) = %v", n, x)
		}
		if New(nil, n) != nil {
			t.Fatalf("New(nil, %d) is a table", n)
		}
		if x != nil {
			wantAll(t, x)
		}
	}
	wantSince(t, m, 0)
	if m.Words() != 1 || m.Holder(0) != -1 || m.Holder(1) != -1 {
		t.Errorf("%d words, holders %d and %d", m.Words(), m.Holder(0), m.Holder(1))
	}
}

// P20.1: a new table has no flow in any stripe, and as many stripes as were asked for.
func TestNewIsEmpty(t *testing.T) {
	for _, stripes := range someSizes() {
		x, m := locked(t, stripes, 3)
		n := len(m.Log())
		var want []api.Access
		for i := range stripes {
			wantKeys(t, x, 3, i)
			want = append(want, access(3, isRead, 3*i+2))
		}
		wantNoKeys(t, x, 3, stripes, api.ErrArg)
		wantNoKeys(t, x, 3, -1, api.ErrArg)
		for _, k := range oddKeys() {
			wantNone(t, x, 3, k, api.OK)
			wantRemove(t, x, 3, k, api.ErrNone)
			i := stripeNumber(k, stripes)
			want = append(want, access(3, isRead, 3*i+2), access(3, isWrite, 3*i+2))
		}
		wantAll(t, x)
		wantSince(t, m, n, want...)
	}
}

// P20.2: a flow that is put, found, put again, removed, and removed again.
func TestOneFlow(t *testing.T) {
	for _, stripes := range someSizes() {
		k := someKey(stripes)
		s := stripeNumber(k, stripes)
		m := mem.New(0, stripes)
		x := New(m, stripes)
		lock(t, m, 1, s)
		wantNone(t, x, 1, k, api.OK)
		wantPut(t, x, 1, k, 6, true, api.OK)
		wantFind(t, x, 1, k, 6, true)
		wantFind(t, x, 1, k, 6, true)
		wantKeys(t, x, 1, s, k)
		wantAll(t, x, k)
		wantPut(t, x, 1, k, 7, false, api.OK)
		wantFind(t, x, 1, k, 7, false)
		wantKeys(t, x, 1, s, k)
		wantRemove(t, x, 1, k, api.OK)
		wantNone(t, x, 1, k, api.OK)
		wantKeys(t, x, 1, s)
		wantAll(t, x)
		wantRemove(t, x, 1, k, api.ErrNone)
		wantPut(t, x, 1, k, 8, false, api.OK)
		wantFind(t, x, 1, k, 8, false)
		unlock(t, m, 1, s)
		wantAll(t, x, k)
		r, w := access(1, isRead, 3*s+2), access(1, isWrite, 3*s+2)
		wantSince(t, m, 0, access(1, isLock, 3*s+1), r, w, r, r, r, w, r, r, w, r, r, w, w, r, access(1, isUnlock, 3*s+1))
	}
}

// P20.2: a flow is found as it was last put, whatever its word; no word is one of the memory's that is asked for.
func TestWords(t *testing.T) {
	x, m := locked(t, 2, 0)
	words := append(edges(), -2, -1, 0, 1, 2, 3, 100)
	k, other := keysIn(2, 1, 2)[0], keysIn(2, 1, 2)[1]
	wantPut(t, x, 0, other, 55, true, api.OK)
	for _, before := range words {
		for i := range 4 {
			wantPut(t, x, 0, k, before, i%2 == 0, api.OK)
			wantFind(t, x, 0, k, before, i%2 == 0)
			for _, w := range words {
				wantPut(t, x, 0, k, w, i < 2, api.OK)
				wantFind(t, x, 0, k, w, i < 2)
			}
		}
		wantAll(t, x, k, other)
	}
	wantFind(t, x, 0, other, 55, true)
	if m.Words() != 0 {
		t.Errorf("%d words", m.Words())
	}
}

// P20.2: keys that differ in a single bit are different flows, in whichever stripe they are.
func TestKeysApart(t *testing.T) {
	base := api.Key{Addr: [2]uint32{0x0a0b0c0d, 0xf1e2d3c4}, Port: [2]uint16{0x1234, 0xabcd}, Proto: 17}
	near := []api.Key{base}
	for i := range 2 {
		for bit := range 32 {
			k := base
			k.Addr[i] ^= 1 << bit
			near = append(near, k)
		}
		for bit := range 16 {
			k := base
			k.Port[i] ^= 1 << bit
			near = append(near, k)
		}
	}
	for bit := range 8 {
		k := base
		k.Proto ^= 1 << bit
		near = append(near, k)
	}
	// The same flow with its ends exchanged is another key.
	turned := api.Key{Addr: [2]uint32{base.Addr[1], base.Addr[0]}, Port: [2]uint16{base.Port[1], base.Port[0]}, Proto: 17}
	near = append(near, turned)
	for _, stripes := range []int{1, 2, 64, 4096} {
		x, _ := locked(t, stripes, 9)
		for i, k := range near {
			wantNone(t, x, 9, k, api.OK)
			wantRemove(t, x, 9, k, api.ErrNone)
			wantPut(t, x, 9, k, i, i%3 == 0, api.OK)
		}
		for i, k := range near {
			wantFind(t, x, 9, k, i, i%3 == 0)
		}
		wantAll(t, x, ordered(near...)...)
		wantRemove(t, x, 9, base, api.OK)
		for i, k := range near[1:] {
			wantFind(t, x, 9, k, i+1, (i+1)%3 == 0)
		}
		wantNone(t, x, 9, base, api.OK)
		wantAll(t, x, ordered(near[1:]...)...)
	}
}

// P20.2: each thread that holds the mutex may access the stripe, and is the one that is logged.
func TestThreads(t *testing.T) {
	m := mem.New(0, 1)
	x := New(m, 1)
	k := someKey(1)
	for _, thread := range someThreads() {
		if thread < 0 {
			continue
		}
		n := len(m.Log())
		lock(t, m, thread, 0)
		wantPut(t, x, thread, k, thread, true, api.OK)
		wantFind(t, x, thread, k, thread, true)
		wantKeys(t, x, thread, 0, k)
		wantRemove(t, x, thread, k, api.OK)
		wantRemove(t, x, thread, k, api.ErrNone)
		wantNone(t, x, thread, k, api.OK)
		unlock(t, m, thread, 0)
		r, w := access(thread, isRead, 2), access(thread, isWrite, 2)
		wantSince(t, m, n, access(thread, isLock, 1), w, r, r, w, w, r, access(thread, isUnlock, 1))
	}
}

// P20.2: what one thread put, another one finds and removes, once it holds the mutex.
func TestThreadsShare(t *testing.T) {
	m := mem.New(6, 4)
	x := New(m, 4)
	k := someKey(7)
	s := stripeNumber(k, 4)
	lock(t, m, 1, s)
	wantPut(t, x, 1, k, 6, true, api.OK)
	unlock(t, m, 1, s)
	lock(t, m, 2, s)
	wantFind(t, x, 2, k, 6, true)
	wantNone(t, x, 1, k, api.ErrMisuse)
	wantPut(t, x, 2, k, 7, false, api.OK)
	unlock(t, m, 2, s)
	lock(t, m, 0, s)
	wantFind(t, x, 0, k, 7, false)
	wantRemove(t, x, 0, k, api.OK)
	unlock(t, m, 0, s)
	lock(t, m, 1, s)
	wantNone(t, x, 1, k, api.OK)
	wantAll(t, x)
}

// P20.2: each stripe has the location of its number, and the flows whose keys are in it.
func TestStripes(t *testing.T) {
	for _, stripes := range someSizes() {
		m := mem.New(0, stripes+1)
		x := New(m, stripes)
		in := map[int][]api.Key{}
		var want []api.Access
		for i := range 2*stripes + 50 {
			k := someKey(i)
			s := stripeNumber(k, stripes)
			in[s] = append(in[s], k)
			lock(t, m, 4, s)
			wantPut(t, x, 4, k, i, false, api.OK)
			unlock(t, m, 4, s)
			want = append(want, access(4, isLock, 3*s+1), access(4, isWrite, 3*s+2), access(4, isUnlock, 3*s+1))
		}
		wantSince(t, m, 0, want...)
		for s := range stripes {
			lock(t, m, 5, s)
			wantKeys(t, x, 5, s, in[s]...)
			if s+1 < stripes {
				wantNoKeys(t, x, 5, s+1, api.ErrMisuse)
			} else {
				wantNoKeys(t, x, 5, s+1, api.ErrArg)
			}
			for _, k := range in[s] {
				wantRemove(t, x, 5, k, api.OK)
			}
			wantKeys(t, x, 5, s)
			unlock(t, m, 5, s)
		}
		wantAll(t, x)
	}
}

// The chapter's example.
func TestExample(t *testing.T) {
	m := mem.New(0, 4)
	x := New(m, 4)
	wantPut(t, x, 1, someKey(1), 6, false, api.ErrMisuse)
	if slices.Contains(x.All(), someKey(1)) {
		t.Error("the flow was put")
	}
}

// A nil *Table has nothing, does nothing, and says so.
func TestNil(t *testing.T) {
	var x *Table
	for _, thread := range someThreads() {
		for _, n := range someThreads() {
			wantNoKeys(t, x, thread, n, api.ErrArg)
			wantPut(t, x, thread, someKey(1), n, true, api.ErrArg)
		}
		for _, k := range oddKeys() {
			wantNone(t, x, thread, k, api.ErrArg)
			wantRemove(t, x, thread, k, api.ErrArg)
		}
	}
	if list := x.All(); list != nil {
		t.Errorf("All() = %v", list)
	}
}

// Beyond the document: a table that New did not make has no stripes, so that no thread holds a mutex of one.
func TestZero(t *testing.T) {
	x := new(Table)
	for _, thread := range someThreads() {
		wantNone(t, x, thread, someKey(1), api.ErrMisuse)
		wantPut(t, x, thread, someKey(1), 6, true, api.ErrMisuse)
		wantRemove(t, x, thread, someKey(1), api.ErrMisuse)
		wantNoKeys(t, x, thread, 0, api.ErrArg)
	}
	wantAll(t, x)
}
