package table

import (
	"math/rand"
	"slices"
	"testing"

	"mantlet/api"
	"mantlet/mem"
)

// putAll puts flows with these keys.
func putAll(t *testing.T, x *Table, thread int, keys []api.Key) {
	t.Helper()
	for i, k := range keys {
		wantPut(t, x, thread, k, i, i%2 == 0, api.OK)
	}
}

// shuffled returns the keys in another order.
func shuffled(r *rand.Rand, keys []api.Key) []api.Key {
	list := slices.Clone(keys)
	r.Shuffle(len(list), func(i, j int) { list[i], list[j] = list[j], list[i] })
	return list
}

// wantEach fails the test unless each stripe has those of the keys that are its own, and the table has all.
func wantEach(t *testing.T, x *Table, thread, stripes int, keys []api.Key) {
	t.Helper()
	list := ordered(keys...)
	in := make([][]api.Key, stripes)
	for _, k := range list {
		s := stripeNumber(k, stripes)
		in[s] = append(in[s], k)
	}
	for s := range stripes {
		wantKeys(t, x, thread, s, in[s]...)
	}
	wantAll(t, x, list...)
}

// P20.2, P20.3: a few keys in the order that is written out here: protocol, then the first end, then the second one.
func TestOrder(t *testing.T) {
	list := []api.Key{
		{},
		{Port: [2]uint16{0, 9}, Addr: [2]uint32{0, 4}, Proto: 1},
		{Port: [2]uint16{0, 8}, Addr: [2]uint32{0, 5}, Proto: 1},
		{Port: [2]uint16{7, 0}, Addr: [2]uint32{0, 1}, Proto: 1},
		{Port: [2]uint16{3, 3}, Addr: [2]uint32{2, 9}, Proto: 6},
		{Port: [2]uint16{4, 2}, Addr: [2]uint32{2, 1}, Proto: 6},
		{Port: [2]uint16{4, 3}, Addr: [2]uint32{2, 1}, Proto: 6},
		{Port: [2]uint16{4, 0}, Addr: [2]uint32{2, 2}, Proto: 6},
		{Port: [2]uint16{1, 1}, Addr: [2]uint32{3, 1}, Proto: 6},
		{Port: [2]uint16{1, 1}, Addr: [2]uint32{256, 1}, Proto: 6},
		{Port: [2]uint16{0, 0}, Addr: [2]uint32{1 << 31, 0}, Proto: 6},
		{Port: [2]uint16{0, 0}, Addr: [2]uint32{0, 0}, Proto: 17},
		{Port: [2]uint16{0, 0}, Addr: [2]uint32{0, 0}, Proto: 255},
	}
	r := rand.New(rand.NewSource(1))
	for _, stripes := range []int{1, 2, 16, 4096} {
		for range 30 {
			x, _ := locked(t, stripes, 1)
			putAll(t, x, 1, shuffled(r, list))
			wantAll(t, x, list...)
			if stripes == 1 {
				wantKeys(t, x, 1, 0, list...)
			}
		}
	}
}

// P20.2, P20.3: many keys, in whichever order they were put, in one stripe and in many.
func TestManyKeys(t *testing.T) {
	keys := oddKeys()
	for i := range 3000 {
		keys = append(keys, someKey(i+1))
	}
	r := rand.New(rand.NewSource(2))
	for _, stripes := range someSizes() {
		x, _ := locked(t, stripes, 1)
		order := shuffled(r, keys)
		putAll(t, x, 1, order)
		wantEach(t, x, 1, stripes, keys)
		putAll(t, x, 1, shuffled(r, keys))
		wantEach(t, x, 1, stripes, keys)
		for _, k := range order[:1000] {
			wantRemove(t, x, 1, k, api.OK)
		}
		wantEach(t, x, 1, stripes, order[1000:])
		for _, k := range order[:1000] {
			wantRemove(t, x, 1, k, api.ErrNone)
			wantNone(t, x, 1, k, api.OK)
		}
		putAll(t, x, 1, order[:500])
		wantEach(t, x, 1, stripes, slices.Concat(order[1000:], order[:500]))
	}
}

// P20.2, P20.3: keys that are all in one of several stripes.
func TestOneStripe(t *testing.T) {
	for _, stripes := range []int{2, 8, 256} {
		for _, s := range []int{0, 1, stripes - 1} {
			x, _ := locked(t, stripes, 1)
			keys := keysIn(stripes, s, 40)
			putAll(t, x, 1, keys)
			wantEach(t, x, 1, stripes, keys)
			wantKeys(t, x, 1, s, keys...)
		}
	}
}

// P20.3: All asks for no mutex and makes no access, whoever holds what.
func TestAllFromOutside(t *testing.T) {
	m := mem.New(0, 4)
	x := New(m, 4)
	k := someKey(1)
	s := stripeNumber(k, 4)
	wantAll(t, x)
	lock(t, m, 1, s)
	wantAll(t, x)
	wantPut(t, x, 1, k, 6, false, api.OK)
	n := len(m.Log())
	wantAll(t, x, k)
	unlock(t, m, 1, s)
	wantAll(t, x, k)
	lock(t, m, 2, s^1)
	wantAll(t, x, k)
	wantSince(t, m, n, access(1, isUnlock, 3*s+1), access(2, isLock, 3*(s^1)+1))
}

// spoil overwrites the list with its spare capacity.
func spoil(list []api.Key) {
	list = list[:cap(list)]
	for i := range list {
		list[i] = api.Key{Proto: 99}
	}
}

// R4: what is written into a list of keys, or behind it, changes neither the table nor another list.
func TestListsAreNew(t *testing.T) {
	for size := range 70 {
		x, _ := locked(t, 1, 1)
		keys := make([]api.Key, size)
		for i := range keys {
			keys[i] = someKey(i)
		}
		putAll(t, x, 1, keys)
		one, _ := x.Keys(1, 0)
		two, _ := x.Keys(1, 0)
		three, four := x.All(), x.All()
		spoil(one)
		spoil(three)
		if !slices.Equal(two, keys) || !slices.Equal(four, keys) {
			t.Fatalf("%d keys: the other lists are %v and %v", size, two, four)
		}
		wantEach(t, x, 1, 1, keys)
		for i, k := range keys {
			wantFind(t, x, 1, k, i, i%2 == 0)
		}
	}
}

// R4: a list of keys stays as it was, whatever is done to the table.
func TestListsStay(t *testing.T) {
	x, _ := locked(t, 1, 1)
	var keys []api.Key
	var lists, alls [][]api.Key
	for i := range 100 {
		list, _ := x.Keys(1, 0)
		lists, alls = append(lists, list), append(alls, x.All())
		keys = append(keys, someKey(i))
		wantPut(t, x, 1, someKey(i), i, true, api.OK)
	}
	for _, k := range keys {
		wantRemove(t, x, 1, k, api.OK)
	}
	for i := range lists {
		if !slices.Equal(lists[i], keys[:i]) || !slices.Equal(alls[i], keys[:i]) {
			t.Fatalf("lists %d became %v and %v", i, lists[i], alls[i])
		}
	}
}
