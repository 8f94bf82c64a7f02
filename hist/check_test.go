package hist

import (
	"math"
	"slices"
	"testing"

	"mantlet/api"
)

// wantCheck fails the test unless Check returns these.
func wantCheck(t *testing.T, c api.Config, list []api.Rule, threads [][]api.Op, points []api.Point, n int, e api.Errno) {
	t.Helper()
	if got, err := Check(c, list, threads, points); got != n || err != e {
		t.Fatalf("Check(%v, %d rules, %d threads, %d points) = %d, %d, want %d, %d", c, len(list), len(threads), len(points), got, err, n, e)
	}
}

// The chapter's example.
func TestExample(t *testing.T) {
	x := start([]api.Op{tick(5)})
	x.addOnly(t, call(0, 0), ticked(0, 0, 5), back(0, 0, 0, 5))
	x.wantNext(t)
}

// P23.1: what is wrong with the config, the rules and the threads, whatever the points are.
func TestErrors(t *testing.T) {
	bad := every(true)
	bad.DPort = api.Span{Low: 2, High: 1}
	good := config(2, 3)
	many, much := slices.Repeat(open(), 65), make([][]api.Op, 65)
	long := [][]api.Op{{unknown()}, slices.Repeat([]api.Op{unknown()}, 257)}
	for _, x := range []struct {
		c       api.Config
		list    []api.Rule
		threads [][]api.Op
		e       api.Errno
	}{
		{good, open(), much, api.ErrMany},
		{good, open(), long, api.ErrMany},
		{api.Config{}, many, much, api.ErrMany},
		{api.Config{}, many, long, api.ErrMany},
		{config(3, 3), nil, much, api.ErrMany},
		{config(3, 3), nil, nil, api.ErrArg},
		{config(0, 3), many, nil, api.ErrArg},
		{config(-2, 3), nil, nil, api.ErrArg},
		{config(8192, 3), nil, nil, api.ErrArg},
		{config(math.MinInt, 3), nil, nil, api.ErrArg},
		{config(2, 0), nil, nil, api.ErrArg},
		{config(2, 4096), nil, nil, api.ErrArg},
		{config(2, math.MinInt), nil, nil, api.ErrArg},
		{good, many, nil, api.ErrMany},
		{good, append(many, bad), nil, api.ErrMany},
		{good, []api.Rule{every(true), bad}, nil, api.ErrArg},
	} {
		if x.threads == nil {
			x.threads = [][]api.Op{{tick(5)}}
		}
		for _, points := range [][]api.Point{nil, {}, {call(0, 0)}, {call(1, 0)}, {call(0, 0), call(0, 0)}, {{}}} {
			wantCheck(t, x.c, x.list, x.threads, points, 0, x.e)
		}
	}
}

// P23.1: what is just not wrong.
func TestNoErrors(t *testing.T) {
	threads := slices.Repeat([][]api.Op{slices.Repeat([]api.Op{unknown()}, 256)}, 64)
	for _, c := range []api.Config{config(1, 1), config(4096, 4095)} {
		for _, list := range [][]api.Rule{nil, open(), slices.Repeat(open(), 64)} {
			wantCheck(t, c, list, threads, nil, 0, api.OK)
			wantCheck(t, c, list, threads, []api.Point{call(63, 0), back(63, 0, 0, 0)}, 2, api.OK)
			wantCheck(t, c, list, threads, []api.Point{call(63, 0), back(63, 0, 0, 0), {}}, 2, api.ErrOrder)
		}
	}
}

// P23.1: without points there is none that is not valid, and without threads none is valid.
func TestNothing(t *testing.T) {
	for _, threads := range [][][]api.Op{nil, {}, {nil}, {{}, nil, {tick(1)}}} {
		for _, points := range [][]api.Point{nil, {}} {
			wantCheck(t, config(1, 1), nil, threads, points, 0, api.OK)
		}
	}
	for _, threads := range [][][]api.Op{nil, {}, {nil}, {{}, nil}} {
		x := start(threads...)
		x.wantNext(t)
		x.bad(t, altered(call(0, 0))...)
	}
}

// P23.1: the index is that of the first point that is not valid, whatever comes behind it, and the number is that of all.
func TestIndex(t *testing.T) {
	threads := slices.Repeat([][]api.Op{{unknown(), tick(1), flush()}}, 20)
	var good []api.Point
	for i := range threads {
		clock := i + 1
		good = append(good, call(i, 0), back(i, 0, 0, 0), call(i, 1), ticked(i, 1, 1), back(i, 1, 0, clock), call(i, 2), back(i, 2, 0, 0))
	}
	c := config(1, 1)
	for i := range good {
		wantCheck(t, c, nil, threads, good[:i], i, api.OK)
		// One point is missing.
		list := slices.Delete(slices.Clone(good), i, i+1)
		want := i
		if i%7 == 6 {
			want = len(list) // only the last return of a thread has nothing behind it
		}
		e := api.ErrOrder
		if want == len(list) {
			e = api.OK
		}
		wantCheck(t, c, nil, threads, list, want, e)
		// One is wrong, one is there twice, and another one is wrong, too.
		list = slices.Clone(good)
		list[i].N += 100
		wantCheck(t, c, nil, threads, list, i, api.ErrOrder)
		wantCheck(t, c, nil, threads, slices.Concat(good[:i+1], list[i:]), i+1, api.ErrOrder)
		list[len(list)-1].Kind = 0
		wantCheck(t, c, nil, threads, list, i, api.ErrOrder)
	}
	wantCheck(t, c, nil, threads, good, len(good), api.OK)
}

// P23.1: the ops of a thread come one after the other, each once: which one is next or current.
func TestOps(t *testing.T) {
	x := start([]api.Op{unknown(), unknown()}, nil, []api.Op{unknown(), unknown(), unknown()})
	x.wantNext(t, call(0, 0), call(2, 0))
	x.add(t, call(2, 0))
	x.wantNext(t, call(0, 0), back(2, 0, 0, 0))
	x.add(t, call(0, 0))
	x.wantNext(t, back(0, 0, 0, 0), back(2, 0, 0, 0))
	x.add(t, back(2, 0, 0, 0))
	x.wantNext(t, back(0, 0, 0, 0), call(2, 1))
	x.add(t, call(2, 1))
	x.wantNext(t, back(0, 0, 0, 0), back(2, 1, 0, 0))
	x.add(t, back(2, 1, 0, 0), call(2, 2))
	x.wantNext(t, back(0, 0, 0, 0), back(2, 2, 0, 0))
	x.add(t, back(2, 2, 0, 0))
	x.wantNext(t, back(0, 0, 0, 0))
	x.add(t, back(0, 0, 0, 0))
	x.wantNext(t, call(0, 1))
	x.add(t, call(0, 1))
	x.wantNext(t, back(0, 1, 0, 0))
	x.add(t, back(0, 1, 0, 0))
	x.wantNext(t)
}

// P23.1: the greatest number of threads and ops, in whatever order.
func TestGreatest(t *testing.T) {
	threads := slices.Repeat([][]api.Op{slices.Repeat([]api.Op{unknown(), tick(2)}, 128)}, 64)
	var good []api.Point
	for op := range 256 {
		for i := range 64 {
			good = append(good, call(63-i, op))
		}
		for i := range 64 {
			if op%2 == 0 {
				good = append(good, back(i, op, 0, 0))
				continue
			}
			good = append(good, ticked(i, op, 2), back(i, op, 0, op/2*128+2*i+2))
		}
	}
	wantCheck(t, config(1, 1), nil, threads, good, len(good), api.OK)
	for _, p := range []api.Point{call(0, 256), call(0, 0), call(63, 256), call(64, 0), back(0, 255, 0, 0), call(-1, 0), call(5, 255)} {
		wantCheck(t, config(1, 1), nil, threads, append(slices.Clip(good), p), len(good), api.ErrOrder)
	}
}

// P23.1: ops of unknown kinds have no points but their call and their return.
func TestUnknown(t *testing.T) {
	for _, kind := range append(edges(), -2, -1, 0, 7, 8, 9) {
		x := start([]api.Op{{Kind: kind, N: 1, B: somePair(api.UDP, 0, false).sent(0).B, S: openText}}, nil)
		x.addOnly(t, call(0, 0), back(0, 0, 0, 0))
		x.bad(t, call(0, 0), call(0, 1), back(0, 0, 0, 0))
		if kind < -2 || kind > 9 {
			continue
		}
		x.points = x.points[:1]
		x.wantNext(t, back(0, 0, 0, 0))
	}
}

// R4: the arguments are not changed, nor what is behind them.
func TestArgumentsStay(t *testing.T) {
	threads, points := someHistory()
	list := open()
	spare := func() ([]api.Rule, [][]api.Op, []api.Point) {
		r := append(make([]api.Rule, 0, 9), list...)
		var o [][]api.Op
		for _, ops := range threads {
			ops = append(make([]api.Op, 0, len(ops)+3), ops...)
			for i := range ops {
				ops[i].B = append(make([]byte, 0, len(ops[i].B)+9), ops[i].B...)
			}
			o = append(o, ops)
		}
		return r, append(make([][]api.Op, 0, 9), o...), append(make([]api.Point, 0, len(points)+9), points...)
	}
	r, o, p := spare()
	wantCheck(t, config(2, 2), r, o, p, len(p), api.OK)
	wantCheck(t, config(2, 2), r, o, append(p, api.Point{}), len(p), api.ErrOrder)
	x, y, z := spare()
	z = append(z, api.Point{})[:len(z)]
	same := slices.Equal(r[:cap(r)], x[:cap(x)]) && slices.Equal(p[:cap(p)], z[:cap(z)])
	for i, ops := range o[:cap(o)] {
		other := y[:cap(y)][i]
		same = same && slices.EqualFunc(ops[:cap(ops)], other[:cap(other)], func(a, b api.Op) bool {
			return a.Kind == b.Kind && a.N == b.N && a.S == b.S && slices.Equal(a.B[:cap(a.B)], b.B[:cap(b.B)])
		})
	}
	if !same {
		t.Error("an argument was changed")
	}
}

// R5: the same call returns the same, whatever is called in between.
func TestSameAgain(t *testing.T) {
	threads, points := someHistory()
	for n := range len(points) + 1 {
		wantCheck(t, config(2, 2), open(), threads, points, len(points), api.OK)
		wantCheck(t, config(2, 2), open(), threads, points[:n], n, api.OK)
		wrong := append(slices.Clone(points[:n]), api.Point{})
		wantCheck(t, config(2, 2), open(), threads, append(wrong, points[n:]...), n, api.ErrOrder)
		wantCheck(t, config(3, 2), open(), threads, points[:n], 0, api.ErrArg)
	}
}

// someHistory returns threads with ops of all kinds, and valid points of them, for config(2, 2) and open().
func someHistory() ([][]api.Op, []api.Point) {
	a, b := somePair(api.TCP, 0, false), somePair(api.UDP, 1, true)
	k := a.key()
	threads := [][]api.Op{
		{a.sent(opening), collect(), b.sent(0), stat(1)},
		{tick(100), a.sent(plain), swap(shutText), flush(), broken(), unknown()},
	}
	return threads, []api.Point{
		call(1, 0), call(0, 0), act(0, 0, k, accepted), count(0, 0, accepted), ticked(1, 0, 100), back(0, 0, accepted, 0), back(1, 0, 0, 100),
		call(1, 1), call(0, 1), gone(1, 1, k, 0), back(0, 1, 0, 0), act(1, 1, k, invalid), count(1, 1, invalid), call(0, 2), back(1, 1, invalid, 0),
		call(1, 2), act(0, 2, b.key(), accepted), swapped(1, 2, 1), back(1, 2, 0, 1), count(0, 2, accepted), back(0, 2, accepted, 0),
		call(1, 3), call(0, 3), read(0, 3, 1, 2), gone(1, 3, b.key(), 1), back(1, 3, 0, 1), back(0, 3, 0, 2),
		call(1, 4), act(1, 4, api.Key{}, malformed), count(1, 4, malformed), back(1, 4, malformed, 0), call(1, 5), back(1, 5, 0, 0),
	}
}
