package fair

import (
	"math"
	"slices"
	"testing"

	"mantlet/api"
)

// wantBound fails the test unless Bound returns this.
func wantBound(t *testing.T, c api.Config, threads [][]api.Op, want int) {
	t.Helper()
	if got := Bound(c, threads); got != want {
		var ops []int
		for _, list := range threads {
			ops = append(ops, len(list))
		}
		t.Fatalf("Bound of %d stripes and ops %v = %d, want %d", c.Stripes, ops, got, want)
	}
}

// ticks are more ops than any thread has.
var ticks = slices.Repeat([]api.Op{tick(1)}, 1<<16+1)

// many returns threads with so many ops each.
func many(threads, ops int) [][]api.Op {
	return slices.Repeat([][]api.Op{ticks[:ops]}, threads)
}

// spread returns n ops, of which each thread but the last ones has so many.
func spread(n, each int) [][]api.Op {
	var list [][]api.Op
	for n > 0 {
		list = append(list, ticks[:min(n, each)])
		n -= each
	}
	return list
}

// P25.1: numbers written out.
func TestBoundWrittenOut(t *testing.T) {
	for _, x := range []struct{ stripes, threads, ops, want int }{
		{1, 0, 0, 0}, {1, 1, 0, 0}, {4096, 64, 0, 0},
		{1, 1, 1, 92}, {2, 1, 1, 94}, {4, 1, 1, 98}, {4096, 1, 1, 8282},
		{1, 1, 2, 324}, {1, 2, 1, 324}, {2, 3, 1, 702}, {8, 2, 5, 7360},
		{1, 1, 256, 4593152}, {1, 64, 1, 288128}, {4096, 64, 256, 18925027328}, {1, 64, 256, 18790842368},
	} {
		wantBound(t, config(x.stripes, 3), many(x.threads, x.ops), x.want)
	}
}

// P25.1: each number of ops, and each number of stripes, also those that are not powers of two, of which there is no world.
func TestBoundSums(t *testing.T) {
	stripes := []int{1, 2, 3, 4, 5, 7, 8, 63, 64, 65, 100, 255, 256, 1000, 2047, 2048, 4094, 4095, 4096}
	for n := range 64*8 + 1 {
		for _, s := range stripes {
			wantBound(t, config(s, 3), spread(n, 8), n*20+n*s*2+n*n*70)
		}
	}
	for n := range 4096 {
		s := n + 1
		for _, ops := range []int{1, 2, 300, 16384} {
			wantBound(t, config(s, 3), spread(ops, 256), ops*20+ops*s*2+ops*ops*70)
		}
	}
	for n := 0; n <= 64*256; n += 37 {
		wantBound(t, config(16, 3), spread(n, 256), 52*n+70*n*n)
	}
}

// P25.1: what is wrong with the stripes.
func TestBoundStripes(t *testing.T) {
	wrong := []int{0, -1, -2, -3, -4, -16, -4095, -4096, -4097, 4097, 4098, 4099, 4100, 4112, 5000, 8191, 8192, 16384, 65536}
	wrong = append(wrong, edges()...)
	for _, s := range wrong {
		if s >= 1 && s <= 4096 {
			continue
		}
		for _, threads := range [][][]api.Op{nil, {nil}, many(1, 1), many(3, 4), many(64, 256), many(65, 1), many(1, 257)} {
			wantBound(t, config(s, 3), threads, 0)
		}
	}
}

// P25.1: 64 threads are not too many, and 65 are, also without ops.
func TestBoundThreads(t *testing.T) {
	for n := range 200 {
		for _, ops := range []int{0, 1, 2, 256} {
			want := n * ops * (20 + 8 + 70*n*ops)
			if n > 64 {
				want = 0
			}
			wantBound(t, config(4, 3), many(n, ops), want)
		}
	}
	for _, n := range []int{255, 256, 257, 320, 1000, 65536, 65537} {
		wantBound(t, config(4, 3), many(n, 0), 0)
		wantBound(t, config(4, 3), many(n, 1), 0)
	}
	// One thread with ops, and others without.
	for _, n := range []int{1, 2, 63, 64, 65} {
		for _, i := range []int{0, n / 2, n - 1} {
			threads := make([][]api.Op, n)
			threads[i] = []api.Op{tick(1), flush(), collect()}
			want := 3 * (20 + 8 + 210)
			if n > 64 {
				want = 0
			}
			wantBound(t, config(4, 3), threads, want)
		}
	}
}

// P25.1: 256 ops of a thread are not too many, and 257 are, whichever thread it is; those of all together may be more.
func TestBoundOps(t *testing.T) {
	for _, n := range []int{254, 255, 256, 257, 258, 511, 512, 513, 1000, 65536, 65537} {
		for _, threads := range []int{1, 2, 3, 10, 64} {
			for i := range threads {
				for _, others := range []int{0, 1, 256} {
					list := many(threads, others)
					list[i] = many(1, n)[0]
					all := (threads-1)*others + n
					want := all * (20 + 4 + 70*all)
					if n > 256 {
						want = 0
					}
					wantBound(t, config(2, 3), list, want)
				}
			}
		}
	}
	wantBound(t, config(2, 3), many(64, 257), 0)
	wantBound(t, config(2, 3), many(65, 257), 0)
}

// P25.1: neither the Cap nor the timeouts nor what the ops are makes a difference, nor which threads have them.
func TestBoundOnly(t *testing.T) {
	for _, i := range append(edges(), 0, 1, 4095, 4096) {
		c := config(4, i)
		for j := range c.Times {
			c.Times[j] = i - j
		}
		wantBound(t, c, many(2, 2), 4*(20+8+280))
		wantBound(t, config(4, 3), [][]api.Op{{{Kind: i, N: i}}, {{Kind: i}, tick(i), stat(i)}}, 4*(20+8+280))
		wantBound(t, config(4, 3), [][]api.Op{{tick(i)}}, 98)
	}
	for _, x := range []api.Op{{}, tick(1), tick(-1), swap(openText), swap("?"), flush(), collect(), stat(1), stat(9), broken(), unknown(), datagram(1, false), {Kind: api.OpPacket, B: make([]byte, 3000)}, {Kind: math.MaxInt, S: string(make([]byte, 5000))}} {
		wantBound(t, config(4, 3), [][]api.Op{{x}}, 98)
		wantBound(t, config(4, 3), [][]api.Op{nil, {x, x}, {}, {x, tick(2)}}, 4*(20+8+280))
	}
	for first := range 11 {
		for second := range 11 - first {
			list := [][]api.Op{many(1, first)[0], many(1, second)[0], many(1, 10-first-second)[0]}
			wantBound(t, config(4, 3), list, 10*(20+8+700))
		}
	}
}

// P25.1 (R4, R5): the threads are not changed, what is in their spare capacity does not count, and the same call has the same answer.
func TestBoundKeepsThreads(t *testing.T) {
	bytes := []byte{1, 2, 3}
	list := [][]api.Op{{{Kind: api.OpPacket, B: bytes}, tick(3), flush()}, {swap(openText), tick(4)}, {tick(5)}, many(1, 300)[0], nil}
	threads := list[:2]
	threads[0] = threads[0][:2]
	for range 3 {
		wantBound(t, config(4, 3), threads, 4*(20+8+280))
		wantBound(t, config(1, 3), list, 0)
	}
	if !slices.Equal(bytes, []byte{1, 2, 3}) || len(list[0]) != 2 || list[0][:3][2].Kind != api.OpFlush || list[0][1].N != 3 || list[1][0].S != openText || list[2][0].N != 5 || len(list[3]) != 300 || list[4] != nil {
		t.Error("the threads have changed")
	}
}
