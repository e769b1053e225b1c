package gds_test

import (
	"math"
	"math/big"
	"math/rand"
	"slices"
	"testing"

	"linhay/api"
	"linhay/gds"
)

const most = 1<<64 - 1

func great(n uint64) *big.Int { return new(big.Int).SetUint64(n) }

func held(n *big.Int) uint64 {
	if !n.IsUint64() {
		return most
	}
	return n.Uint64()
}

// weight is Weight as the chapter says it.
func weight(kind int, cost, size, freq uint64) uint64 {
	if kind != 1 && kind != 2 || size == 0 {
		return 0
	}
	worth := great(cost)
	if kind == 2 {
		worth.Mul(worth, great(freq))
	}
	if !worth.IsUint64() {
		return most
	}
	worth.Mul(worth, great(1<<20))
	return held(worth.Quo(worth, great(size)))
}

func TestP18_1(t *testing.T) {
	numbers := []uint64{0, 1, 2, 3, 7, 1 << 20, 1<<20 + 1, 1 << 32, 1<<44 - 1, 1 << 44, 1 << 63, most - 1, most}
	r := rand.New(rand.NewSource(29))
	for range 8 {
		numbers = append(numbers, r.Uint64()>>r.Intn(64))
	}
	for _, kind := range []int{-1, 0, 1, 2, 3, 4, math.MinInt, math.MaxInt} {
		for _, cost := range numbers {
			for _, size := range numbers {
				for _, freq := range numbers {
					if n := gds.Weight(kind, cost, size, freq); n != weight(kind, cost, size, freq) {
						t.Fatalf("Weight(%d, %d, %d, %d) = %d", kind, cost, size, freq, n)
					}
				}
			}
		}
	}
	// What is above all of 64 bits ahead of the division is so, however great the size.
	if gds.Weight(2, 1<<63, most, 2) != most || gds.Weight(2, 1<<63, most, 1) != 1<<19 {
		t.Error("a product that is too great")
	}
}

func TestP18_1Renew(t *testing.T) {
	for i, c := range []struct {
		low     uint64
		l, want []uint64
	}{
		{5, nil, nil},
		{0, []uint64{0, 3, most}, []uint64{0, 3, most}},
		{5, []uint64{4, 5, 6, most, 0}, []uint64{0, 0, 1, most - 5, 0}},
		{most, []uint64{most, 1}, []uint64{0, 0}},
	} {
		kept := slices.Clone(c.l)
		got := gds.Renew(c.low, c.l)
		if !slices.Equal(got, c.want) || !slices.Equal(c.l, kept) {
			t.Errorf("%d: %v", i, got)
		}
		if len(got) > 0 && &got[0] == &c.l[0] {
			t.Errorf("%d: what was handed in is told", i)
		}
	}
}

func TestP18_2Wrong(t *testing.T) {
	ones := slices.Repeat([]int{1}, 65)
	for i, c := range []struct {
		most                int
		sizes, costs, calls []int
		e                   api.Errno
	}{
		{0, nil, nil, nil, api.ErrConfig},
		{-1, nil, nil, nil, api.ErrConfig},
		{1<<16 + 1, nil, nil, nil, api.ErrConfig},
		{math.MinInt, nil, nil, nil, api.ErrConfig},
		{math.MaxInt, nil, nil, nil, api.ErrConfig},
		{9, ones, ones, nil, api.ErrConfig},
		{9, ones[:2], ones[:3], nil, api.ErrConfig},
		{9, ones[:3], ones[:2], nil, api.ErrConfig},
		{9, []int{0}, []int{1}, nil, api.ErrConfig},
		{9, []int{-1}, []int{1}, nil, api.ErrConfig},
		{9, []int{4097}, []int{1}, nil, api.ErrConfig},
		{9, []int{1}, []int{-1}, nil, api.ErrConfig},
		{9, []int{1}, []int{1<<20 + 1}, nil, api.ErrConfig},
		{9, []int{1, 2, 0}, []int{1, 1, 1}, []int{9}, api.ErrConfig},
		{9, []int{1}, []int{1}, []int{1}, api.ErrCall},
		{9, []int{1}, []int{1}, []int{0, 0, -1}, api.ErrCall},
		{9, nil, nil, []int{0}, api.ErrCall},
		{9, []int{1}, []int{1}, []int{math.MinInt}, api.ErrCall},
	} {
		if l, e := gds.Run(c.most, c.sizes, c.costs, c.calls); len(l) != 0 || e != c.e {
			t.Errorf("%d: %v, %d", i, l, e)
		}
	}
	if l, e := gds.Run(4096, []int{4096, 1}, []int{1 << 20, 0}, []int{0}); len(l) != 1 || e != api.OK {
		t.Errorf("the greatest size, and cost: %v, %d", l, e)
	}
	if l, e := gds.Run(1, nil, nil, nil); len(l) != 0 || e != api.OK {
		t.Errorf("nothing: %v, %d", l, e)
	}
	if l, e := gds.Run(1<<16, ones[:64], ones[:64], []int{63, 63}); len(l) != 2 || e != api.OK || l[0].Hit || !l[1].Hit {
		t.Errorf("the greatest ones: %v, %d", l, e)
	}
}

// run is Run as the chapter says it.
func run(most int, sizes, costs, calls []int) []api.Serve {
	rank, level := map[int]uint64{}, uint64(0)
	var out []api.Serve
	for _, id := range calls {
		w := weight(1, uint64(costs[id]), uint64(sizes[id]), 1)
		if _, in := rank[id]; in {
			rank[id] = level + w
			out = append(out, api.Serve{Hit: true})
			continue
		}
		var s api.Serve
		for sizes[id] <= most {
			used, first := sizes[id], -1
			for other := range sizes {
				if n, in := rank[other]; in {
					used += sizes[other]
					if first < 0 || n < rank[first] {
						first = other
					}
				}
			}
			if used <= most {
				rank[id] = level + w
				break
			}
			level = rank[first]
			delete(rank, first)
			s.Outs = append(s.Outs, first)
		}
		out = append(out, s)
	}
	return out
}

func equal(a, b []api.Serve) bool {
	return slices.EqualFunc(a, b, func(x, y api.Serve) bool { return x.Hit == y.Hit && slices.Equal(x.Outs, y.Outs) })
}

func some(r *rand.Rand, n, low, high int) []int {
	out := make([]int, n)
	for i := range out {
		out[i] = low + r.Intn(high-low+1)
	}
	return out
}

func TestP18_2(t *testing.T) {
	r := rand.New(rand.NewSource(30))
	for range 600 {
		n := 1 + r.Intn(12)
		sizes, costs, calls := some(r, n, 1, 9), some(r, n, 0, 9), some(r, r.Intn(120), 0, n-1)
		k := 1 + r.Intn(25)
		kept := [][]int{slices.Clone(sizes), slices.Clone(costs), slices.Clone(calls)}
		got, e := gds.Run(k, sizes, costs, calls)
		if e != api.OK || !equal(got, run(k, sizes, costs, calls)) {
			t.Fatalf("Run(%d, %v, %v, %v) = %v, %d", k, sizes, costs, calls, got, e)
		}
		if !slices.Equal(kept[0], sizes) || !slices.Equal(kept[1], costs) || !slices.Equal(kept[2], calls) {
			t.Fatal("what was handed in is changed")
		}
	}
	got, _ := gds.Run(3, []int{1, 2, 1}, []int{1, 4, 9}, []int{0, 1, 2})
	if !equal(got, []api.Serve{{}, {}, {Outs: []int{0}}}) {
		t.Errorf("the example's run: %v", got)
	}
	// Of one rank the least number goes; who is too great changes nothing.
	got, _ = gds.Run(2, []int{1, 1, 3, 2}, []int{5, 5, 9, 0}, []int{1, 0, 2, 3, 3})
	if !equal(got, []api.Serve{{}, {}, {}, {Outs: []int{0, 1}}, {Hit: true}}) {
		t.Errorf("of one rank: %v", got)
	}
}

func TestP18_3(t *testing.T) {
	miss, hit := api.Serve{}, api.Serve{Hit: true, Outs: []int{1}}
	for i, c := range []struct {
		sizes, costs, calls []int
		l                   []api.Serve
		want                uint64
	}{
		{nil, nil, nil, nil, 0},
		{[]int{3}, []int{7}, []int{0, 0, 0}, []api.Serve{miss, hit, miss}, 2 * 3 * (7 << 20 / 3)},
		{[]int{3}, []int{7}, []int{0, 0, 0}, []api.Serve{miss}, 3 * (7 << 20 / 3)},
		{[]int{3}, []int{7}, []int{0}, []api.Serve{miss, miss, miss}, 3 * (7 << 20 / 3)},
		{[]int{3}, []int{7}, []int{1, -1, math.MinInt, math.MaxInt, 0}, []api.Serve{miss, miss, miss, miss, miss}, 3 * (7 << 20 / 3)},
		{[]int{3, 1}, []int{7}, []int{1, 0}, []api.Serve{miss, miss}, 3 * (7 << 20 / 3)},
		{[]int{3}, []int{7, 1}, []int{1, 0}, []api.Serve{miss, miss}, 3 * (7 << 20 / 3)},
		{[]int{-3, 3, 0}, []int{7, -7, 5}, []int{0, 1, 2}, []api.Serve{miss, miss, miss}, 0},
		{[]int{1}, []int{math.MaxInt}, []int{0}, []api.Serve{miss}, most},
		{[]int{1}, []int{1 << 43}, []int{0, 0}, []api.Serve{miss, miss}, most},
		{[]int{1}, []int{1 << 43}, []int{0}, []api.Serve{miss}, 1 << 63},
		{[]int{math.MaxInt}, []int{math.MaxInt}, []int{0}, []api.Serve{miss}, most},
	} {
		if n := gds.Paid(c.sizes, c.costs, c.calls, c.l); n != c.want {
			t.Errorf("%d: %d", i, n)
		}
	}
}

// least is the least that can be paid by others, whose cache has what is called, and of which at most h is taken.
func least(h int, sizes, costs, calls []int) uint64 {
	best := map[int]uint64{0: 0}
	for _, id := range calls {
		next := map[int]uint64{}
		for in, paid := range best {
			if in>>id&1 == 0 {
				paid += gds.Paid(sizes, costs, []int{id}, []api.Serve{{}})
			}
			for kept := in | 1<<id; kept > 0; kept = (kept - 1) & (in | 1<<id) {
				taken := 0
				for other, size := range sizes {
					taken += size * (kept >> other & 1)
				}
				old, has := next[kept]
				if kept>>id&1 == 1 && taken <= h && (!has || paid < old) {
					next[kept] = paid
				}
			}
		}
		best = next
	}
	out := uint64(most)
	for _, paid := range best {
		out = min(out, paid)
	}
	return out
}

func TestP18_4(t *testing.T) {
	r := rand.New(rand.NewSource(31))
	for range 400 {
		n := 2 + r.Intn(5)
		h := 1 + r.Intn(6)
		k := h + r.Intn(4)
		sizes, costs, calls := some(r, n, 1, h), some(r, n, 0, 9), some(r, r.Intn(25), 0, n-1)
		l, _ := gds.Run(k, sizes, costs, calls)
		paid, others := gds.Paid(sizes, costs, calls, l), least(h, sizes, costs, calls)
		if uint64(k-h+1)*paid > uint64(k)*others {
			t.Fatalf("%v, %v, %v: %d of %d, %d of %d", sizes, costs, calls, paid, k, others, h)
		}
	}
}
