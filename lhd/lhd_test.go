package lhd_test

import (
	"math"
	"math/big"
	"math/rand"
	"slices"
	"testing"

	"linhay/api"
	"linhay/lhd"
)

const most = 1<<64 - 1

var noAges = []int{-1, 8, 9, math.MinInt, math.MaxInt}

func counts(r *rand.Rand) api.Rank {
	var out api.Rank
	for i := range 8 {
		switch r.Intn(4) {
		case 0:
			out.Hits[i], out.Outs[i] = uint64(r.Intn(9)), uint64(r.Intn(9))
		case 1:
			out.Hits[i], out.Outs[i] = r.Uint64()>>r.Intn(64), r.Uint64()>>r.Intn(64)
		case 2:
			out.Hits[i], out.Outs[i] = most, most
		}
	}
	return out
}

func TestP19_1Age(t *testing.T) {
	for _, c := range []struct {
		t    uint64
		want int
	}{{0, 0}, {1, 1}, {2, 2}, {3, 2}, {4, 3}, {7, 3}, {8, 4}, {15, 4}, {16, 5}, {31, 5}, {32, 6}, {63, 6}, {64, 7}, {127, 7}, {128, 7}, {1 << 40, 7}, {most, 7}} {
		if lhd.Age(c.t) != c.want {
			t.Errorf("Age(%d) = %d", c.t, lhd.Age(c.t))
		}
	}
}

func TestP19_1Counts(t *testing.T) {
	for age := range 8 {
		r := api.Rank{}
		r.Hits[age], r.Outs[age] = 5, 7
		hit, out := r, r
		hit.Hits[age], out.Outs[age] = 6, 8
		if lhd.Hit(r, age) != hit || lhd.Out(r, age) != out {
			t.Errorf("at %d: %v, %v", age, lhd.Hit(r, age), lhd.Out(r, age))
		}
		r.Hits[age], r.Outs[age] = most, most
		if lhd.Hit(r, age) != r || lhd.Out(r, age) != r {
			t.Errorf("held at %d: %v, %v", age, lhd.Hit(r, age), lhd.Out(r, age))
		}
	}
	r := api.Rank{Hits: [8]uint64{1, 2, 3, 4, 5, 6, 7, most}, Outs: [8]uint64{0, 9, 8, 7, 6, 5, most, 1}}
	for _, age := range noAges {
		if lhd.Hit(r, age) != r || lhd.Out(r, age) != r {
			t.Errorf("at %d something is counted", age)
		}
	}
	want := api.Rank{Hits: [8]uint64{0, 1, 1, 2, 2, 3, 3, most / 2}, Outs: [8]uint64{0, 4, 4, 3, 3, 2, most / 2, 0}}
	if lhd.Fade(r) != want || lhd.Fade(api.Rank{}) != (api.Rank{}) {
		t.Errorf("Fade: %v", lhd.Fade(r))
	}
}

func great(n uint64) *big.Int { return new(big.Int).SetUint64(n) }

func held(n *big.Int) *big.Int {
	if !n.IsUint64() {
		return great(most)
	}
	return n
}

// density is Density as the chapter says it.
func density(r api.Rank, age int) uint64 {
	if age < 0 || age > 7 {
		return 0
	}
	hits, time := new(big.Int), new(big.Int)
	for i := age; i < 8; i++ {
		hits = held(hits.Add(hits, great(r.Hits[i])))
		both := held(new(big.Int).Add(great(r.Hits[i]), great(r.Outs[i])))
		time = held(time.Add(time, held(both.Mul(both, great(1<<i)))))
	}
	if time.Sign() == 0 {
		return api.One
	}
	return hits.Quo(hits.Mul(hits, great(api.One)), time).Uint64()
}

func TestP19_2(t *testing.T) {
	r := rand.New(rand.NewSource(32))
	for range 3000 {
		x := counts(r)
		for age := range 8 {
			if lhd.Density(x, age) != density(x, age) {
				t.Fatalf("Density(%v, %d) = %d", x, age, lhd.Density(x, age))
			}
		}
		for _, age := range noAges {
			if lhd.Density(x, age) != 0 {
				t.Fatalf("Density at %d: %d", age, lhd.Density(x, age))
			}
		}
	}
	x := api.Rank{Hits: [8]uint64{3}, Outs: [8]uint64{1}}
	if lhd.Density(x, 0) != 3*api.One/4 || lhd.Density(x, 1) != api.One || lhd.Density(api.Rank{}, 7) != api.One {
		t.Error("the example's counts")
	}
	if lhd.Density(api.Rank{Outs: [8]uint64{7: 1}}, 3) != 0 || lhd.Density(api.Rank{Hits: [8]uint64{7: 1}}, 3) != api.One/128 {
		t.Error("counts behind the age")
	}
}

// victim is Victim as the chapter says it.
func victim(r api.Rank, ages []int, sizes []uint64, some []int) (int, bool) {
	out, found := 0, false
	var least *big.Rat
	for _, id := range some {
		if id < 0 || id >= len(ages) || id >= len(sizes) || sizes[id] == 0 {
			continue
		}
		n := new(big.Rat).SetFrac(great(density(r, ages[id])), great(sizes[id]))
		if !found || n.Cmp(least) < 0 {
			out, found, least = id, true, n
		}
	}
	return out, found
}

func TestP19_3(t *testing.T) {
	r := rand.New(rand.NewSource(33))
	for range 5000 {
		x := counts(r)
		ages, sizes, some := make([]int, r.Intn(8)), make([]uint64, r.Intn(8)), make([]int, r.Intn(8))
		for i := range ages {
			ages[i] = r.Intn(11) - 1
		}
		for i := range sizes {
			sizes[i] = []uint64{0, 1, 2, 7, 4096, most, most - 1, r.Uint64()}[r.Intn(8)]
		}
		for i := range some {
			some[i] = r.Intn(10) - 1
		}
		kept := [][]int{slices.Clone(ages), slices.Clone(some)}
		keptSizes := slices.Clone(sizes)
		want, wantOK := victim(x, ages, sizes, some)
		if id, ok := lhd.Victim(x, ages, sizes, some); id != want || ok != wantOK {
			t.Fatalf("Victim(%v, %v, %v, %v) = %d, %v", x, ages, sizes, some, id, ok)
		}
		if !slices.Equal(kept[0], ages) || !slices.Equal(kept[1], some) || !slices.Equal(keptSizes, sizes) {
			t.Fatal("what was handed in is changed")
		}
	}
	for i, c := range []struct {
		ages  []int
		sizes []uint64
		some  []int
		want  int
		found bool
	}{
		{nil, nil, nil, 0, false},
		{[]int{0}, []uint64{5}, nil, 0, false},
		{[]int{0}, []uint64{0}, []int{0}, 0, false},
		{[]int{0, 0}, []uint64{5}, []int{1}, 0, false},
		{[]int{0}, []uint64{5, 5}, []int{1, -1, math.MinInt, math.MaxInt}, 0, false},
		{[]int{0, 0, 0}, []uint64{5, 5, 5}, []int{2, 0, 1}, 2, true},
		{[]int{0, 0, 0}, []uint64{5, 6, 5}, []int{2, 0, 1}, 1, true},
		{[]int{0, 9, 0}, []uint64{5, 1, 5}, []int{2, 0, 1}, 1, true},
		{[]int{0, 0}, []uint64{most - 1, most}, []int{0, 1}, 1, true},
	} {
		if id, ok := lhd.Victim(api.Rank{}, c.ages, c.sizes, c.some); id != c.want || ok != c.found {
			t.Errorf("%d: %d, %v", i, id, ok)
		}
	}
}

func TestP19_4(t *testing.T) {
	r := rand.New(rand.NewSource(34))
	for range 3000 {
		x := counts(r)
		at := r.Intn(8)
		hit, out := lhd.Hit(x, at), lhd.Out(x, at)
		for age := range 8 {
			n := lhd.Density(x, age)
			if n > api.One {
				t.Fatalf("Density(%v, %d) = %d", x, age, n)
			}
			if lhd.Density(lhd.Hit(x, 0), age) < n {
				t.Fatalf("a hit at the age 0 makes %v less dense at %d", x, age)
			}
			if lhd.Density(out, age) > n {
				t.Fatalf("an eviction at %d makes %v denser at %d", at, x, age)
			}
			if age > at && (lhd.Density(hit, age) != n || lhd.Density(out, age) != n) {
				t.Fatalf("what is counted at %d changes %v at %d", at, x, age)
			}
			size := 1 + r.Uint64()>>(1+r.Intn(60))
			if id, ok := lhd.Victim(x, []int{age, age}, []uint64{size, size + 1}, []int{0, 1}); !ok || id != 1 && lhd.Density(x, age) > 0 {
				t.Fatalf("the smaller one goes first, of %v at %d", x, age)
			}
		}
	}
}
