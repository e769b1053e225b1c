package tune_test

import (
	"fmt"
	"math"
	"math/big"
	"math/rand"
	"slices"
	"strings"
	"testing"

	"linhay/api"
	"linhay/expo"
	"linhay/tune"
)

const most = 1<<64 - 1

func seen(key string, size, n int) api.Seen { return api.Seen{Key: key, Size: size, N: n} }

// full is a window of a thousand members.
func full(size, n int) []api.Seen {
	var out []api.Seen
	for i := range 1000 {
		out = append(out, seen(fmt.Sprintf("k%03d", i), size, n))
	}
	return out
}

// wrong are windows that may not be.
func wrong() [][]api.Seen {
	return [][]api.Seen{
		append(full(1, 1), seen("z", 1, 1)),
		{seen("a", 0, 1)},
		{seen("a", -1, 1)},
		{seen("a", 4097, 1)},
		{seen("a", math.MaxInt, 1)},
		{seen("a", 1, 0)},
		{seen("a", 1, -1)},
		{seen("a", 1, 1001)},
		{seen("a", math.MinInt, math.MinInt)},
		{seen("a", 1, 1), seen("a", 1, 1)},
		{seen("b", 1, 1), seen("a", 1, 1)},
		{seen("a", 1, 1), seen("b", 1, 1), seen("", 1, 1)},
	}
}

func TestP21_1Check(t *testing.T) {
	for i, l := range wrong() {
		if tune.Check(l) {
			t.Errorf("%d may not be", i)
		}
	}
	for i, l := range [][]api.Seen{nil, {}, full(4096, 1000), {seen("", 1, 1), seen("\x00", 1, 1), seen(strings.Repeat("x", 99), 4096, 1000), seen("\xff", 1, 1)}} {
		if !tune.Check(l) {
			t.Errorf("%d may be", i)
		}
	}
}

func TestP21Wrong(t *testing.T) {
	for i, l := range wrong() {
		// A request of "a" would mend some of them.
		for _, key := range []string{"a", "c"} {
			if got := tune.Note(l, key, 5); !slices.Equal(got, l) {
				t.Errorf("%d: Note: %v", i, got)
			}
		}
		if tune.Fill(l, 64, 8) != 0 || tune.Time(l, 64, 8) != 0 || tune.Score(l, 64, 8) != 0 {
			t.Errorf("%d fills", i)
		}
		if best, ok := tune.Best(l, 100, []int{1, 64}); best != 0 || ok {
			t.Errorf("%d: Best: %d", i, best)
		}
	}
}

func TestP21_1Note(t *testing.T) {
	l := []api.Seen{seen("b", 5, 1), seen("d", 6, 1000)}
	for i, c := range []struct {
		key  string
		size int
		want []api.Seen
	}{
		{"b", 9, []api.Seen{seen("b", 9, 2), l[1]}},
		{"b", 4096, []api.Seen{seen("b", 4096, 2), l[1]}},
		{"a", 1, []api.Seen{seen("a", 1, 1), l[0], l[1]}},
		{"c", 1, []api.Seen{l[0], seen("c", 1, 1), l[1]}},
		{"e", 1, []api.Seen{l[0], l[1], seen("e", 1, 1)}},
		{"", 1, []api.Seen{seen("", 1, 1), l[0], l[1]}},
		{"d", 6, l},
		{"b", 0, l},
		{"b", -1, l},
		{"b", 4097, l},
		{"c", 0, l},
		{"c", math.MaxInt, l},
	} {
		kept := slices.Clone(l)
		got := tune.Note(l, c.key, c.size)
		if !slices.Equal(got, c.want) || !slices.Equal(l, kept) {
			t.Errorf("%d: %v", i, got)
		}
		if got[0].Size = 77; l[0].Size == 77 {
			t.Fatalf("%d: an answer shares memory with what was handed in", i)
		}
	}
	long := full(5, 999)
	if got := tune.Note(long, "z", 5); !slices.Equal(got, long) {
		t.Error("a member too many")
	}
	if got := tune.Note(long, "k500", 6); got[500] != seen("k500", 6, 1000) || !slices.Equal(got[501:], long[501:]) {
		t.Error("a member of a full window")
	}
	if got := tune.Note(nil, "a", 3); !slices.Equal(got, []api.Seen{seen("a", 3, 1)}) {
		t.Errorf("the first member: %v", got)
	}
	spare := make([]api.Seen, 1, 4)
	spare[0] = l[0]
	if tune.Note(spare, "c", 3); spare[:2][1] != (api.Seen{}) {
		t.Error("spare room is changed")
	}
}

func great(n uint64) *big.Int { return new(big.Int).SetUint64(n) }

func held(n *big.Int) uint64 {
	if !n.IsUint64() {
		return most
	}
	return n.Uint64()
}

// part is Part as the chapter says it.
func part(s api.Seen, limit, time uint64) uint64 {
	if s.Size < 1 || s.N < 1 {
		return 0
	}
	odds := great(expo.Ratio(uint64(s.Size), limit))
	odds.Mul(odds, great(uint64(s.N)))
	odds.Mul(odds, great(time))
	if odds.Cmp(great(1<<63)) > 0 {
		odds.SetUint64(1 << 63)
	}
	n := new(big.Int).Mul(odds, great(api.One))
	return held(n.Quo(n, odds.Add(odds, great(api.One))))
}

// total is the sum of parts, each times the size, or the number.
func total(l []api.Seen, limit, time uint64, sizes bool) uint64 {
	all := new(big.Int)
	for _, s := range l {
		of := s.N
		if sizes {
			of = s.Size
		}
		all.Add(all, new(big.Int).Mul(great(uint64(of)), great(part(s, limit, time))))
	}
	return held(all)
}

func longest(l []api.Seen, limit, bytes uint64) uint {
	out := uint(0)
	room := held(new(big.Int).Mul(great(bytes), great(api.One)))
	for n := uint(0); n <= 32; n++ {
		if total(l, limit, 1<<n, true) <= room {
			out = n
		}
	}
	return out
}

func window(r *rand.Rand) []api.Seen {
	var out []api.Seen
	for i := range r.Intn(8) {
		out = append(out, seen(fmt.Sprint(i), 1+r.Intn(1+4095>>r.Intn(12)), 1+r.Intn(1+999>>r.Intn(10))))
	}
	return out
}

func TestP21_2(t *testing.T) {
	times := []uint64{0, 1, 2, 1 << 10, 1 << 32, 1 << 62, 1 << 63, most}
	limits := []uint64{0, 1, 2, 64, 1000, 1 << 16, most}
	for _, s := range []api.Seen{{}, seen("a", 1, 0), seen("a", 0, 1), seen("a", -1, 5), seen("a", 5, -1), seen("a", math.MinInt, math.MinInt), seen("a", 10, 5), seen("a", 10, 1), seen("a", 1, 1), seen("", 4096, 1000), seen("a", math.MaxInt, math.MaxInt), seen("a", 1, math.MaxInt)} {
		for _, limit := range limits {
			for _, time := range times {
				if n := tune.Part(s, limit, time); n != part(s, limit, time) {
					t.Errorf("Part(%v, %d, %d) = %d", s, limit, time, n)
				}
			}
		}
	}
	r := rand.New(rand.NewSource(36))
	for range 300 {
		l := window(r)
		kept := slices.Clone(l)
		limit, time := r.Uint64()>>(40+r.Intn(24)), r.Uint64()>>r.Intn(64)
		if n := tune.Fill(l, limit, time); n != total(l, limit, time, true) || !slices.Equal(l, kept) {
			t.Fatalf("Fill(%v, %d, %d) = %d", l, limit, time, n)
		}
	}
	if tune.Fill(nil, 64, 5) != 0 {
		t.Error("what fills of no window")
	}
}

func TestP21_3(t *testing.T) {
	r := rand.New(rand.NewSource(37))
	for range 300 {
		l := window(r)
		limit, bytes := r.Uint64()>>(44+r.Intn(20)), r.Uint64()>>(44+r.Intn(20))
		if n := tune.Time(l, limit, bytes); n != longest(l, limit, bytes) {
			t.Fatalf("Time(%v, %d, %d) = %d", l, limit, bytes, n)
		}
		want := total(l, limit, 1<<longest(l, limit, bytes), false)
		if n := tune.Score(l, limit, bytes); n != want {
			t.Fatalf("Score(%v, %d, %d) = %d", l, limit, bytes, n)
		}
	}
	one := []api.Seen{seen("a", 10, 5)}
	for i, c := range []struct {
		l           []api.Seen
		limit, most uint64
		want        uint
	}{{nil, 0, 0, 32}, {nil, 64, 0, 32}, {one, 0, 0, 32}, {one, 64, 0, 0}, {one, 64, 10, 32}, {one, 64, 1 << 32, 32}, {one, 64, most, 32}, {one, 64, 9, longest(one, 64, 9)}} {
		if n := tune.Time(c.l, c.limit, c.most); n != c.want {
			t.Errorf("%d: %d", i, n)
		}
	}
	if tune.Score(nil, 64, 10) != 0 || tune.Score(one, 0, 10) != 0 {
		t.Error("the score of nothing")
	}
}

func TestP21_3Best(t *testing.T) {
	one := []api.Seen{seen("a", 10, 5)}
	for i, c := range []struct {
		l     []api.Seen
		most  uint64
		grid  []int
		want  int
		found bool
	}{
		{one, 100, []int{1, 1000}, 1000, true},
		{one, 100, []int{1000, 1}, 1000, true},
		{one, 100, nil, 0, false},
		{one, 100, []int{1}, 1, true},
		{one, 100, []int{0, -1, math.MinInt}, 0, false},
		{one, 100, []int{0, 7, -1}, 7, true},
		{nil, 100, []int{9, 3, 5}, 3, true},
		{nil, 100, nil, 0, false},
		{one, 100, []int{math.MaxInt, 5}, 5, true},
		{one, 100, []int{math.MaxInt, 1}, math.MaxInt, true},
	} {
		kept := slices.Clone(c.grid)
		if best, ok := tune.Best(c.l, c.most, c.grid); best != c.want || ok != c.found || !slices.Equal(c.grid, kept) {
			t.Errorf("%d: %d, %v", i, best, ok)
		}
	}
}

func TestP21_4(t *testing.T) {
	r := rand.New(rand.NewSource(38))
	for range 500 {
		s := seen("a", 1+r.Intn(4096), 1+r.Intn(999))
		more := s
		more.N += 1 + r.Intn(100)
		limit, time := r.Uint64()>>(44+r.Intn(20)), r.Uint64()>>(1+r.Intn(63))
		n := tune.Part(s, limit, time)
		if n >= api.One || tune.Part(s, limit, time+1+time/2) < n || tune.Part(more, limit, time) < n {
			t.Fatalf("Part(%v, %d, %d) = %d", s, limit, time, n)
		}
		l := window(r)
		if tune.Fill(l, limit, time) > tune.Fill(l, limit, time+time/2) {
			t.Fatalf("what %v fills falls", l)
		}
		grid := make([]int, 1+r.Intn(6))
		for i := range grid {
			grid[i] = r.Intn(3000) - 100
		}
		bytes := uint64(r.Intn(5000))
		best, ok := tune.Best(l, bytes, grid)
		for _, g := range grid {
			if g < 1 {
				continue
			}
			score, top := tune.Score(l, uint64(g), bytes), tune.Score(l, uint64(best), bytes)
			if !ok || score > top || score == top && g < best {
				t.Fatalf("Best(%v, %d, %v) = %d", l, bytes, grid, best)
			}
		}
	}
}
