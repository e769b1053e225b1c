package coin_test

import (
	"encoding/binary"
	"math"
	"math/rand"
	"slices"
	"testing"

	"linhay/api"
	"linhay/coin"
	"linhay/expo"
)

const all = 1 << 32

// drawn is a tape of these draws.
func drawn(l ...uint32) api.Tape {
	var b []byte
	for _, n := range l {
		b = binary.LittleEndian.AppendUint32(b, n)
	}
	return api.Tape{Bytes: string(b)}
}

func TestP20_1Grid(t *testing.T) {
	for i, l := range [][]int{{1}, {1 << 16}, {1, 2, 3, 4, 5, 6, 7, 8}, {5, 100, 1 << 16}} {
		kept := slices.Clone(l)
		if !coin.Grid(l) || !slices.Equal(l, kept) {
			t.Errorf("%d may be", i)
		}
	}
	for i, l := range [][]int{nil, {}, {0}, {-1}, {1<<16 + 1}, {1, 1}, {2, 1}, {1, 2, 3, 4, 5, 6, 7, 8, 9}, {math.MinInt}, {math.MaxInt}, {1, math.MaxInt}, {5, 0}, {-5, 5}, {0, 5}} {
		if coin.Grid(l) {
			t.Errorf("%d may not be", i)
		}
	}
}

func TestP20_1Check(t *testing.T) {
	grid := []int{1, 64}
	for i, c := range []api.Config{
		{Cap: 1},
		{Cap: 1 << 16, Kind: 3, Grid: []int{}},
		{Cap: 10, Kind: 1, Admit: 1, Limit: 1},
		{Cap: 10, Kind: 2, Admit: 1, Limit: 4096},
		{Cap: 10, Admit: 2, Limit: 1, Window: 1, Grid: grid},
		{Cap: 10, Kind: 3, Admit: 2, Limit: 1 << 16, Window: 1000, Grid: []int{1, 2, 3, 4, 5, 6, 7, 1 << 16}},
	} {
		if e := coin.Check(c); e != api.OK {
			t.Errorf("%d: %d", i, e)
		}
	}
	for i, c := range []api.Config{
		{},
		{Cap: -1},
		{Cap: math.MinInt},
		{Cap: 1<<16 + 1},
		{Cap: 10, Kind: -1},
		{Cap: 10, Kind: 4},
		{Cap: 10, Admit: -1},
		{Cap: 10, Admit: 3},
		{Cap: 10, Admit: 3, Limit: 5, Window: 5, Grid: grid},
		{Cap: 10, Limit: 1},
		{Cap: 10, Limit: -1},
		{Cap: 10, Window: 1},
		{Cap: 10, Grid: grid},
		{Cap: 10, Admit: 1},
		{Cap: 10, Admit: 1, Limit: -1},
		{Cap: 10, Admit: 1, Limit: 4097},
		{Cap: 10, Admit: 1, Limit: 5, Window: 1},
		{Cap: 10, Admit: 1, Limit: 5, Grid: grid},
		{Cap: 0, Admit: 1, Limit: 5},
		{Cap: 10, Admit: 2, Limit: 0, Window: 5, Grid: grid},
		{Cap: 10, Admit: 2, Limit: 1<<16 + 1, Window: 5, Grid: grid},
		{Cap: 10, Admit: 2, Limit: 5, Window: 0, Grid: grid},
		{Cap: 10, Admit: 2, Limit: 5, Window: -1, Grid: grid},
		{Cap: 10, Admit: 2, Limit: 5, Window: 1001, Grid: grid},
		{Cap: 10, Admit: 2, Limit: 5, Window: 5},
		{Cap: 10, Admit: 2, Limit: 5, Window: 5, Grid: []int{2, 1}},
		{Cap: 10, Kind: 4, Admit: 2, Limit: 5, Window: 5, Grid: grid},
	} {
		if e := coin.Check(c); e != api.ErrConfig {
			t.Errorf("%d: %d", i, e)
		}
	}
}

func TestP20_2(t *testing.T) {
	for i, c := range []struct {
		admit, limit, size int
		want               uint64
	}{
		{0, 0, 1, all}, {0, 0, math.MaxInt, all}, {0, -1, 1, all}, {0, 0, 0, 0}, {0, 0, -1, 0}, {0, 5, math.MinInt, 0},
		{1, 5, 5, all}, {1, 5, 6, 0}, {1, 5, 1, all}, {1, 5, 0, 0}, {1, 5, -1, 0}, {1, 0, 1, 0}, {1, -5, -6, 0}, {1, math.MaxInt, math.MaxInt, all},
		{2, 64, 64, 1580030168}, {2, 1, 1, 1580030168}, {2, 64, 0, 0}, {2, 64, -1, 0}, {2, 0, 1, 0}, {2, -1, 1, 0}, {2, math.MinInt, 1, 0}, {2, 1, 31, expo.Ratio(31, 1)}, {2, 1, 32, 0},
		{2, 64, 2048, 0}, {2, 64, 2047, expo.Ratio(2047, 64)}, {2, math.MaxInt, 1, all}, {2, 7, math.MaxInt, 0}, {2, 1000, 3, expo.Ratio(3, 1000)},
		{3, 64, 1, 0}, {-1, 64, 1, 0}, {math.MaxInt, 1, 1, 0},
	} {
		if n := coin.Chance(api.Config{Admit: c.admit, Limit: c.limit}, c.size); n != c.want {
			t.Errorf("%d: %d", i, n)
		}
	}
}

func TestP20_3(t *testing.T) {
	x := drawn(1580030168, 1580030167, 1<<32-1)
	for i, c := range []struct {
		admit, limit, size, at int
		want                   bool
		next                   int
	}{
		{2, 64, 64, 0, false, 1},
		{2, 64, 64, 1, true, 2},
		{2, 64, 1, 2, false, 3},
		{2, 64, 1419, 3, true, 3},
		{2, 64, 1420, 3, false, 3},
		{2, 64, 2048, 3, false, 3},
		{2, 64, 4096, 0, false, 1},
		{2, 0, 5, 0, false, 1},
		{2, 64, 0, 1, false, 2},
		{2, 64, 5, -1, true, -1},
		{0, 0, 4096, 2, true, 2},
		{0, 0, 0, 2, false, 2},
		{1, 64, 64, 2, true, 2},
		{1, 64, 65, 3, false, 3},
		{3, 64, 1, 1, false, 1},
		{-1, 64, 1, 1, false, 1},
	} {
		x.At = c.at
		in, y := coin.Admit(api.Config{Admit: c.admit, Limit: c.limit}, x, c.size)
		if in != c.want || y != (api.Tape{Bytes: x.Bytes, At: c.next}) {
			t.Errorf("%d: %v, %d", i, in, y.At)
		}
	}
	// At the end of the tape all comes in that has a chance: what is less than a draw of 2^32 is none.
	for size := 1; size <= 4096; size++ {
		if in, _ := coin.Admit(api.Config{Admit: api.Coin, Limit: 64}, api.Tape{}, size); in != (size < 1420) || in != (expo.Ratio(uint64(size), 64) > 0) {
			t.Fatalf("the size %d at the end of the tape: %v", size, in)
		}
	}
}

func TestP20_4(t *testing.T) {
	r := rand.New(rand.NewSource(35))
	for range 5000 {
		c := api.Config{Admit: r.Intn(3), Limit: 1 + r.Intn(100)}
		x := drawn(r.Uint32())
		size := 1 + r.Intn(300)
		small, _ := coin.Admit(c, x, size)
		large, y := coin.Admit(c, x, size+r.Intn(100))
		if large && !small {
			t.Fatalf("%v: what is greater than %d comes in", c, size)
		}
		if c.Admit != api.Coin && y != x {
			t.Fatalf("%v asks for a draw", c)
		}
		chance := coin.Chance(c, size)
		if chance > 0 {
			if in, _ := coin.Admit(c, drawn(uint32(chance-1)), size); !in {
				t.Fatalf("%v, %d: the last draw that lets in does not", c, size)
			}
		}
		if chance < all {
			if in, _ := coin.Admit(c, drawn(uint32(chance)), size); in && c.Admit == api.Coin {
				t.Fatalf("%v, %d: the first draw that does not let in does", c, size)
			}
		}
	}
}
