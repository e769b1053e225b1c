package tape_test

import (
	"math"
	"math/rand"
	"slices"
	"testing"

	"linhay/api"
	"linhay/tape"
)

const example = "\x01\x00\x00\x00\x00\x01\x00\x00\x07"

func text(r *rand.Rand, n int) string {
	b := make([]byte, n)
	r.Read(b)
	return string(b)
}

func TestP8_1(t *testing.T) {
	for _, c := range []struct {
		at   int
		want uint32
		next int
		left int
	}{
		{0, 1, 1, 2},
		{1, 256, 2, 1},
		{2, 0, 2, 0},
		{3, 0, 3, 0},
		{-1, 0, -1, 2},
		{math.MinInt, 0, math.MinInt, 2},
		{math.MaxInt, 0, math.MaxInt, 0},
		{1 << 62, 0, 1 << 62, 0},
	} {
		x := api.Tape{Bytes: example, At: c.at}
		n, y := tape.Draw(x)
		if n != c.want || y != (api.Tape{Bytes: example, At: c.next}) || tape.Left(x) != c.left {
			t.Errorf("at %d: %d, %v, %d", c.at, n, y, tape.Left(x))
		}
	}
	if n, y := tape.Draw(api.Tape{Bytes: "\x04\x03\x02\xff"}); n != 0xff020304 || y.At != 1 {
		t.Errorf("the lowest byte first: %x", n)
	}
	for n := range 13 {
		if tape.Left(api.Tape{Bytes: example + example[:n%5]}) != (9+n%5)/4 {
			t.Errorf("Left of %d bytes", 9+n%5)
		}
	}
}

func TestP8_2Pick(t *testing.T) {
	x := api.Tape{Bytes: "\xff\xff\xff\xff\x00\x00\x00\x80\xff\xff\xff\x7f"}
	for _, c := range []struct{ at, n, want, next int }{
		{0, 10, 9, 1}, {1, 10, 5, 2}, {2, 10, 4, 3}, {3, 10, 0, 3},
		{0, 1, 0, 1}, {0, 0, 0, 0}, {0, -1, 0, 0}, {0, math.MinInt, 0, 0},
		{0, 1<<31 - 1, 1<<31 - 2, 1}, {0, 1 << 31, 0, 0}, {0, math.MaxInt, 0, 0},
		{1, 1<<31 - 1, 1<<30 - 1, 2}, {-5, 10, 0, -5},
	} {
		x.At = c.at
		if n, y := tape.Pick(x, c.n); n != c.want || y != (api.Tape{Bytes: x.Bytes, At: c.next}) {
			t.Errorf("Pick at %d of %d: %d, %d", c.at, c.n, n, y.At)
		}
	}
}

// some is Some as the chapter says it.
func some(x api.Tape, n, many int) ([]int, api.Tape) {
	gone, out := map[int]bool{}, []int{}
	for len(out) < many && len(out) < n {
		var left []int
		for i := range n {
			if !gone[i] {
				left = append(left, i)
			}
		}
		var at int
		at, x = tape.Pick(x, len(left))
		out, gone[left[at]] = append(out, left[at]), true
	}
	return out, x
}

func TestP8_2Some(t *testing.T) {
	r := rand.New(rand.NewSource(16))
	for range 3000 {
		x := api.Tape{Bytes: text(r, r.Intn(60)), At: r.Intn(4) - 1}
		n, many := 1+r.Intn(20), 1+r.Intn(25)
		want, wantX := some(x, n, many)
		if got, y := tape.Some(x, n, many); !slices.Equal(got, want) || y != wantX {
			t.Fatalf("Some(%v, %d, %d) = %v, %v", x, n, many, got, y)
		}
	}
	x := api.Tape{Bytes: text(r, 5000), At: 3}
	for _, c := range [][2]int{{0, 5}, {-1, 5}, {math.MinInt, 5}, {1001, 5}, {math.MaxInt, 1}, {10, 0}, {10, -1}, {10, math.MinInt}} {
		if got, y := tape.Some(x, c[0], c[1]); len(got) != 0 || y != x {
			t.Errorf("Some of %d, %d: %v, %d", c[0], c[1], got, y.At)
		}
	}
	for _, c := range [][3]int{{1000, 1000, 1000}, {1000, math.MaxInt, 1000}, {1000, 1, 1}, {1, 1, 1}, {3, math.MaxInt, 3}} {
		if got, y := tape.Some(x, c[0], c[1]); len(got) != c[2] || y.At != 3+c[2] {
			t.Errorf("Some of %d, %d: %d of them, %d", c[0], c[1], len(got), y.At)
		}
	}
}

func TestP8_3(t *testing.T) {
	r := rand.New(rand.NewSource(17))
	for range 300 {
		x := api.Tape{Bytes: text(r, r.Intn(80))}
		many := tape.Left(x)
		y := x
		for i := range many + 3 {
			var n uint32
			n, y = tape.Draw(y)
			var want uint32
			if i < many {
				for j := range 4 {
					want += uint32(x.Bytes[4*i+j]) << (8 * j)
				}
			}
			if n != want || y.At != min(i+1, many) {
				t.Fatalf("the draw %d of %q: %d", i, x.Bytes, n)
			}
		}
		n := 1 + r.Intn(1000)
		if got, _ := tape.Pick(x, n); got < 0 || got >= n {
			t.Fatalf("Pick of %d: %d", n, got)
		}
		got, _ := tape.Some(x, n, 1+r.Intn(n))
		slices.Sort(got)
		if len(slices.Compact(slices.Clone(got))) != len(got) || got[0] < 0 || got[len(got)-1] >= n {
			t.Fatalf("Some of %d: %v", n, got)
		}
	}
	// At the end all draws are 0: what is told rises from 0 on.
	if got, _ := tape.Some(api.Tape{}, 5, 4); !slices.Equal(got, []int{0, 1, 2, 3}) {
		t.Errorf("Some at the end: %v", got)
	}
}
