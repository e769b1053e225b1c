package class_test

import (
	"math"
	"slices"
	"testing"

	"linhay/api"
	"linhay/class"
)

var none = []int{-1, -2, 4, 5, 64, 256, math.MinInt, math.MaxInt}

func TestP10_1(t *testing.T) {
	for c, want := range []int{8, 16, 32, 64} {
		if class.Bytes(c) != want || class.Slots(c) != 512/want {
			t.Errorf("the class %d: %d, %d", c, class.Bytes(c), class.Slots(c))
		}
	}
	for _, c := range none {
		if class.Bytes(c) != 0 || class.Slots(c) != 0 {
			t.Errorf("no class %d: %d, %d", c, class.Bytes(c), class.Slots(c))
		}
	}
	for n := -3; n < 200; n++ {
		want := -1
		switch {
		case n < 1 || n > 64:
		case n <= 8:
			want = 0
		case n <= 16:
			want = 1
		case n <= 32:
			want = 2
		default:
			want = 3
		}
		if class.Fit(n) != want {
			t.Errorf("Fit(%d) = %d", n, class.Fit(n))
		}
	}
	if class.Fit(math.MinInt) != -1 || class.Fit(math.MaxInt) != -1 {
		t.Error("the class of no size")
	}
}

func TestP10_2Cut(t *testing.T) {
	for _, size := range []int{0, -1, math.MinInt, 4097, math.MaxInt} {
		if l, e := class.Cut(size); len(l) != 0 || e != api.ErrSize {
			t.Errorf("Cut(%d) = %v, %d", size, l, e)
		}
	}
	for size := 1; size <= 4096; size++ {
		want := slices.Repeat([]int{3}, size/64)
		if size%64 > 0 {
			want = append(want, class.Fit(size%64))
		}
		if l, e := class.Cut(size); e != api.OK || !slices.Equal(l, want) {
			t.Fatalf("Cut(%d) = %v, %d", size, l, e)
		}
	}
	if l, _ := class.Cut(150); !slices.Equal(l, []int{3, 3, 2}) {
		t.Errorf("the example's size: %v", l)
	}
}

func TestP10_2Room(t *testing.T) {
	for i, c := range []struct {
		l    []int
		want int
	}{{nil, 0}, {[]int{}, 0}, {[]int{0}, 8}, {[]int{0, 1, 2, 3}, 120}, {[]int{3, 3, 2}, 160}, {none, 0}, {[]int{-1, 2, 4, 2}, 64}} {
		kept := slices.Clone(c.l)
		if class.Room(c.l) != c.want || !slices.Equal(c.l, kept) {
			t.Errorf("%d: %d", i, class.Room(c.l))
		}
	}
}

func TestP10_3(t *testing.T) {
	last := 0
	for size := 1; size <= 4096; size++ {
		l, _ := class.Cut(size)
		room := class.Room(l)
		over := room - size
		if over < 0 || over >= 8 && 2*over >= class.Bytes(l[len(l)-1]) {
			t.Fatalf("%d bytes have %d over", size, over)
		}
		if room < last {
			t.Fatalf("%d bytes have less room than one less", size)
		}
		last = room
	}
}
